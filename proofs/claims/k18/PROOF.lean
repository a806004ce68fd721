import PyProof.Rows.All
import Wide.All
import OpenK.AllK
import Wide.FinOn
import Lean
import PyProof.EqAt
import PyProof.EqKinds
import PyProof.TupleCall
import PyProof.Rows.SetFrom
import KE.KSortTup
import PyProof.Draws
import PyProof.EnumMake
import PyProof.ListRange
import PyProof.Rows.EnumRows
import PyProof.SetRoads
import PyProof.Rows.MinMaxN
import PyProof.Rows.MaxTwoN
import PyProof.ZipIter
import KE.LcSums
import PySem.Challenge.RW_ringtrade_k18_bettered_step_by_step
set_option Elab.async false
set_option linter.all false
set_option maxRecDepth 100000
set_option maxHeartbeats 4000000
section
namespace L2
open PySem PySem.Spec PyProof.Rows
noncomputable abbrev Key := Sum Int Str
noncomputable def zia : Key→Value→Bool
  | .inl k,v => Value.isInt k v
  | .inr x,v => Value.isStrOf x v
noncomputable def keyH (w : World) : Key→Int
  | .inl k => hashInt k
  | .inr x => hashStr w x
theorem keyIs_shape : ∀ {k : Key} {v : Value},zia k v = true→(∃ i t,k = Sum.inl i∧v = Value.int i t)∨(∃ x t,k = Sum.inr x∧v = Value.str x t)
  | .inl i,v,h => by
    obtain ⟨t,e⟩ := Value.isInt_shape (k := i) (v := v) h
    exact .inl ⟨i,t,rfl,e⟩
  | .inr x,v,h => by
    obtain ⟨t,e⟩ := Value.isStrOf_shape (x := x) (v := v) h
    exact .inr ⟨x,t,rfl,e⟩
theorem zjn (i : Int) (t : Tok) : zia (.inl i) (.int i t) = true := by simp [zia,Value.isInt]
theorem zjm (x : Str) (t : Tok) : zia (.inr x) (.str x t) = true := by simp [zia,Value.isStrOf]
theorem zoj (a b : Int) : decide ((Sum.inl a : Key) = Sum.inl b) = (a == b) := by
  by_cases e : a = b
  · subst e; simp
  · have h : ¬ (Sum.inl a : Key) = Sum.inl b := fun q => e (Sum.inl.inj q)
    rw [decide_eq_false h]
    exact (beq_eq_false_iff_ne.mpr e).symm
theorem zog (a b : Str) : decide ((Sum.inr a : Key) = Sum.inr b) = decide (a = b) := by
  by_cases e : a = b
  · subst e; simp
  · have h : ¬ (Sum.inr a : Key) = Sum.inr b := fun q => e (Sum.inr.inj q)
    rw [decide_eq_false h,decide_eq_false e]
theorem zoi (a : Int) (b : Str) : decide ((Sum.inl a : Key) = Sum.inr b) = false := decide_eq_false (fun q => nomatch q)
theorem zoh (a : Str) (b : Int) : decide ((Sum.inr a : Key) = Sum.inl b) = false := decide_eq_false (fun q => nomatch q)
noncomputable def zbi (prog : Program) (w : World) : PySem.KeyKind prog w Key where
  is := zia
  hash := keyH w
  inj := fun v a b ha hb => by
    rcases keyIs_shape ha with ⟨i,t,rfl,rfl⟩ | ⟨x,t,rfl,rfl⟩
    · rcases keyIs_shape hb with ⟨j,u,rfl,e⟩ | ⟨y,u,rfl,e⟩
      · injection e with e1 _; rw [e1]
      · exact nomatch e
    · rcases keyIs_shape hb with ⟨j,u,rfl,e⟩ | ⟨y,u,rfl,e⟩
      · exact nomatch e
      · injection e with e1 _; rw [e1]
  byValue := fun k v h => by
    rcases keyIs_shape h with ⟨i,t,rfl,rfl⟩ | ⟨x,t,rfl,rfl⟩ <;> rfl
  pyHash := fun hv h => by
    rcases keyIs_shape hv with ⟨i,t,rfl,rfl⟩ | ⟨x,t,rfl,rfl⟩
    · exact wpAny_pyHash_int h
    · exact wpAny_pyHash_str h
  eqBool := fun hu hv h => by
    rcases keyIs_shape hu with ⟨i,t,rfl,rfl⟩ | ⟨x,t,rfl,rfl⟩
    · rcases keyIs_shape hv with ⟨j,u,rfl,rfl⟩ | ⟨y,u,rfl,rfl⟩
      · rw [zoj] at h; exact wpAny_eqBool_int h
      · rw [zoi] at h; exact SeqAt.EqAt.int_str i t y u _ _ _ _ h
    · rcases keyIs_shape hv with ⟨j,u,rfl,rfl⟩ | ⟨y,u,rfl,rfl⟩
      · rw [zoh] at h; exact SeqAt.EqAt.str_int x t j u _ _ _ _ h
      · rw [zog] at h; exact wpAny_eqBool_str h
  «strs» := fun k x t v h => by
    rcases keyIs_shape h with ⟨i,u,rfl,e⟩ | ⟨y,u,rfl,e⟩
    · exact nomatch e
    · injection e with e1 _
      subst e1
      cases v <;> rfl
theorem zgY (prog : Program) (w : World) (i : Int) (t : Tok) : (zbi prog w).is (.inl i) (.int i t) = true := zjn i t
theorem zgX (prog : Program) (w : World) (x : Str) (t : Tok) : (zbi prog w).is (.inr x) (.str x t) = true := zjm x t
end L2
namespace L2
open PySem PySem.Spec PyProof.Rows
inductive V where
  | non | bl (b : Bool) | int (i : Int) | str (x : Str) | byt (b : Array UInt8) | flt (b : UInt64) | ref (a : Addr) | ty (n : String)
  deriving DecidableEq
noncomputable def RelV : V→Value→Prop
  | .non,u => u = Value.none
  | .bl b,u => u = Value.bool b
  | .int i,u => ∃ t,u = Value.int i t
  | .str x,u => ∃ t,u = Value.str x t
  | .byt b,u => ∃ t,u = Value.bytes b t
  | .flt b,u => ∃ t,u = Value.float b t
  | .ref a,u => u = Value.ref a
  | .ty n,u => u = Value.type n
noncomputable abbrev Vals : List V→List Value→Prop := Paired RelV
theorem Vals.length {xs : List V} {us : List Value} (r : Vals xs us) : xs.length = us.length := Paired.length r
theorem Vals.get : ∀ {xs : List V} {us : List Value} {i : Nat} {x : V},Vals xs us→xs[i]? = some x→∃ u,us[i]? = some u∧RelV x u
  | _,_,_,_,.nil,e => by simp at e
  | _,_,0,_,.cons r _,e => by simp at e; subst e; exact ⟨_,rfl,r⟩
  | _,_,i + 1,x,.cons _ t,e => by
    obtain ⟨u,h1,h2⟩ := Vals.get (i := i) (x := x) t (by simpa using e)
    exact ⟨u,by simpa using h1,h2⟩
theorem Vals.set {x : V} {u : Value} (r : RelV x u) : ∀ {xs : List V} {us : List Value} (i : Nat),Vals xs us→Vals (xs.set i x) (us.set i u)
  | _,_,_,.nil => .nil
  | _,_,0,.cons _ t => .cons r t
  | _,_,i + 1,.cons q t => .cons q (Vals.set r i t)
theorem Vals.append : ∀ {xs ys : List V} {us ws : List Value},Vals xs us→Vals ys ws→Vals (xs++ys) (us++ws)
  | _,_,_,_,.nil,s => s
  | _,_,_,_,.cons r t,s => .cons r (Vals.append t s)
theorem Vals.take : ∀ {xs : List V} {us : List Value} (n : Nat),Vals xs us→Vals (xs.take n) (us.take n)
  | _,_,0,_ => .nil
  | _,_,_ + 1,.nil => .nil
  | _,_,n + 1,.cons r t => .cons r (Vals.take n t)
theorem Vals.drop : ∀ {xs : List V} {us : List Value} (n : Nat),Vals xs us→Vals (xs.drop n) (us.drop n)
  | _,_,0,r => r
  | _,_,_ + 1,.nil => .nil
  | _,_,n + 1,.cons _ t => Vals.drop n t
noncomputable def RelO : Option V→Option Value→Prop
  | some v,some u => RelV v u
  | none,none => True
  | _,_ => False
noncomputable def KV {κ : Type} : List (κ × V)→List (κ × Value)→Prop := Paired fun (p : κ × V) (q : κ × Value) => p.1 = q.1∧RelV p.2 q.2
noncomputable def kV : Key→V
  | .inl i => .int i
  | .inr x => .str x
inductive HO where
  | lst (xs : List V)
  | tup (xs : List V)
  | dK (kvs : List (Key × V)) | dT (kvs : List (List Key × V))
  | set (S : Int→Bool) (n : Nat)
  | ins (C dx : Addr) (fs : List (Str × V))
  | own (x : Addr)
  | xd (fs : List (Str × V))
  | met (f x : Addr)
  | rng (lo hi : Int)
  | frz (o : Obj) (u : HO)
  | tbl (ps : Array Value)
  | ext (φ : Heap→Prop)
noncomputable abbrev Hp := Addr→Option HO
noncomputable def upd (H : Hp) (a : Addr) (o : HO) : Hp := fun b => if b = a then some o else H b
theorem zar {H : Hp} {a : Addr} {o : HO} : upd H a o a = some o := by unfold upd; rw [if_pos rfl]
theorem zaC {H : Hp} {a b : Addr} {o : HO} (h : b≠a) : upd H a o b = H b := by unfold upd; rw [if_neg h]
theorem zpF {H : Hp} {a b : Addr} {o u : HO} (h : H a = some o) (h' : H b = some u) (d : o≠u) : a≠b := by
  intro e; subst e; rw [h] at h'; exact d (Option.some.inj h')
theorem zbC {H : Hp} {a b : Addr} {o : HO} (h : H a = some o) (h' : H b = none) : a≠b := by
  intro e; subst e; rw [h] at h'; cases h'
section
variable (P : Program) (w : World)
noncomputable def zbe (H : Hp) (h : Heap) (a : Addr) : HO→Prop
  | .lst xs => xs.length≤sizeLine∧∃ (its : List Value) (n : Nat),Vals xs its∧h.get? a = some { cls := .type "list",data := .seq its.toArray n }
  | .tup xs => xs.length≤sizeLine∧∃ its : List Value,Vals xs its∧IsTup h a its.toArray∧∃ o,h.get? a = some o∧o.dict = none
  | .dK kvs => kvs.length≤sizeLine∧(a == sysModules) = false∧∃ vs,KV kvs vs∧h.DictOf (zbi P w) a vs
  | .dT kvs => kvs.length≤sizeLine∧(a == sysModules) = false∧∃ xs : List (List Key × Addr × Value),
      Paired (fun (p : List Key × V) (q : List Key × Addr × Value) => p.1 = q.1∧H q.2.1 = some (.tup (p.1.map kV))∧RelV p.2 q.2.2) kvs xs ∧
      ∃ o es ep,h.get? a = some o∧o.ExactDict∧o.data = .dict es ep∧es.toList = xs.map (entryOfKey (tupleKind (zbi P w)))∧(xs.map (·.1)).Nodup
  | .set S n => h.SetOf (intKind P w) a S n
  | .ins C dx fs => H dx = some (.own a)∧fs.length≤1000∧dx≠a∧h.get? a = some (PySem.W.instObj C dx) ∧
      ∃ mA,h.Ns1 dx mA∧(∀ f,RelO (fs.lookup f) (mA f))∧PySem.Within mA (fs.map (·.1))
  | .own _ => ∃ o,h.get? a = some o
  | .xd fs => ∃ mA,h.Ns1 a mA∧∀ f,RelO (fs.lookup f) (mA f)
  | .rng lo hi => ∃ t u v,h.get? a = some { cls := .type "range",data := .fields #[.int lo t,.int hi u,.int 1 v] }
  | .frz o u => h.get? a = some o∧zbe H h a u
  | .tbl ps => h.get? a = some { cls := .none,data := .fields ps }
  | .met f x => h.get? a = some (PySem.W.methodObj (.ref f) (.ref x))
  | .ext φ => φ h∧(∃ o,h.get? a = some o)∧∀ h1 h2 : Heap,φ h1→(∀ o,h1.get? a = some o→h2.get? a = some o)→φ h2
noncomputable def HOk (H : Hp) (h : Heap) : Prop := ∀ a o,H a = some o→zbe P w H h a o
end
section
variable {P : Program} {w : World} {H H' : Hp} {h h' : Heap} {a : Addr} {o : HO}
theorem zbe.lt (x : zbe P w H h a o) : a < h.objs.size := by
  cases o with
  | lst xs => obtain ⟨_,_,_,_,e⟩ := x; exact Heap.lt_size e
  | tup xs => obtain ⟨_,_,_,p,_⟩ := x; exact p.lt
  | dK kvs => obtain ⟨_,_,_,_,o,_,_,e,_⟩ := x; exact Heap.lt_size e
  | dT kvs => obtain ⟨_,_,_,_,o,_,_,e,_⟩ := x; exact Heap.lt_size e
  | set S n => obtain ⟨o,_,_,_,e,_⟩ := x; exact Heap.lt_size e
  | ins C dx fs => obtain ⟨_,_,_,e,_⟩ := x; exact Heap.lt_size e
  | own y => obtain ⟨_,e⟩ := x; exact Heap.lt_size e
  | xd fs => obtain ⟨_,⟨_,_,_,e,_⟩,_⟩ := x; exact Heap.lt_size e
  | rng lo hi => obtain ⟨_,_,_,e⟩ := x; exact Heap.lt_size e
  | frz ob u => obtain ⟨e,_⟩ := x; exact Heap.lt_size e
  | tbl ps => exact Heap.lt_size (show h.get? a = some _ from x)
  | met f y => exact Heap.lt_size (show h.get? a = some _ from x)
  | ext φ => obtain ⟨_,⟨_,e⟩,_⟩ := x; exact Heap.lt_size e
theorem Paired.mapP {α β : Type} {F G : α→β→Prop} : ∀ {l₁ : List α} {l₂ : List β},Paired F l₁ l₂→(∀ a b,F a b→G a b)→Paired G l₁ l₂
  | _,_,.nil,_ => .nil
  | _,_,.cons r t,f => .cons (f _ _ r) (Paired.mapP t f)
theorem zbe.stay (x : zbe P w H h a o) (k : ∀ b u,(b = a∨H b = some (.own a))→h.get? b = some u→h'.get? b = some u)
    (ho : ∀ b,H b = some (.own a)→H' b = some (.own a)) (ht : ∀ b xs,H b = some (.tup xs)→H' b = some (.tup xs)) : zbe P w H' h' a o := by
  induction o with
  | lst xs => obtain ⟨z,its,n,r,e⟩ := x; exact ⟨z,its,n,r,k _ _ (.inl rfl) e⟩
  | tup xs => obtain ⟨z,its,r,⟨ob,e,c⟩,ob2,e2,c2⟩ := x; exact ⟨z,its,r,⟨ob,k _ _ (.inl rfl) e,c⟩,ob2,k _ _ (.inl rfl) e2,c2⟩
  | dK kvs => obtain ⟨z,y,vs,r,ob,es,ep,e,c⟩ := x; exact ⟨z,y,vs,r,ob,es,ep,k _ _ (.inl rfl) e,c⟩
  | dT kvs =>
    obtain ⟨z,y,xs,r,ob,es,ep,e,c⟩ := x
    exact ⟨z,y,xs,Paired.mapP r fun p q z => ⟨z.1,ht _ _ z.2.1,z.2.2⟩,ob,es,ep,k _ _ (.inl rfl) e,c⟩
  | set S n => obtain ⟨ob,es,ep,t,e,c⟩ := x; exact ⟨ob,es,ep,t,k _ _ (.inl rfl) e,c⟩
  | ins C dx fs =>
    obtain ⟨d,z,ne,e,mA,⟨od,es,ep,e2,c⟩,r⟩ := x
    exact ⟨ho _ d,z,ne,k _ _ (.inl rfl) e,mA,⟨od,es,ep,k _ _ (.inr d) e2,c⟩,r⟩
  | own y => obtain ⟨ob,e⟩ := x; exact ⟨ob,k _ _ (.inl rfl) e⟩
  | xd fs => obtain ⟨mA,⟨od,es,ep,e,c⟩,r⟩ := x; exact ⟨mA,⟨od,es,ep,k _ _ (.inl rfl) e,c⟩,r⟩
  | rng lo hi => obtain ⟨t,u,v,e⟩ := x; exact ⟨t,u,v,k _ _ (.inl rfl) e⟩
  | frz ob u ih => obtain ⟨e,q⟩ := x; exact ⟨k _ _ (.inl rfl) e,ih q⟩
  | tbl ps =>
    have e : h.get? a = some { cls := .none,data := .fields ps } := x
    show h'.get? a = some { cls := .none,data := .fields ps }
    exact k a _ (.inl rfl) e
  | met f y =>
    have e : h.get? a = some (PySem.W.methodObj (.ref f) (.ref y)) := x
    show h'.get? a = some (PySem.W.methodObj (.ref f) (.ref y))
    exact k a _ (.inl rfl) e
  | ext φ => obtain ⟨p,⟨o,e⟩,st⟩ := x; exact ⟨st _ _ p fun o q => k _ _ (.inl rfl) q,⟨o,k _ _ (.inl rfl) e⟩,st⟩
theorem HOk.lt (x : HOk P w H h) (e : H a = some o) : a < h.objs.size := (x a o e).lt
theorem HOk.fresh (x : HOk P w H h) (e : h.objs.size≤a) : H a = none := by
  cases q : H a with
  | none => rfl
  | some u => exact absurd (Nat.lt_of_lt_of_le (x.lt q) e) (Nat.lt_irrefl _)
theorem HOk.kept (x : HOk P w H h) (k : ∀ b u,h.get? b = some u→h'.get? b = some u) : HOk P w H h' := fun a o e =>
  (x a o e).stay (fun b u _ q => k b u q) (fun _ q => q) fun _ _ q => q
theorem HOk.laid (x : HOk P w H h) (k : ∀ b u,h.get? b = some u→h'.get? b = some u) (hp : h.objs.size≤a) (new : zbe P w (upd H a o) h' a o) : HOk P w (upd H a o) h' := fun b u e => by
  have hn := x.fresh hp
  by_cases hb : b = a
  · subst hb; rw [zar] at e; cases e; exact new
  · rw [zaC hb] at e
    exact (x b u e).stay (fun c v _ q => k c v q) (fun c q => by rw [zaC (zbC q hn)]; exact q) fun c xs q => by rw [zaC (zbC q hn)]; exact q
end
noncomputable def Rd (H : Hp) (a : Addr) (u : HO) : Prop := H a = some u∨∃ o,H a = some (.frz o u)
theorem Rd.ok {P : Program} {w : World} {H : Hp} {h : Heap} {a : Addr} {u : HO} (r : Rd H a u) (x : HOk P w H h) : zbe P w H h a u := by
  rcases r with r | ⟨o,r⟩
  · exact x a u r
  · obtain ⟨_,q⟩ := x a _ r
    exact q
noncomputable def Mut : Option HO→Prop
  | some (.lst _) => True
  | some (.dK _) => True
  | some (.dT _) => True
  | some (.set _ _) => True
  | some (.ins _ _ _) => True
  | some (.ext _) => True
  | _ => False
section
variable {P : Program} {w : World} {H : Hp} {h h' : Heap} {x e : Addr} {o' : HO}
theorem HOk.write (ok : HOk P w H h) (mu : Mut (H x)) (he : e = x∨H e = some (.own x)) (k : ∀ b u,b≠e→h.get? b = some u→h'.get? b = some u) (heo : ∃ u,h'.get? e = some u)
    (new : zbe P w (upd H x o') h' x o') : HOk P w (upd H x o') h' := fun b u q => by
  have nown : ∀ c y,H c = some (.own y)→c≠x := fun c y r z => by subst z; rw [r] at mu; exact mu
  have ntup : ∀ c xs,H c = some (.tup xs)→c≠x := fun c xs r z => by subst z; rw [r] at mu; exact mu
  by_cases hb : b = x
  · subst hb; rw [zar] at q; cases q; exact new
  · rw [zaC hb] at q
    by_cases hbe : b = e
    · have q' : H b = some (.own x) := by
        rcases he with z | z
        · exact absurd (hbe.trans z) hb
        · rw [hbe]; exact z
      rw [q] at q'; cases q'
      obtain ⟨v,hv⟩ := heo
      exact ⟨v,by rw [hbe]; exact hv⟩
    · refine (ok b u q).stay (fun c v hc r => k c v ?_ r) (fun c r => by rw [zaC (nown c b r)]; exact r) fun c xs r => by rw [zaC (ntup c xs r)]; exact r
      rcases hc with rfl | hc
      · exact hbe
      · rintro rfl
        rcases he with z | z
        · exact nown c b hc z
        · rw [hc] at z; cases z; exact hb rfl
end
structure Un (fs ex : List Addr) (H H' : Hp) (h h' : Heap) : Prop where
  keep : ∀ b o,h.get? b = some o→H b = none→b∉fs→b∉ex→h'.get? b = some o
  slot : ∀ b o,h.get? b = some o→H b = none→b∈fs→b∉ex→∃ sl,h'.get? b = some { o with slots := sl }
  free : ∀ b o,h.get? b = some o→H b = none→b∉ex→H' b = none
  there : ∀ b o,h.get? b = some o→b∉ex→∃ o',h'.get? b = some o'
  tups : ∀ b xs,H b = some (.tup xs)→H' b = some (.tup xs)
  frzs : ∀ b o u,H b = some (.frz o u)→H' b = some (.frz o u)
  tbls : ∀ b ps,H b = some (.tbl ps)→∃ more,H' b = some (.tbl (ps++more))
section
variable {fs fs' ex ex' : List Addr} {H H1 H2 : Hp} {h h1 h2 h' : Heap} {a x e : Addr} {o : HO}
theorem Un.any (u : Un fs ex H H1 h h1) {b : Addr} {ob : Obj} (q : h.get? b = some ob) (n : H b = none) (hx : b∉ex) : ∃ sl,h1.get? b = some { ob with slots := sl } := by
  by_cases hb : b∈fs
  · exact u.slot b ob q n hb hx
  · exact ⟨ob.slots,u.keep b ob q n hb hx⟩
theorem Un.trans (a : Un fs ex H H1 h h1) (b : Un fs ex H1 H2 h1 h2) : Un fs ex H H2 h h2 where
  keep := fun c ob q n hc hx => b.keep c ob (a.keep c ob q n hc hx) (a.free c ob q n hx) hc hx
  slot := fun c ob q n hc hx => by
    obtain ⟨sl,e1⟩ := a.slot c ob q n hc hx
    obtain ⟨sl',e2⟩ := b.slot c _ e1 (a.free c ob q n hx) hc hx
    exact ⟨sl',e2⟩
  free := fun c ob q n hx => by
    obtain ⟨o',e1⟩ := a.there c ob q hx
    exact b.free c o' e1 (a.free c ob q n hx) hx
  there := fun c ob q hx => by
    obtain ⟨o',e1⟩ := a.there c ob q hx
    exact b.there c o' e1 hx
  tups := fun c xs q => b.tups c xs (a.tups c xs q)
  frzs := fun c ob xs q => b.frzs c ob xs (a.frzs c ob xs q)
  tbls := fun c ps q => by
    obtain ⟨m1,e1⟩ := a.tbls c ps q
    obtain ⟨m2,e2⟩ := b.tbls c _ e1
    exact ⟨m1++m2,by rw [e2,Array.append_assoc]⟩
theorem Un.kept (k : ∀ b u,h.get? b = some u→h'.get? b = some u) : Un fs ex H H h h' :=
  ⟨fun b ob q _ _ _ => k b ob q,fun b ob q _ _ _ => ⟨ob.slots,k b ob q⟩,fun _ _ _ n _ => n,fun b ob q _ => ⟨ob,k b ob q⟩,fun _ _ q => q,fun _ _ _ q => q,fun _ ps q => ⟨#[],by rw [q]; simp⟩⟩
theorem Un.refl : Un fs ex H H h h := Un.kept fun _ _ q => q
theorem Un.laid (k : ∀ b u,h.get? b = some u→h'.get? b = some u) (hp : h.objs.size≤a) (hn : H a = none) : Un fs ex H (upd H a o) h h' where
  keep := fun b u q _ _ _ => k b u q
  slot := fun b u q _ _ _ => ⟨u.slots,k b u q⟩
  free := fun b u q n _ => by rw [zaC (Nat.ne_of_lt (Nat.lt_of_lt_of_le (Heap.lt_size q) hp))]; exact n
  there := fun b u q _ => ⟨u,k b u q⟩
  tups := fun b xs q => by rw [zaC (zbC q hn)]; exact q
  frzs := fun b u xs q => by rw [zaC (zbC q hn)]; exact q
  tbls := fun b ps q => ⟨#[],by rw [zaC (zbC q hn),q]; simp⟩
theorem Un.write (mu : Mut (H x)) (he : e = x∨H e = some (.own x)) (k : ∀ b u,b≠e→h.get? b = some u→h'.get? b = some u) (heo : ∃ u,h'.get? e = some u) : Un fs ex H (upd H x o) h h' := by
  have hx : ∀ b,H b = none→b≠x := fun b n z => by subst z; rw [n] at mu; exact mu
  have hb : ∀ b,H b = none→b≠e := fun b n z => by
    subst z
    rcases he with r | r
    · exact hx b n r
    · rw [n] at r; cases r
  have hm : ∀ b u,H b = some u→¬ Mut (some u)→b≠x := fun b u q nm z => by subst z; rw [q] at mu; exact nm mu
  refine ⟨fun b u q n _ _ => k b u (hb b n) q,fun b u q n _ _ => ⟨u.slots,k b u (hb b n) q⟩,fun b u q n _ => by rw [zaC (hx b n)]; exact n,fun b u q _ => ?_,
    fun b xs q => by rw [zaC (hm b _ q fun z => z)]; exact q,fun b u xs q => by rw [zaC (hm b _ q fun z => z)]; exact q,fun b ps q => ⟨#[],by rw [zaC (hm b _ q fun z => z),q]; simp⟩⟩
  by_cases hbe : b = e
  · subst hbe; exact heo
  · exact ⟨u,k b u hbe q⟩
end
noncomputable def trk (h : Heap) (H : Hp) : List Addr := (List.range h.objs.size).filter fun a => (H a).isSome
noncomputable def hidT (h : Heap) (H : Hp) : Heap := PySem.W.hideAll h (trk h H)
theorem zjA (h : Heap) (H : Hp) : (hidT h H).objs.size = h.objs.size := PySem.W.hideAll_size _ _
theorem zkV {h : Heap} {H : Hp} {b : Addr} {o : Obj} (e : h.get? b = some o) (n : H b = none) : (hidT h H).get? b = some o :=
  PySem.W.hideAll_get _ e fun hm => by
    have q : (H b).isSome = true := (List.mem_filter.mp hm).2
    rw [n] at q; simp at q
theorem zmv {h : Heap} {H : Hp} {b : Addr} {o : Obj} (e : (hidT h H).get? b = some o) : h.get? b = some o∧H b = none := by
  have e' : h.get? b = some o := PySem.W.of_hideAll (trk h H) e
  refine ⟨e',?_⟩
  cases q : H b with
  | none => rfl
  | some x =>
    have hm : b∈trk h H := List.mem_filter.mpr ⟨List.mem_range.mpr (Heap.lt_size e'),by simp [q]⟩
    have z : (hidT h H).get? b = none := PySem.W.hideAll_none (trk h H) hm
    rw [z] at e; cases e
noncomputable def zmX (g h : Heap) (L : Addr) : List (Addr × Obj) := (List.range h.objs.size).filterMap fun a => if a = L∨(g.get? a).isSome = true then none else (h.get? a).map fun o => (a,o)
noncomputable def rest (g h : Heap) (L d : Addr) : List (Addr × Obj) := (zmX g h L).filter fun p => decide (p.1≠d)
end L2
namespace L2
open PySem PySem.Spec PyProof.Rows
structure Mod (K : PySem.W.Frag) (mg : Str→Option Value) (base : Heap) : Prop where
  kin : K.In base
  glob : base.Ns mainGlobals mg
  blt : ∃ mb,base.Ns builtinsNs mb∧∀ x : Str,x≠"__name__"→mb x = bootBuiltins x
  nolimit : base.NoLimit
structure Cx where
  prog : Program
  w : World
  K : PySem.W.Frag
  mg : Str→Option Value
  base : Heap
  A : Around
  N : List Str
  s₀ : Shared
  H₀ : Hp
  env : Env
  outer : List Env
  stack : List Env
  ex : List Addr
  fn : Str→Bool
  calm : Bool
  pn : List (Addr × Obj)
  xe : Value→Shared→Prop
noncomputable def frs (l : List Env) : List Addr := l.filterMap (·.frame)
noncomputable abbrev Cx.fs (X : Cx) : List Addr := frs X.outer
noncomputable def Vis (sc : Scope) (x : Str) : Prop := sc.names.lookup x = some .local∨sc.names.lookup x = some .cell∨sc.names.lookup x = some .free
noncomputable def Loc (sc : Scope) (x : Str) : Prop := sc.names.lookup x = some .local∨sc.names.lookup x = some .cell
noncomputable def Look (env : Env) (h : Heap) (m : Str→Option Value) (x : Str) (u : Value) : Prop :=
  (env.kindOf x = some .local∧m x = some u)∨((env.kindOf x = some .cell∨env.kindOf x = some .free)∧∃ c,env.cells.lookup x = some c∧h.IsCell c (some u))
structure Cx.Ok (X : Cx) : Prop where
  mod : Mod X.K X.mg X.base
  kind : X.env.scope.kind = .function
  glob : X.env.globals = mainGlobals
  blt : X.env.builtins = builtinsNs
  above : X.s₀.heap.objs.size≤X.env.locals
  inj : ∀ x y c,X.env.cells.lookup x = some c→X.env.cells.lookup y = some c→x = y
  has : ∀ x,(X.env.kindOf x = some .cell∨X.env.kindOf x = some .free)→∃ c,X.env.cells.lookup x = some c
  cab : ∀ x c,X.fn x = true→X.env.cells.lookup x = some c→X.s₀.heap.objs.size≤c
  hd : X.calm = true→X.A.handled = none
  frames : X.A.frames = some X.stack
  stk : X.stack = X.outer∨(X.stack = X.env::X.outer∧X.env.frame = some X.env.locals)
  exf : ∀ b∈X.ex,b≠X.env.locals∧∀ x c,X.env.cells.lookup x = some c→c≠b
  bs : ∀ b o,X.base.get? b = some o→X.s₀.heap.get? b = some o∧X.H₀ b = none
  bsz : X.base.objs.size≤X.s₀.heap.objs.size
  noex : ∀ b o,X.base.get? b = some o→b∉X.ex
  exfs : ∀ b∈X.ex,b∉X.fs
  funs : X.s₀.heap.FunFrames X.base X.outer
  frf : ∀ b∈X.fs,X.H₀ b = none
structure Inv (X : Cx) (pins : List (Addr × Obj)) (σ : List (Option V)) (H : Hp) (s : Shared) : Prop where
  ok : X.Ok
  os : s.os = X.s₀.os
  bare : AllBare s.gens
  base : Un X.fs X.ex X.H₀ H X.s₀.heap s.heap
  loc : ∃ m,s.heap.Ns X.env.locals m∧∀ (i : Nat) (x : Str) (v : V),X.N[i]? = some x→σ[i]? = some (some v)→Vis X.env.scope x→∃ u,RelV v u∧Look X.env s.heap m x u
  cell : ∀ x c,X.env.cells.lookup x = some c→∃ v,s.heap.IsCell c v
  free : H X.env.locals = none
  freeC : ∀ x c,X.env.cells.lookup x = some c→H c = none
  pin : ∀ p∈X.pn++pins,s.heap.get? p.1 = some p.2∧H p.1 = none∧p.1≠X.env.locals∧p.1∉X.fs∧∀ v,p.2.data≠.cell v
  hok : HOk X.prog X.w H s.heap
  len : σ.length = X.N.length
section
variable {X : Cx} {pins : List (Addr × Obj)} {σ : List (Option V)} {H H' : Hp} {s : Shared} {h' : Heap}
theorem Cx.Ok.nofr (ok : X.Ok) {b : Addr} {o : Obj} (e : X.base.get? b = some o) : b∉X.fs := fun hb => by
  have := (ok.funs.mem hb).1
  rw [e] at this; cases this
theorem Inv.bs (I : Inv X pins σ H s) : ∀ b o,X.base.get? b = some o→s.heap.get? b = some o∧H b = none := fun b o e =>
  ⟨I.base.keep b o (I.ok.bs b o e).1 (I.ok.bs b o e).2 (I.ok.nofr e) (I.ok.noex b o e),I.base.free b o (I.ok.bs b o e).1 (I.ok.bs b o e).2 (I.ok.noex b o e)⟩
theorem Inv.bk (I : Inv X pins σ H s) : ∀ b o,X.base.get? b = some o→s.heap.get? b = some o := fun b o e => (I.bs b o e).1
theorem Inv.mod (I : Inv X pins σ H s) : Mod X.K X.mg X.base := I.ok.mod
theorem Inv.kIn (I : Inv X pins σ H s) : X.K.In s.heap := I.ok.mod.kin.keeps I.bk
theorem Inv.nolimit (I : Inv X pins σ H s) : s.heap.NoLimit := I.ok.mod.nolimit.keeps I.bk
theorem Inv.fr (I : Inv X pins σ H s) : ∃ m,Fr X.base X.env.locals s.heap m :=
  let ⟨m,hn,_⟩ := I.loc
  ⟨m,hn,I.bk,Nat.le_trans I.ok.bsz I.ok.above⟩
theorem Inv.lt (I : Inv X pins σ H s) : X.env.locals < s.heap.objs.size := let ⟨_,hn,_⟩ := I.loc; hn.lt
theorem Inv.sz (I : Inv X pins σ H s) : X.s₀.heap.objs.size≤s.heap.objs.size := Nat.le_trans I.ok.above (Nat.le_of_lt I.lt)
theorem Inv.nofs (I : Inv X pins σ H s) {a : Addr} (h : s.heap.objs.size≤a) : a∉X.fs := fun hb => by
  obtain ⟨_,o,ho,_⟩ := I.ok.funs.mem hb
  exact absurd (Nat.lt_of_lt_of_le (Heap.lt_size ho) (Nat.le_trans I.sz h)) (Nat.lt_irrefl _)
theorem Inv.cne (I : Inv X pins σ H s) : ∀ x c,X.env.cells.lookup x = some c→c≠X.env.locals := fun x c e z => by
  obtain ⟨v,o,ho,hd⟩ := I.cell x c e
  obtain ⟨m,⟨o',es,ep,ho',hd',_⟩,_⟩ := I.loc
  rw [z,ho'] at ho; cases ho; rw [hd'] at hd; cases hd
theorem Inv.funs (I : Inv X pins σ H s) : s.heap.FunFrames X.base X.outer := by
  have all : ∀ (l : List Env),(∀ b∈frs l,b∈X.fs)→X.s₀.heap.FunFrames X.base l→s.heap.FunFrames X.base l := by
    intro l
    induction l with
    | nil => intro _ _; trivial
    | cons env r ih =>
      intro hs hl
      obtain ⟨hk,⟨L,o,hf,hn,ho,hd⟩,hr⟩ := hl
      have hL : L∈X.fs := hs L (by unfold frs; rw [List.filterMap_cons,hf]; exact List.mem_cons_self)
      obtain ⟨sl,e⟩ := I.base.slot L o ho (I.ok.frf L hL) hL fun z => I.ok.exfs L z hL
      exact ⟨hk,⟨L,_,hf,hn,e,hd⟩,ih (fun b hb => hs b (by unfold frs; rw [List.filterMap_cons,hf]; exact List.mem_cons_of_mem _ hb)) hr⟩
  exact all X.outer (fun _ hb => hb) I.ok.funs
theorem Inv.stack (I : Inv X pins σ H s) : s.heap.FunFrames X.base X.stack := by
  rcases I.ok.stk with e | ⟨e,hf⟩
  · rw [e]; exact I.funs
  · rw [e]
    obtain ⟨m,hn,_⟩ := I.loc
    refine .cons (by rw [I.ok.kind]; decide) hf hn ?_ I.funs
    exact Heap.get?_none_of_le (Nat.le_trans I.ok.bsz I.ok.above)
theorem Inv.stkSub (I : Inv X pins σ H s) : ∀ b∈frs X.stack,b∈X.env.locals::X.fs := fun b hb => by
  rcases I.ok.stk with e | ⟨e,hf⟩
  · rw [e] at hb; exact List.mem_cons_of_mem _ hb
  · rw [e] at hb
    unfold frs at hb
    rw [List.filterMap_cons,hf] at hb
    exact hb
theorem Inv.stkFree (I : Inv X pins σ H s) : ∀ b∈frs X.stack,H b = none := fun b hb => by
  rcases List.mem_cons.mp (I.stkSub b hb) with e | hb
  · rw [e]; exact I.free
  · obtain ⟨_,o,ho,_⟩ := I.ok.funs.mem hb
    exact I.base.free b o ho (I.ok.frf b hb) fun z => I.ok.exfs b z hb
theorem Inv.step {g' : Array GenState} {t' : Nat} {d' : Drawn} {ch : List Addr} (I : Inv X pins σ H s)
    (hch : ∀ b∈ch,(b∈X.ex∨X.s₀.heap.objs.size≤b)∧b≠X.env.locals∧(∀ x c,X.env.cells.lookup x = some c→c≠b)∧∀ p∈X.pn++pins,p.1≠b)
    (keep : ∀ b o,b≠X.env.locals→b∉X.fs→b∉ch→s.heap.get? b = some o→H b = none→h'.get? b = some o)
    (slot : ∀ b o,b≠X.env.locals→b∈X.fs→b∉ch→s.heap.get? b = some o→H b = none→∃ sl,h'.get? b = some { o with slots := sl }) (free : ∀ b o,b∉ch→s.heap.get? b = some o→H b = none→H' b = none)
    (there : ∀ b o,b∉ch→s.heap.get? b = some o→∃ o',h'.get? b = some o')
    (tups : ∀ b xs,H b = some (.tup xs)→H' b = some (.tup xs)) (frzs : ∀ b o u,H b = some (.frz o u)→H' b = some (.frz o u)) (tbls : ∀ b ps,H b = some (.tbl ps)→∃ more,H' b = some (.tbl (ps++more)))
    (ns : ∀ m,s.heap.Ns X.env.locals m→h'.Ns X.env.locals m) (hok : HOk X.prog X.w H' h') (hg : AllBare g') :
    Inv X pins σ H' { s with heap := h',gens := g',drawn := d',toks := t' } := by
  have neL : ∀ b o,X.s₀.heap.get? b = some o→b≠X.env.locals := fun b o e => Nat.ne_of_lt (Nat.lt_of_lt_of_le (Heap.lt_size e) I.ok.above)
  have neC : ∀ b o,X.s₀.heap.get? b = some o→b∉X.ex→b∉ch := fun b o e hx hb => by
    rcases (hch b hb).1 with z | z
    · exact hx z
    · exact absurd (Nat.lt_of_lt_of_le (Heap.lt_size e) z) (Nat.lt_irrefl _)
  have cellK : ∀ x c,X.env.cells.lookup x = some c→∀ v,s.heap.IsCell c v→h'.IsCell c v := fun x c e v ⟨o,ho,hd⟩ => by
    have nch : c∉ch := fun z => (hch c z).2.2.1 x c e rfl
    by_cases hc : c∈X.fs
    · obtain ⟨sl,q⟩ := slot c o (I.cne x c e) hc nch ho (I.freeC x c e)
      exact ⟨_,q,hd⟩
    · exact ⟨o,keep c o (I.cne x c e) hc nch ho (I.freeC x c e),hd⟩
  refine ⟨I.ok,I.os,hg,⟨fun b o e n hb hx => ?_,fun b o e n hb hx => ?_,fun b o e n hx => ?_,fun b o e hx => ?_,fun b xs e => tups b xs (I.base.tups b xs e),fun b o xs e => frzs b o xs (I.base.frzs b o xs e),fun b ps e => ?_⟩,?_,fun x c e => ?_,?_,fun x c e => ?_,fun p hp => ?_,hok,I.len⟩
  · exact keep b o (neL b o e) hb (neC b o e hx) (I.base.keep b o e n hb hx) (I.base.free b o e n hx)
  · obtain ⟨sl,e1⟩ := I.base.slot b o e n hb hx
    obtain ⟨sl',e2⟩ := slot b _ (neL b o e) hb (neC b o e hx) e1 (I.base.free b o e n hx)
    exact ⟨sl',e2⟩
  · obtain ⟨o',e1⟩ := I.base.there b o e hx
    exact free b o' (neC b o e hx) e1 (I.base.free b o e n hx)
  · obtain ⟨o',e1⟩ := I.base.there b o e hx
    exact there b o' (neC b o e hx) e1
  · obtain ⟨m1,e1⟩ := I.base.tbls b ps e
    obtain ⟨m2,e2⟩ := tbls b _ e1
    exact ⟨m1++m2,by rw [e2,Array.append_assoc]⟩
  · obtain ⟨m,hn,hl⟩ := I.loc
    refine ⟨m,ns m hn,fun i x v e1 e2 e3 => ?_⟩
    obtain ⟨u,r,l⟩ := hl i x v e1 e2 e3
    refine ⟨u,r,?_⟩
    rcases l with l | ⟨k,c,e,z⟩
    · exact .inl l
    · exact .inr ⟨k,c,e,cellK x c e _ z⟩
  · obtain ⟨v,z⟩ := I.cell x c e
    exact ⟨v,cellK x c e v z⟩
  · obtain ⟨m,⟨o,_,_,ho,_⟩,_⟩ := I.loc
    exact free _ o (fun z => (hch _ z).2.1 rfl) ho I.free
  · obtain ⟨v,o,ho,hd⟩ := I.cell x c e
    exact free c o (fun z => (hch c z).2.2.1 x c e rfl) ho (I.freeC x c e)
  · obtain ⟨e,n,ne,nf,d⟩ := I.pin p hp
    have nch : p.1∉ch := fun z => (hch p.1 z).2.2.2 p hp rfl
    exact ⟨keep p.1 p.2 ne nf nch e n,free p.1 p.2 nch e n,ne,nf,d⟩
theorem Inv.un {t' : Nat} (I : Inv X pins σ H s) (u : Un X.fs [] H H' s.heap h') (hok : HOk X.prog X.w H' h') : Inv X pins σ H' { s with heap := h',toks := t' } := by
  obtain ⟨m,⟨o,es,ep,ho,r⟩,_⟩ := id I.loc
  obtain ⟨sl,hL⟩ := u.any ho I.free (by simp)
  exact I.step (g' := s.gens) (d' := s.drawn) (ch := []) (fun _ z => nomatch z) (fun b o _ hb _ e n => u.keep b o e n hb (by simp)) (fun b o _ hb _ e n => u.slot b o e n hb (by simp)) (fun b o _ e n => u.free b o e n (by simp)) (fun b o _ e => u.there b o e (by simp)) u.tups u.frzs u.tbls (fun m' hm => by
    obtain ⟨o',es',ep',ho',r'⟩ := hm
    rw [ho] at ho'; cases ho'
    exact ⟨_,es',ep',hL,r'⟩) hok I.bare
theorem Inv.call {g' : Array GenState} {t' : Nat} {d' : Drawn} {ch : List Addr} (I : Inv X pins σ H s) (u : Un (frs X.stack) ch H H' s.heap h') (hok : HOk X.prog X.w H' h') (hg : AllBare g')
    (hch : ∀ b∈ch,(b∈X.ex∨X.s₀.heap.objs.size≤b)∧b≠X.env.locals∧(∀ x c,X.env.cells.lookup x = some c→c≠b)∧∀ p∈X.pn++pins,p.1≠b) :
    Inv X pins σ H' { s with heap := h',gens := g',drawn := d',toks := t' } := by
  obtain ⟨m,⟨o,es,ep,ho,r⟩,_⟩ := id I.loc
  obtain ⟨sl,hL⟩ := u.any ho I.free fun z => (hch _ z).2.1 rfl
  exact I.step (ch := ch) hch (fun b o hL hb hc e n => u.keep b o e n (fun z => (List.mem_cons.mp (I.stkSub b z)).elim hL hb) hc) (fun b o _ _ hc e n => u.any e n hc) (fun b o hc e n => u.free b o e n hc) (fun b o hc e => u.there b o e hc) u.tups u.frzs u.tbls (fun m' hm => by
    obtain ⟨o',es',ep',ho',r'⟩ := hm
    rw [ho] at ho'; cases ho'
    exact ⟨_,es',ep',hL,r'⟩) hok hg
theorem Inv.turned {t' : Nat} {it : Addr} (I : Inv X pins σ H s) (k : ∀ b o,b≠it→s.heap.get? b = some o→h'.get? b = some o) (hn : H it = none) (hL : it≠X.env.locals)
    (h1 : it∈X.ex∨X.s₀.heap.objs.size≤it) (h2 : ∀ x c,X.env.cells.lookup x = some c→c≠it) (h3 : ∀ p∈X.pn++pins,p.1≠it) : Inv X pins σ H { s with heap := h',toks := t' } := by
  have nit : ∀ b u,H b = some u→b≠it := fun b u e z => by rw [z,hn] at e; cases e
  refine I.step (g' := s.gens) (d' := s.drawn) (ch := [it]) (fun b hb => ?_) (fun b o _ _ hc e _ => k b o (fun z => hc (by simp [z])) e) (fun b o _ _ hc e _ => ⟨o.slots,k b o (fun z => hc (by simp [z])) e⟩) (fun _ _ _ _ n => n)
    (fun b o hc e => ⟨o,k b o (fun z => hc (by simp [z])) e⟩) (fun _ _ e => e) (fun _ _ _ e => e) (fun b ps e => ⟨#[],by rw [e]; simp⟩) (fun m hm => ?_) (fun b u e => ?_) I.bare
  · have e : b = it := by simpa using hb
    subst e
    exact ⟨h1,hL,h2,h3⟩
  · obtain ⟨o,es,ep,ho,r⟩ := hm
    exact ⟨o,es,ep,k _ o (Ne.symm hL) ho,r⟩
  · refine (I.hok b u e).stay (fun c v hc q => k c v ?_ q) (fun _ q => q) fun _ _ q => q
    rcases hc with z | z
    · rw [z]; exact nit b u e
    · exact nit c _ z
theorem Inv.tok (I : Inv X pins σ H s) (t : Nat) : Inv X pins σ H { s with toks := t } := I.un (h' := s.heap) (t' := t) Un.refl I.hok
theorem Inv.kept {t' : Nat} (I : Inv X pins σ H s) (k : ∀ b u,s.heap.get? b = some u→h'.get? b = some u) : Inv X pins σ H { s with heap := h',toks := t' } := I.un (Un.kept k) (I.hok.kept k)
theorem Inv.laid {a : Addr} {o : HO} {t' : Nat} (I : Inv X pins σ H s) (k : ∀ b u,s.heap.get? b = some u→h'.get? b = some u) (hp : s.heap.objs.size≤a) (new : zbe X.prog X.w (upd H a o) h' a o) :
    Inv X pins σ (upd H a o) { s with heap := h',toks := t' } := I.un (Un.laid k hp (I.hok.fresh hp)) (I.hok.laid k hp new)
theorem Inv.write {x e : Addr} {o : HO} {t' : Nat} (I : Inv X pins σ H s) (mu : Mut (H x)) (he : e = x∨H e = some (.own x)) (k : ∀ b u,b≠e→s.heap.get? b = some u→h'.get? b = some u) (heo : ∃ u,h'.get? e = some u)
    (new : zbe X.prog X.w (upd H x o) h' x o) : Inv X pins σ (upd H x o) { s with heap := h',toks := t' } := I.un (Un.write mu he k heo) (I.hok.write mu he k heo new)
theorem Inv.pins_of {pins' : List (Addr × Obj)} (I : Inv X pins σ H s) (h : ∀ p∈pins',s.heap.get? p.1 = some p.2∧H p.1 = none∧p.1≠X.env.locals∧p.1∉X.fs∧∀ v,p.2.data≠.cell v) : Inv X pins' σ H s :=
  ⟨I.ok,I.os,I.bare,I.base,I.loc,I.cell,I.free,I.freeC,fun p hp => (List.mem_append.mp hp).elim (fun z => I.pin p (List.mem_append_left _ z)) (h p),I.hok,I.len⟩
theorem zhz {N : List Str} (hN : N.Nodup) {i j : Nat} {x : Str} (a : N[i]? = some x) (b : N[j]? = some x) : i = j := by
  obtain ⟨h1,e1⟩ := List.getElem?_eq_some_iff.mp a
  obtain ⟨h2,e2⟩ := List.getElem?_eq_some_iff.mp b
  exact (List.getElem_inj hN).mp (e1.trans e2.symm)
theorem zf6 {M : Model} {A : Around} {E : Value→Shared→Prop} {i : Nat} {x : Str} {v : V} {u : Value} {Q : Unit→Shared→Prop} (I : Inv X pins σ H s) (hN : X.N.Nodup) (hi : X.N[i]? = some x) (hx : Loc X.env.scope x) (r : RelV v u)
    (h : ∀ s',Inv X pins (σ.set i (some v)) H s'→(∃ a,Heap.SameBut a s.heap s'.heap∧(a = X.env.locals∨X.env.cells.lookup x = some a))→Q () s') (hf : X.fn x = true∨X.env.scope.names.lookup x = some .local := by first | exact .inl rfl | exact .inr rfl | assumption) : wpAny M A (storeName X.env x u) Q E s := by
  obtain ⟨m,hn,hl⟩ := id I.loc
  have hcls : (X.env.scope.kind == .class || (X.env.scope.kind == .module && X.env.locals != X.env.globals)) = false := by rw [I.ok.kind]; rfl
  have hiσ : i < σ.length := by rw [I.len]; exact (List.getElem?_eq_some_iff.mp hi).1
  have cne := I.cne
  have tracked : ∀ {a : Addr} {h' : Heap},(∃ o,s.heap.get? a = some o∧H a = none)→Heap.SameBut a s.heap h'→HOk X.prog X.w H h' := fun {a h'} ha hs b ob e => by
    obtain ⟨_,_,hfree⟩ := ha
    refine (I.hok b ob e).stay (fun c w' hc q => (hs.2 c ?_).trans q) (fun _ q => q) fun _ _ q => q
    rintro rfl
    rcases hc with rfl | hc
    · rw [hfree] at e; cases e
    · rw [hfree] at hc; cases hc
  rcases hx with hk | hk
  · refine wpAny_storeName_local hk hn (fun h' hn' hs => ?_) hcls
    obtain ⟨oL,_,_,hoL,_⟩ := id hn
    refine h _ ⟨I.ok,I.os,I.bare,⟨fun b o e n hb hx => ?_,fun b o e n hb hx => ?_,I.base.free,fun b o e hx => ?_,I.base.tups,I.base.frzs,I.base.tbls⟩,⟨_,hn',fun j y v' e1 e2 e3 => ?_⟩,fun y c e => ?_,I.free,I.freeC,fun p hp => ?_,tracked ⟨oL,hoL,I.free⟩ hs,by simpa using I.len⟩ ⟨_,hs,.inl rfl⟩
    · exact (hs.2 b (Nat.ne_of_lt (Nat.lt_of_lt_of_le (Heap.lt_size e) I.ok.above))).trans (I.base.keep b o e n hb hx)
    · obtain ⟨sl,e1⟩ := I.base.slot b o e n hb hx
      exact ⟨sl,(hs.2 b (Nat.ne_of_lt (Nat.lt_of_lt_of_le (Heap.lt_size e) I.ok.above))).trans e1⟩
    · obtain ⟨o',e1⟩ := I.base.there b o e hx
      exact ⟨o',(hs.2 b (Nat.ne_of_lt (Nat.lt_of_lt_of_le (Heap.lt_size e) I.ok.above))).trans e1⟩
    · by_cases hj : j = i
      · subst hj
        rw [hi] at e1; cases e1
        rw [List.getElem?_set_self hiσ] at e2
        cases e2
        exact ⟨u,r,.inl ⟨hk,by simp⟩⟩
      · rw [List.getElem?_set_ne (Ne.symm hj)] at e2
        obtain ⟨u',r',q⟩ := hl j y v' e1 e2 e3
        refine ⟨u',r',?_⟩
        rcases q with ⟨k,e⟩ | ⟨k,c,e,z⟩
        · refine .inl ⟨k,?_⟩
          have : y≠x := fun e => hj (zhz hN e1 (e ▸ hi))
          simp [this,e]
        · exact .inr ⟨k,c,e,z.sameBut hs (cne y c e)⟩
    · obtain ⟨w',z⟩ := I.cell y c e
      exact ⟨w',z.sameBut hs (cne y c e)⟩
    · obtain ⟨e,n,ne,nf,d⟩ := I.pin p hp
      exact ⟨(hs.2 p.1 ne).trans e,n,ne,nf,d⟩
  · have hfn : X.fn x = true := by
      rcases hf with z | z
      · exact z
      · rw [z] at hk; cases hk
    obtain ⟨c,hc⟩ := I.ok.has x (.inl hk)
    obtain ⟨w',z⟩ := I.cell x c hc
    refine wpAny_storeName_cell I.ok.kind hk hc z (fun h' hc' hs => ?_)
    obtain ⟨oc,hoc,hocd⟩ := id z
    refine h { s with heap := h' } ⟨I.ok,I.os,I.bare,⟨fun b o e n hb hx => ?_,fun b o e n hb hx => ?_,I.base.free,fun b o e hx => ?_,I.base.tups,I.base.frzs,I.base.tbls⟩,⟨m,hn.sameBut hs (Ne.symm (cne x c hc)),fun j y v' e1 e2 e3 => ?_⟩,fun y c' e => ?_,I.free,I.freeC,fun p hp => ?_,tracked ⟨oc,hoc,I.freeC x c hc⟩ hs,by simpa using I.len⟩ ⟨c,hs,.inr hc⟩
    · exact (hs.2 b (Nat.ne_of_lt (Nat.lt_of_lt_of_le (Heap.lt_size e) (I.ok.cab x c hfn hc)))).trans (I.base.keep b o e n hb hx)
    · obtain ⟨sl,e1⟩ := I.base.slot b o e n hb hx
      exact ⟨sl,(hs.2 b (Nat.ne_of_lt (Nat.lt_of_lt_of_le (Heap.lt_size e) (I.ok.cab x c hfn hc)))).trans e1⟩
    · obtain ⟨o',e1⟩ := I.base.there b o e hx
      exact ⟨o',(hs.2 b (Nat.ne_of_lt (Nat.lt_of_lt_of_le (Heap.lt_size e) (I.ok.cab x c hfn hc)))).trans e1⟩
    · by_cases hj : j = i
      · subst hj
        rw [hi] at e1; cases e1
        rw [List.getElem?_set_self hiσ] at e2
        cases e2
        exact ⟨u,r,.inr ⟨.inl hk,c,hc,hc'⟩⟩
      · rw [List.getElem?_set_ne (Ne.symm hj)] at e2
        obtain ⟨u',r',q⟩ := hl j y v' e1 e2 e3
        refine ⟨u',r',?_⟩
        rcases q with q | ⟨k,c',e,z'⟩
        · exact .inl q
        · refine .inr ⟨k,c',e,z'.sameBut hs ?_⟩
          rintro rfl
          exact hj (zhz hN e1 (I.ok.inj _ _ _ e hc ▸ hi))
    · by_cases hcc : c' = c
      · subst hcc; exact ⟨_,hc'⟩
      · obtain ⟨w2,z2⟩ := I.cell y c' e
        exact ⟨w2,z2.sameBut hs hcc⟩
    · obtain ⟨e,n,ne,nf,d⟩ := I.pin p hp
      refine ⟨(hs.2 p.1 ?_).trans e,n,ne,nf,d⟩
      intro q
      rw [q,hoc] at e
      have q' : oc = p.2 := Option.some.inj e
      exact d w' (by rw [← q']; exact hocd)
theorem zhq {M : Model} {A : Around} {E : Value→Shared→Prop} {i : Nat} {x : Str} {v : V} {u : Value} {Q : Unit→Shared→Prop} (I : Inv X pins σ H s) (hN : X.N.Nodup) (hi : X.N[i]? = some x) (hx : Loc X.env.scope x) (r : RelV v u)
    (h : ∀ s',Inv X pins (σ.set i (some v)) H s'→Q () s') (hf : X.fn x = true∨X.env.scope.names.lookup x = some .local := by first | exact .inl rfl | exact .inr rfl | assumption) : wpAny M A (storeName X.env x u) Q E s :=
  zf6 I hN hi hx r (fun s' I' _ => h s' I') hf
theorem Inv.call' {s' : Shared} {ch : List Addr} (I : Inv X pins σ H s) (ho : s'.os = s.os) (u : Un (frs X.stack) ch H H' s.heap s'.heap) (hok : HOk X.prog X.w H' s'.heap) (hg : AllBare s'.gens)
    (hch : ∀ b∈ch,(b∈X.ex∨X.s₀.heap.objs.size≤b)∧b≠X.env.locals∧(∀ x c,X.env.cells.lookup x = some c→c≠b)∧∀ p∈X.pn++pins,p.1≠b) : Inv X pins σ H' s' := by
  obtain ⟨h',g',d',t',o'⟩ := s'
  have e : o' = s.os := ho
  subst e
  exact I.call (g' := g') (t' := t') (d' := d') u hok hg hch
end
noncomputable abbrev XK := Value→Option Addr→Hp→Prop
noncomputable abbrev St := List (Option V)
noncomputable abbrev VK := V→Hp→Prop
noncomputable abbrev TE := St→Hp→VK→Prop
noncomputable abbrev TT := St→Hp→(Bool→Hp→Prop)→Prop
noncomputable abbrev TA := St→Hp→(List V→Hp→Prop)→Prop
structure Ends where
  nx : St→Hp→Prop
  rt : VK
  bk : St→Hp→Prop := fun _ _ => False
  ct : St→Hp→Prop := fun _ _ => False
noncomputable abbrev TS := Ends→St→Hp→Prop
noncomputable def EP (X : Cx) (pins : List (Addr × Obj)) (σ : St) (Q : VK) (u : Value) (s' : Shared) : Prop := ∃ v H',Inv X pins σ H' s'∧RelV v u∧Q v H'
noncomputable def TP (X : Cx) (pins : List (Addr × Obj)) (σ : St) (Q : Bool→Hp→Prop) (b : Bool) (s' : Shared) : Prop := ∃ H',Inv X pins σ H' s'∧Q b H'
noncomputable def AP (X : Cx) (pins : List (Addr × Obj)) (σ : St) (Q : List V→Hp→Prop) (us : List Value) (s' : Shared) : Prop := ∃ vs H',Inv X pins σ H' s'∧Vals vs us∧Q vs H'
noncomputable def SP (X : Cx) (pins : List (Addr × Obj)) (D : Ends) (f : Flow) (s' : Shared) : Prop :=
  match f with
  | .next => ∃ σ' H',Inv X pins σ' H' s'∧D.nx σ' H'
  | .brk => ∃ σ' H',Inv X pins σ' H' s'∧D.bk σ' H'
  | .cont => ∃ σ' H',Inv X pins σ' H' s'∧D.ct σ' H'
  | .ret u => ∃ v σ' H',Inv X pins σ' H' s'∧RelV v u∧D.rt v H'
noncomputable def PE (X : Cx) (e : Expr) (t : TE) : Prop :=
  ∀ (pins : List (Addr × Obj)) (s : Shared) (σ : St) (H : Hp) (Q : VK),Inv X pins σ H s→t σ H Q→wpAny (model X.prog X.w) X.A (eval e X.env) (EP X pins σ Q) X.xe s
noncomputable def PT (X : Cx) (e : Expr) (t : TT) : Prop :=
  ∀ (pins : List (Addr × Obj)) (s : Shared) (σ : St) (H : Hp) (Q : Bool→Hp→Prop),Inv X pins σ H s→t σ H Q→wpAny (model X.prog X.w) X.A (isTrue e X.env (eval e X.env)) (TP X pins σ Q) X.xe s
noncomputable def PW (X : Cx) (e : Expr) (t : TT) : Prop :=
  ∀ (whole : Sem Value) (pins : List (Addr × Obj)) (s : Shared) (σ : St) (H : Hp) (Q : Bool→Hp→Prop),Inv X pins σ H s→t σ H Q→wpAny (model X.prog X.w) X.A (isTrue e X.env whole) (TP X pins σ Q) X.xe s
theorem PW.pt {X : Cx} {e : Expr} {t : TT} (h : PW X e t) : PT X e t := h _
noncomputable def PA (X : Cx) (es : List Expr) (t : TA) : Prop :=
  ∀ (pos : Pos) (pins : List (Addr × Obj)) (s : Shared) (σ : St) (H : Hp) (Q : List V→Hp→Prop),Inv X pins σ H s→t σ H Q→wpAny (model X.prog X.w) X.A (spliced (backTo pos (starEach es X.env))) (AP X pins σ Q) X.xe s
noncomputable def PS (X : Cx) (st : Stmt) (t : TS) : Prop :=
  ∀ (pins : List (Addr × Obj)) (s : Shared) (σ : St) (H : Hp) (D : Ends),Inv X pins σ H s→t D σ H→wpAny (model X.prog X.w) X.A (exec st X.env) (SP X pins D) X.xe s
noncomputable def PSs (X : Cx) (st : List Stmt) (t : TS) : Prop :=
  ∀ (pins : List (Addr × Obj)) (s : Shared) (σ : St) (H : Hp) (D : Ends),Inv X pins σ H s→t D σ H→wpAny (model X.prog X.w) X.A (execs st X.env) (SP X pins D) X.xe s
theorem thn {α : Type} {t : Sem α} {Q Q' : α→Shared→Prop} {M : Model} {A : Around} {E : Value→Shared→Prop} {s : Shared} (h : wpAny M A t Q E s) (hQ : ∀ a s,Q a s→Q' a s) : wpAny M A t Q' E s := wpAny_mono h hQ fun _ _ x => x
end L2
namespace L2
open PySem PySem.Spec PyProof.Rows
section
variable {X : Cx}
noncomputable def tVar (i : Nat) : TE := fun σ H Q => ∃ v,σ[i]? = some (some v)∧Q v H
noncomputable def tC (v : V) : TE := fun _ H Q => Q v H
theorem zgk {i : Nat} {x : Str} {pos : Pos} (hN : X.N[i]? = some x) (hv : Vis X.env.scope x) (hd : (x == ("__debug__" : Str)) = false := by decide) (hcd : (x == ("__classdict__" : Str)) = false := by decide) : PE X (.Name x pos) (tVar i) := by
  intro pins s σ H Q I h
  obtain ⟨v,e,h⟩ := h
  obtain ⟨m,hn,hl⟩ := I.loc
  obtain ⟨u,r,l⟩ := hl i x v hN e hv
  have fin : EP X pins σ Q u s := ⟨v,H,I,r,h⟩
  rcases l with ⟨hk,hm⟩ | ⟨hk,c,hc,hcell⟩
  · exact wpAny_Name (wpAny_loadName_local I.ok.kind hk hn hm fin) hd
  · rcases hk with hk | hk
    · exact wpAny_Name (wpAny_loadName_cell I.ok.kind hk hc hcell fin) hd
    · exact wpAny_Name (wpAny_loadName_free I.ok.kind hk hc hcell fin hcd) hd
theorem znT {i j pos} : PE X (.Constant (.int i) j pos) (tC (.int i)) := fun _ _ _ H _ I h => wpAny_Constant_int ⟨.int i,H,I.tok _,⟨_,rfl⟩,h⟩
theorem zpw {b j pos} : PE X (.Constant (.bool b) j pos) (tC (.bl b)) := fun _ _ _ H _ I h => Constant_bool ⟨.bl b,H,I,rfl,h⟩
theorem znR {j pos} : PE X (.Constant .none j pos) (tC .non) := fun _ _ _ H _ I h => Constant_none ⟨.non,H,I,rfl,h⟩
theorem znO {x j pos} : PE X (.Constant (.str x) j pos) (tC (.str x)) := fun _ _ _ H _ I h => Calls.Constant_str ⟨.str x,H,I.tok _,⟨_,rfl⟩,h⟩
noncomputable def Gl (X : Cx) (x : Str) : Prop := X.env.kindOf x = some .globalImplicit
theorem zmA {E : Value→Shared→Prop} {pins : List (Addr × Obj)} {s : Shared} {σ : St} {H : Hp} {x : Str} {u : Value} {pos : Pos} {Q : Value→Shared→Prop} (I : Inv X pins σ H s) (hg : Gl X x) (hm : X.mg x = some u) (h : Q u s)
    (hd : (x == ("__debug__" : Str)) = false := by decide) : wpAny (model X.prog X.w) X.A (eval (.Name x pos) X.env) Q E s :=
  Calls.Name_function_global I.ok.kind hg (Calls.loadGlobal_global (by rw [I.ok.glob]; exact I.mod.glob.keeps I.bk) hm h) hd
theorem zft {E : Value→Shared→Prop} {pins : List (Addr × Obj)} {s : Shared} {σ : St} {H : Hp} {x : Str} {u : Value} {pos : Pos} {Q : Value→Shared→Prop} (I : Inv X pins σ H s) (hg : Gl X x) (hm : X.mg x = none) (hv : bootBuiltins x = some u) (h : Q u s)
    (hn : x≠"__name__" := by decide) (hd : (x == ("__debug__" : Str)) = false := by decide) : wpAny (model X.prog X.w) X.A (eval (.Name x pos) X.env) Q E s := by
  obtain ⟨mb,h1,h2⟩ := I.mod.blt
  exact Calls.Name_function_global I.ok.kind hg (Calls.loadGlobal_builtin (by rw [I.ok.glob]; exact I.mod.glob.keeps I.bk) hm (by rw [I.ok.blt]; exact h1.keeps I.bk) ((h2 x hn).trans hv) h) hd
theorem zmj {x : Str} {v : V} {u : Value} {pos : Pos} (hg : Gl X x) (hm : X.mg x = none) (hv : bootBuiltins x = some u) (r : RelV v u) (hn : x≠"__name__" := by decide) (hd : (x == ("__debug__" : Str)) = false := by decide) : PE X (.Name x pos) (tC v) :=
  fun _ _ _ H _ I h => zft I hg hm hv ⟨v,H,I,r,h⟩ hn hd
variable {a b : Expr} {ta tb : TE} {pos : Pos}
variable {tA tB' : TT} {rest : List Expr}
noncomputable def tAnd (t u : TT) : TT := fun σ H Q => t σ H fun c H1 => if c = true then u σ H1 Q else Q false H1
noncomputable def tOr (t u : TT) : TT := fun σ H Q => t σ H fun c H1 => if c = true then Q true H1 else u σ H1 Q
noncomputable def tNot (t : TT) : TT := fun σ H Q => t σ H fun c H1 => Q (!c) H1
theorem zl8 (ha : PT X a tA) : PW X (.BoolOp .And [a] pos) tA := by
  intro wh pins s σ H Q I h
  refine isTrue_and (thn (ha pins s σ H Q I h) fun c s1 e => ?_)
  cases c with
  | true => exact isTrue_and_nil e
  | false => exact e
theorem znE (ha : PT X a tA) : PW X (.BoolOp .Or [a] pos) tA := by
  intro wh pins s σ H Q I h
  refine isTrue_or (thn (ha pins s σ H Q I h) fun c s1 e => ?_)
  cases c with
  | false => exact isTrue_or_nil e
  | true => exact e
theorem znF (ha : PT X a tA) (hb : PW X (.BoolOp .And (b::rest) pos) tB') : PW X (.BoolOp .And (a::b::rest) pos) (tAnd tA tB') := by
  intro wh pins s σ H Q I h
  refine isTrue_and (thn (ha pins s σ H _ I h) fun c s1 ⟨H1,I1,q1⟩ => ?_)
  cases c with
  | true => exact hb wh pins s1 σ H1 Q I1 q1
  | false => exact ⟨H1,I1,q1⟩
theorem zpq (ha : PT X a tA) (hb : PW X (.BoolOp .Or (b::rest) pos) tB') : PW X (.BoolOp .Or (a::b::rest) pos) (tOr tA tB') := by
  intro wh pins s σ H Q I h
  refine isTrue_or (thn (ha pins s σ H _ I h) fun c s1 ⟨H1,I1,q1⟩ => ?_)
  cases c with
  | true => exact ⟨H1,I1,q1⟩
  | false => exact hb wh pins s1 σ H1 Q I1 q1
theorem znH (ha : PT X a tA) : PT X (.UnaryOp .Not a pos) (tNot tA) := by
  intro pins s σ H Q I h
  exact isTrue_not (ha pins s σ H (fun c H1 => Q (!c) H1) I h)
noncomputable def zpd (ta tb : TE) : TE := fun σ H Q => ta σ H fun x H1 => ∃ c,x = .bl c∧if c = true then tb σ H1 Q else Q (.bl false) H1
noncomputable def zo8 (ta : TE) : TE := fun σ H Q => ta σ H fun x H1 => ∃ c,x = .bl c∧Q (.bl (!c)) H1
theorem znP {op} {t : TE} (h : PE X a t) : PE X (.BoolOp op [a] pos) t := fun pins s σ H Q I hw => BoolOp_one (h pins s σ H Q I hw)
theorem znV (ha : PE X a ta) (hb : PE X (.BoolOp .And (b::rest) pos) tb) : PE X (.BoolOp .And (a::b::rest) pos) (zpd ta tb) := by
  intro pins s σ H Q I h
  refine BoolOp_and (thn (ha pins s σ H _ I h) fun v s1 ⟨x,H1,I1,r1,q1⟩ => ?_)
  obtain ⟨c,rfl,q1⟩ := q1
  cases r1
  refine wpAny_truthy_bool ?_
  cases c with
  | true => exact hb pins s1 σ H1 Q I1 q1
  | false => exact ⟨.bl false,H1,I1,rfl,q1⟩
theorem znQ (ha : PE X a ta) : PE X (.UnaryOp .Not a pos) (zo8 ta) := by
  intro pins s σ H Q I h
  refine UnaryOp_ (thn (ha pins s σ H _ I h) fun v s1 ⟨x,H1,I1,r1,q1⟩ => ?_)
  obtain ⟨c,rfl,q1⟩ := q1
  cases r1
  exact not_of (wpAny_truthy_bool ⟨.bl (!c),H1,I1,rfl,q1⟩)
noncomputable def tIf (t : TT) (ta tb : TE) : TE := fun σ H Q => t σ H fun c H1 => if c = true then ta σ H1 Q else tb σ H1 Q
theorem zkB {c : Expr} (hc : PT X c tA) (ha : PE X a ta) (hb : PE X b tb) : PE X (.IfExp c a b pos) (tIf tA ta tb) := by
  intro pins s σ H Q I h
  refine wpAny_IfExp (thn (hc pins s σ H _ I h) fun d s1 ⟨H1,I1,q1⟩ => ?_)
  cases d with
  | true => exact ha pins s1 σ H1 Q I1 q1
  | false => exact hb pins s1 σ H1 Q I1 q1
end
end L2
namespace L2
open PySem PySem.Spec PyProof.Rows
noncomputable def SqL (K : PySem.W.Frag) (H : Hp) (a : Addr) (xs : List V) : Prop :=
  Rd H a (.lst xs) ∨
    ∃ (o : Obj) (its : Array Value) (n : Nat),K.lookup a = some o∧o.cls = .type "list"∧o.dict = none∧o.data = .seq its n∧its.size≤sizeLine∧Vals xs its.toList
noncomputable def SqT (K : PySem.W.Frag) (H : Hp) (a : Addr) (xs : List V) : Prop :=
  Rd H a (.tup xs) ∨
    ∃ (o : Obj) (its : Array Value) (n : Nat),K.lookup a = some o∧o.cls = .type "tuple"∧o.data = .seq its n∧its.size≤sizeLine∧Vals xs its.toList
noncomputable def absV : Value→Option V
  | .none => some .non
  | .bool b => some (.bl b)
  | .int i _ => some (.int i)
  | .str x _ => some (.str x)
  | .bytes b _ => some (.byt b)
  | .float b _ => some (.flt b)
  | .ref a => some (.ref a)
  | .type n => some (.ty n)
  | _ => none
theorem RelV.abs {x : V} {u : Value} (r : RelV x u) : absV u = some x := by
  cases x with
  | non => cases r; rfl
  | bl _ => cases r; rfl
  | int _ => obtain ⟨t,rfl⟩ := r; rfl
  | str _ => obtain ⟨t,rfl⟩ := r; rfl
  | byt _ => obtain ⟨t,rfl⟩ := r; rfl
  | flt _ => obtain ⟨t,rfl⟩ := r; rfl
  | ref _ => cases r; rfl
  | ty _ => cases r; rfl
theorem RelV.inj {x y : V} {u : Value} (r : RelV x u) (q : RelV y u) : x = y := Option.some.inj (r.abs.symm.trans q.abs)
theorem Vals.inj : ∀ {xs ys : List V} {us : List Value},Vals xs us→Vals ys us→xs = ys
  | _,_,_,.nil,.nil => rfl
  | _,_,_,.cons r t,.cons r' t' => by rw [r.inj r',Vals.inj t t']
section
variable {X : Cx} {pins : List (Addr × Obj)} {σ : St} {H : Hp} {s : Shared} {a : Addr} {xs ys : List V}
theorem SqL.of {K : PySem.W.Frag} (h : H a = some (.lst xs)) : SqL K H a xs := .inl (.inl h)
theorem Inv.list (I : Inv X pins σ H s) (h : SqL X.K H a xs) : ∃ its : List Value,Vals xs its∧PlainL s.heap a its.toArray∧xs.length≤sizeLine := by
  rcases h with h | ⟨o,its,n,hk,hc,hd,hs,hz,r⟩
  · obtain ⟨z,its,n,r,e⟩ := h.ok I.hok
    exact ⟨its,r,⟨_,n,e,rfl,rfl,rfl⟩,z⟩
  · refine ⟨its.toList,r,⟨o,n,I.kIn a o hk,hc,hd,by simpa using hs⟩,?_⟩
    have e := r.length
    simp only [Array.length_toList] at e
    omega
theorem Inv.tuple (I : Inv X pins σ H s) (h : SqT X.K H a xs) : ∃ its : List Value,Vals xs its∧IsTup s.heap a its.toArray∧xs.length≤sizeLine := by
  rcases h with h | ⟨o,its,n,hk,hc,hs,hz,r⟩
  · obtain ⟨z,its,r,p,_⟩ := h.ok I.hok
    exact ⟨its,r,p,z⟩
  · refine ⟨its.toList,r,⟨o,I.kIn a o hk,hc,n,by simpa using hs⟩,?_⟩
    have e := r.length
    simp only [Array.length_toList] at e
    omega
theorem Inv.list_inj (I : Inv X pins σ H s) (h : SqL X.K H a xs) (h' : SqL X.K H a ys) : xs = ys := by
  obtain ⟨its,r,⟨o,n,e,_,_,d⟩,_⟩ := I.list h
  obtain ⟨its',r',⟨o',n',e',_,_,d'⟩,_⟩ := I.list h'
  rw [e] at e'; cases e'
  rw [d] at d'
  injection d' with d1 _
  have : its = its' := by simpa using congrArg Array.toList d1
  subst this
  exact r.inj r'
theorem Inv.tuple_inj (I : Inv X pins σ H s) (h : SqT X.K H a xs) (h' : SqT X.K H a ys) : xs = ys := by
  obtain ⟨its,r,⟨o,e,_,n,d⟩,_⟩ := I.tuple h
  obtain ⟨its',r',⟨o',e',_,n',d'⟩,_⟩ := I.tuple h'
  rw [e] at e'; cases e'
  rw [d] at d'
  injection d' with d1 _
  have : its = its' := by simpa using congrArg Array.toList d1
  subst this
  exact r.inj r'
end
noncomputable abbrev Cx.wish (X : Cx) (E : Value→Shared→Prop) : Cx := { X with xe := E }
noncomputable abbrev Cx.nox (X : Cx) : Cx := X.wish fun _ _ => False
theorem Cx.Ok.wish {X : Cx} (ok : X.Ok) (E : Value→Shared→Prop) : (X.wish E).Ok :=
  ⟨ok.mod,ok.kind,ok.glob,ok.blt,ok.above,ok.inj,ok.has,ok.cab,ok.hd,ok.frames,ok.stk,ok.exf,ok.bs,ok.bsz,ok.noex,ok.exfs,ok.funs,ok.frf⟩
theorem Cx.Ok.unwish {X : Cx} {E : Value→Shared→Prop} (ok : (X.wish E).Ok) : X.Ok :=
  ⟨ok.mod,ok.kind,ok.glob,ok.blt,ok.above,ok.inj,ok.has,ok.cab,ok.hd,ok.frames,ok.stk,ok.exf,ok.bs,ok.bsz,ok.noex,ok.exfs,ok.funs,ok.frf⟩
section
variable {X : Cx} {pins : List (Addr × Obj)} {σ : St} {H : Hp} {s : Shared} {E : Value → Shared → Prop}
theorem Inv.wish (I : Inv X pins σ H s) (E : Value→Shared→Prop) : Inv (X.wish E) pins σ H s := ⟨I.ok.wish E,I.os,I.bare,I.base,I.loc,I.cell,I.free,I.freeC,I.pin,I.hok,I.len⟩
theorem Inv.unwish (I : Inv (X.wish E) pins σ H s) : Inv X pins σ H s := ⟨I.ok.unwish,I.os,I.bare,I.base,I.loc,I.cell,I.free,I.freeC,I.pin,I.hok,I.len⟩
theorem SP.unwish {D : Ends} {f : Flow} {s' : Shared} (h : SP (X.wish E) pins D f s') : SP X pins D f s' := by
  cases f with
  | next => obtain ⟨σ',H',I,q⟩ := h; exact ⟨σ',H',I.unwish,q⟩
  | brk => obtain ⟨σ',H',I,q⟩ := h; exact ⟨σ',H',I.unwish,q⟩
  | cont => obtain ⟨σ',H',I,q⟩ := h; exact ⟨σ',H',I.unwish,q⟩
  | ret u => obtain ⟨v,σ',H',I,r,q⟩ := h; exact ⟨v,σ',H',I.unwish,r,q⟩
theorem PSs.nox {st : List Stmt} {t : TS} (h : PSs X.nox st t) : PSs X st t := fun pins s σ H D I hw =>
  wpAny_mono (h pins s σ H D (I.wish _) hw) (fun _ _ q => q.unwish) fun _ _ z => False.elim z
end
section
variable {X : Cx} {st : Stmt} {rest : List Stmt} {t u : TS} {e : Expr} {te : TE} {pos : Pos}
noncomputable def zo9 : TS := fun D σ H => D.nx σ H
noncomputable def tSeq (t u : TS) : TS := fun D σ H => t { D with nx := u D } σ H
theorem zma : PSs X [] zo9 := fun _ _ σ H _ I h => wpAny_execs_nil ⟨σ,H,I,h⟩
theorem zkw (h1 : PS X st t) (h2 : PSs X rest u) : PSs X (st::rest) (tSeq t u) := by
  intro pins s σ H D I h
  refine wpAny_execs_cons (thn (h1 pins s σ H { D with nx := u D } I h) fun f s1 q => ?_)
  cases f with
  | next =>
    obtain ⟨σ',H',I',q⟩ := q
    exact h2 pins s1 σ' H' D I' q
  | ret v => exact q
  | brk => exact q
  | cont => exact q
theorem Inv.quiet {pins : List (Addr × Obj)} {σ : St} {H : Hp} {s : Shared} (I : Inv X pins σ H s) : interactive X.env = false := by simp [interactive,I.ok.kind]
noncomputable def zpa (te : TE) : TS := fun D σ H => te σ H fun _ H1 => D.nx σ H1
theorem zmb (he : PE X e te) (hs : swapsWith e none pos.line X.env = pure false := by rfl) : PS X (.Expr e pos) (zpa te) := by
  intro pins s σ H D I h
  exact wpAny_Expr_any (thn (he pins s σ H _ I h) fun v s1 ⟨x,H1,I1,r1,q1⟩ => ⟨σ,H1,I1,q1⟩) I.quiet hs
noncomputable def tRet (te : TE) : TS := fun D σ H => te σ H D.rt
theorem znI (he : PE X e te) : PS X (.Return (some e) pos) (tRet te) := by
  intro pins s σ H D I h
  exact wpAny_Return_some (thn (he pins s σ H _ I h) fun v s1 ⟨x,H1,I1,r1,q1⟩ => ⟨x,σ,H1,I1,r1,q1⟩)
noncomputable def tIfS (c : TT) (t u : TS) : TS := fun D σ H => c σ H fun b H1 => if b = true then t D σ H1 else u D σ H1
theorem zps {c : Expr} {a b : List Stmt} {tc : TT} (hc : PT X c tc) (ha : PSs X a t) (hb : PSs X b u) : PS X (.If c a b pos) (tIfS tc t u) := by
  intro pins s σ H D I h
  refine wpAny_If (thn (hc pins s σ H _ I h) fun d s1 ⟨H1,I1,q1⟩ => ?_)
  cases d with
  | true => exact ha pins s1 σ H1 D I1 q1
  | false => exact hb pins s1 σ H1 D I1 q1
end
noncomputable abbrev TG := V→St→Hp→(St→Hp→Prop)→Prop
noncomputable abbrev TGs := List V→St→Hp→(St→Hp→Prop)→Prop
noncomputable def PG (X : Cx) (target : Expr) (t : TG) : Prop :=
  ∀ (pins : List (Addr × Obj)) (s : Shared) (σ : St) (H : Hp) (v : V) (u : Value) (Q : St→Hp→Prop),Inv X pins σ H s→RelV v u→t v σ H Q →
    wpAny (model X.prog X.w) X.A (assign target X.env u) (fun _ s' => ∃ σ' H',Inv X pins σ' H' s'∧Q σ' H') X.xe s
noncomputable def PGs (X : Cx) (ts : List Expr) (t : TGs) : Prop :=
  ∀ (pins : List (Addr × Obj)) (s : Shared) (σ : St) (H : Hp) (vs : List V) (us : List Value) (Q : St→Hp→Prop),Inv X pins σ H s→Vals vs us→t vs σ H Q →
    wpAny (model X.prog X.w) X.A (assignInOrder ((assignEach ts X.env).map (·.2)) us) (fun _ s' => ∃ σ' H',Inv X pins σ' H' s'∧Q σ' H') X.xe s
noncomputable abbrev TSet := V→V→V→Hp→(Hp→Prop)→Prop
noncomputable def PSet (X : Cx) (t : TSet) : Prop :=
  ∀ (pins : List (Addr × Obj)) (s : Shared) (σ : St) (H : Hp) (o i v : V) (ov iv u : Value) (Q : Hp→Prop),Inv X pins σ H s→RelV o ov→RelV i iv→RelV v u→t o i v H Q →
    wpAny (model X.prog X.w) X.A (setItem ov iv u) (fun _ s' => ∃ H',Inv X pins σ H' s'∧Q H') X.xe s
section
variable {X : Cx} {pos : Pos}
noncomputable def zoz (i : Nat) : TG := fun v σ H Q => Q (σ.set i (some v)) H
theorem zmg {i : Nat} {x : Str} (hN : X.N.Nodup) (hi : X.N[i]? = some x) (hx : Loc X.env.scope x) (hf : X.fn x = true∨X.env.scope.names.lookup x = some .local := by first | exact .inl rfl | exact .inr rfl | assumption) : PG X (.Name x pos) (zoz i) := by
  intro pins s σ H v u Q I r h
  exact wpAny_assign_Name (zhq I hN hi hx r (fun s' I' => ⟨_,H,I',h⟩) hf)
noncomputable def gNil : TGs := fun vs σ H Q => vs = []∧Q σ H
noncomputable def zpQ (t : TG) (u : TGs) : TGs := fun vs σ H Q => ∃ v r,vs = v::r∧t v σ H fun σ' H' => u r σ' H' Q
theorem zmf : PGs X [] gNil := by
  intro pins s σ H vs us Q I r h
  obtain ⟨e,h⟩ := h
  subst e
  cases r
  exact assignInOrder_nil ⟨σ,H,I,h⟩
theorem zkz {e : Expr} {es : List Expr} {t : TG} {u : TGs} (h1 : PG X e t) (h2 : PGs X es u)
    (hs : (assignEach (e::es) X.env).map (·.2) = assign e X.env::(assignEach es X.env).map (·.2) := by rfl) : PGs X (e::es) (zpQ t u) := by
  intro pins s σ H vs us Q I r h
  obtain ⟨v,vr,e1,h⟩ := h
  subst e1
  cases r with
  | cons r rr =>
    rw [hs]
    refine assignInOrder_cons (thn (h1 pins s σ H _ _ _ I r h) fun _ s1 ⟨σ1,H1,I1,q1⟩ => ?_)
    exact h2 pins s1 σ1 H1 _ _ Q I1 rr q1
noncomputable def gTup (K : PySem.W.Frag) (n : Nat) (t : TGs) : TG := fun v σ H Q => ∃ a xs,v = .ref a∧SqT K H a xs∧xs.length = n∧t xs σ H Q
theorem znL {es : List Expr} {k : Nat} {t : TGs} {n : Nat} (hc : X.calm = true) (h : PGs X es t)
    (hn : (assignEach es X.env).length = n := by rfl) (hst : (assignEach es X.env).findIdx? (·.1) = none := by rfl) : PG X (.Tuple es k pos) (gTup X.K n t) := by
  intro pins s σ H v u Q I r hw
  obtain ⟨a,xs,e1,hq,hl,hw⟩ := hw
  subst e1
  cases r
  obtain ⟨its,rv,ht,hz⟩ := I.tuple hq
  refine assign_Tuple_tuple (I.ok.hd hc) ht (by simp [hn,← hl,rv.length]) hst fun h' hx => ?_
  have I1 : Inv X pins σ H { s with heap := h' } := I.kept (t' := s.toks) fun b o e => hx b o (Nat.ne_of_lt (Heap.lt_size e)) e
  exact h pins _ σ H xs _ Q I1 (by simpa using rv) hw
noncomputable def gSub (to ti : TE) (t : TSet) : TG := fun v σ H Q => to σ H fun o H1 => ti σ H1 fun i H2 => t o i v H2 fun H3 => Q σ H3
theorem znM {o i : Expr} {to ti : TE} {t : TSet} (ho : PE X o to) (hi : PE X i ti) (hs : PSet X t)
    (ha : ∀ v,assign (.Subscript o i pos) X.env v = (do
      let ov ← holding [v] (eval o X.env)
      let iv ← holding [v,ov] (eval i X.env)
      standAt pos
      holding [v,ov,iv] (setItem ov iv v)
      release [v,ov,iv] []) := by intro _; rfl) : PG X (.Subscript o i pos) (gSub to ti t) := by
  intro pins s σ H v u Q I r h
  rw [ha]
  refine wpAny_bind (wpAny_holding (thn (ho pins s σ H _ I h) fun ov s1 ⟨x,H1,I1,r1,q1⟩ => ?_))
  refine wpAny_bind (wpAny_holding (thn (hi pins s1 σ H1 _ I1 q1) fun iv s2 ⟨y,H2,I2,r2,q2⟩ => ?_))
  refine wpAny_bind (wpAny_standAt (wpAny_bind (wpAny_holding (thn (hs pins s2 σ H2 x y v ov iv u _ I2 r1 r2 r q2) fun _ s3 ⟨H3,I3,q3⟩ => ?_))))
  exact wpAny_release ⟨σ,H3,I3,q3⟩
noncomputable def tAsg (te : TE) (g : TG) : TS := fun D σ H => te σ H fun x H1 => g x σ H1 D.nx
theorem znJ {tg e : Expr} {te : TE} {g : TG} (he : PE X e te) (hg : PG X tg g) (hs : swapsWithSole [tg] e pos.line X.env = pure false := by rfl) (hw : swappedStores [tg] e X.env = pure none := by rfl)
    (h1 : (assignEach [tg] X.env).map (·.2) = [assign tg X.env] := by rfl) : PS X (.Assign [tg] e pos) (tAsg te g) := by
  intro pins s σ H D I h
  refine wpAny_Assign_stores (thn (he pins s σ H _ I h) fun v s1 ⟨x,H1,I1,r1,q1⟩ => ?_) hs hw
  rw [h1]
  exact thn (hg pins s1 σ H1 x v _ I1 r1 q1) fun _ s2 q => q
theorem zls {i : Nat} {x : Str} {e : Expr} {te : TE} {pos' : Pos} (hN : X.N.Nodup) (hi : X.N[i]? = some x) (hx : Loc X.env.scope x) (he : PE X e te) (hs : swapsWith e (some (.Name x pos')) pos.line X.env = pure false := by rfl) (hf : X.fn x = true∨X.env.scope.names.lookup x = some .local := by first | exact .inl rfl | exact .inr rfl | assumption) :
    PS X (.Assign [.Name x pos'] e pos) (tAsg te (zoz i)) := by
  intro pins s σ H D I h
  refine wpAny_Assign_Name (thn (he pins s σ H _ I h) fun v s1 ⟨y,H1,I1,r1,q1⟩ => ?_) hs
  exact zhq I1 hN hi hx r1 (fun s2 I2 => ⟨_,H1,I2,q1⟩) hf
end
section
variable {X : Cx} {pos : Pos}
noncomputable def znh (c : TT) (tb : TS) : TS := fun D σ H => ∃ W : Nat→St→Hp→Prop,(∃ m,W m σ H)∧∀ m σ H,W m σ H →
  c σ H fun b H1 => if b = true then ∃ N : St→Hp→Prop,(∀ σ' H',N σ' H'→∃ m',m' < m∧W m' σ' H')∧tb { D with nx := N,ct := N,bk := D.nx } σ H1 else D.nx σ H1
theorem zkx {c : Expr} {body : List Stmt} {tc : TT} {tb : TS} (hp : PassesOwn (model X.prog X.w) X.A X.env X.xe) (hc : PT X c tc) (hb : PSs X body tb) : PS X (.While c body [] pos) (znh tc tb) := by
  intro pins s σ H D I h
  obtain ⟨W,⟨m0,w0⟩,turn⟩ := h
  refine wpAny_While (codeAny_whileLoop (fun n s' => ∃ σ' H',Inv X pins σ' H' s'∧W n σ' H') ?_ m0 ⟨σ,H,I,w0⟩)
  rintro n s1 ⟨σ1,H1,I1,w1⟩
  refine wpAny_passesOwn hp (thn (hc pins s1 σ1 H1 _ I1 (turn n σ1 H1 w1)) fun b s2 ⟨H2,I2,q2⟩ => ?_)
  cases b with
  | true =>
    obtain ⟨N,hN,q2⟩ := q2
    rw [if_pos rfl]
    refine wpAny_passesOwn hp (thn (hb pins s2 σ1 H2 _ I2 q2) fun f s3 q3 => ?_)
    cases f with
    | next =>
      obtain ⟨σ3,H3,I3,n3⟩ := q3
      obtain ⟨m',hm,w3⟩ := hN σ3 H3 n3
      exact ⟨m',hm,σ3,H3,I3,w3⟩
    | cont =>
      obtain ⟨σ3,H3,I3,n3⟩ := q3
      obtain ⟨m',hm,w3⟩ := hN σ3 H3 n3
      exact ⟨m',hm,σ3,H3,I3,w3⟩
    | brk => exact q3
    | ret v => exact q3
  | false =>
    rw [if_neg Bool.false_ne_true]
    exact wpAny_execs_nil ⟨σ1,H2,I2,q2⟩
end
structure It where
  go : Nat→Hp→Prop
  yld : Nat→Hp→V→Hp→Prop
  stop : Nat→Hp→Prop
noncomputable def FpOk (X : Cx) (pins : List (Addr × Obj)) (H : Hp) (b : Addr) : Prop :=
  H b = none∧b≠X.env.locals∧b∉X.fs∧(b∈X.ex∨X.s₀.heap.objs.size≤b)∧(∀ x c,X.env.cells.lookup x = some c→c≠b)∧∀ p∈X.pn++pins,p.1≠b
theorem Inv.fpOk {X : Cx} {pins : List (Addr × Obj)} {σ : St} {H H' : Hp} {s : Shared} {b : Addr} (I : Inv X pins σ H s) (hb : s.heap.objs.size≤b) (hn : H' b = none) : FpOk X pins H' b := by
  refine ⟨hn,Nat.ne_of_gt (Nat.lt_of_lt_of_le I.lt hb),I.nofs hb,.inr (Nat.le_trans I.sz hb),fun x c e z => ?_,fun p hp z => ?_⟩
  · obtain ⟨v,q⟩ := I.cell x c e
    exact absurd (Nat.lt_of_lt_of_le q.lt (by rw [z]; exact hb)) (Nat.lt_irrefl _)
  · exact absurd (Nat.lt_of_lt_of_le (Heap.lt_size (I.pin p hp).1) (by rw [z]; exact hb)) (Nat.lt_irrefl _)
structure Turn (P : Program) (w : World) (K : PySem.W.Frag) (tg : Expr) (J : It) (fp : List Addr) (it : Addr) (tn : Nat→Heap→Prop) : Prop where
  mem : it∈fp
  obj : ∀ i h,tn i h→∀ b∈fp,∃ o,h.get? b = some o∧∀ v,o.data≠.cell v
  keep : ∀ i h h',tn i h→(∀ b∈fp,∀ o,h.get? b = some o→h'.get? b = some o)→tn i h'
  item : ∀ (X : Cx),X.prog = P→X.w = w→X.K = K→X.calm = true→∀ (i : Nat) (pins : List (Addr × Obj)) (s : Shared) (σ : St) (H : Hp) (E : Value→Shared→Prop),Inv X pins σ H s→(∀ b∈fp,FpOk X pins H b)→tn i s.heap→J.go i H →
    wpAny (model P w) X.A (pyNext (.ref it)) (fun r s1 => ∃ u,r = some u ∧
      wpAny (model P w) X.A (letOwnedTupleGo tg (.ref it) u) (fun _ s2 => ∃ x H',Inv X pins σ H' s2∧RelV x u∧J.yld i H x H'∧tn (i + 1) s2.heap∧∀ b∈fp,H' b = none) E s1) E s
  done : ∀ (X : Cx),X.prog = P→X.w = w→X.K = K→X.calm = true→∀ (i : Nat) (pins : List (Addr × Obj)) (s : Shared) (σ : St) (H : Hp) (E : Value→Shared→Prop),Inv X pins σ H s→(∀ b∈fp,FpOk X pins H b)→tn i s.heap→J.stop i H →
    wpAny (model P w) X.A (pyNext (.ref it)) (fun r s1 => r = none∧Inv X pins σ H s1) E s
  self : ∀ (A : Around) (i : Nat) (s : Shared) (Q : Value→Shared→Prop) (E : Value→Shared→Prop),tn i s.heap→Q (.ref it) s→wpAny (model P w) A (pyIter (.ref it)) Q E s
noncomputable abbrev TI := St→Hp→(It→Hp→Prop)→Prop
noncomputable def PIE (X : Cx) (pins : List (Addr × Obj)) (σ : St) (tg : Expr) (R : It→Hp→Prop) (itv : Value) (s2 : Shared) : Prop :=
  ∃ (it : Addr) (fp : List Addr) (tn : Nat→Heap→Prop) (J : It) (H' : Hp),itv = .ref it∧Inv X pins σ H' s2∧Turn X.prog X.w X.K tg J fp it tn∧tn 0 s2.heap∧(∀ b∈fp,FpOk X pins H' b)∧R J H'
noncomputable def PI (X : Cx) (tg iter : Expr) (wi : TI) : Prop :=
  ∀ (pins : List (Addr × Obj)) (s : Shared) (σ : St) (H : Hp) (R : It→Hp→Prop),Inv X pins σ H s→wi σ H R →
    wpAny (model X.prog X.w) X.A (eval iter X.env) (fun v s1 => wpAny (model X.prog X.w) X.A (pyIter v) (PIE X pins σ tg R) X.xe s1) X.xe s
theorem zmL {M : Model} {A : Around} {E : Value→Shared→Prop} {s : Shared} {tg : Expr} {it : Addr} {u : Value} {o : Obj} {n : String} {vs : Array Value} {Q : Unit→Shared→Prop} (ho : s.heap.get? it = some o) (hc : o.cls = .type n) (hd : o.data = .fields vs)
    (hn : ["enumerate","zip","dict_itemiterator","dict_reverseitemiterator","odict_iterator","itertools.zip_longest","itertools.pairwise"].contains n = false) (hQ : Q () s) : wpAny M A (letOwnedTupleGo tg (.ref it) u) Q E s := by
  unfold letOwnedTupleGo
  cases tg <;> first
    | exact wpAny_pure hQ
    | (cases u <;> first
        | exact wpAny_pure hQ
        | (refine wpAny_bind (wpAny_load ho ?_)
           rw [hc,hd]
           show wpAny M A (if (["enumerate","zip","dict_itemiterator","dict_reverseitemiterator","odict_iterator","itertools.zip_longest","itertools.pairwise"].contains n && vs[0]? == some (rawInt _)) = true then _ else _) Q E s
           rw [if_neg (by intro h; rw [hn,Bool.false_and] at h; cases h)]
           exact wpAny_pure hQ))
noncomputable def Itl (K : PySem.W.Frag) (a : Addr) : It :=
  ⟨fun i H => ∃ xs x,SqL K H a xs∧xs[i]? = some x,fun i H x H' => H' = H∧∀ xs,SqL K H a xs→xs[i]? = some x,fun i H => ∃ xs,SqL K H a xs∧xs.length≤i⟩
noncomputable def Itt (K : PySem.W.Frag) (a : Addr) : It :=
  ⟨fun i H => ∃ xs x,SqT K H a xs∧xs[i]? = some x,fun i H x H' => H' = H∧∀ xs,SqT K H a xs→xs[i]? = some x,fun i H => ∃ xs,SqT K H a xs∧xs.length≤i⟩
noncomputable def Itr (lo : Int) (n : Nat) : It := ⟨fun i _ => i < n,fun i H x H' => H' = H∧x = .int (lo + i),fun i _ => n≤i⟩
theorem ziq {P : Program} {w : World} {K : PySem.W.Frag} {tg : Expr} (a it : Addr) : Turn P w K tg (Itl K a) [it] it (fun i h => h.IsListIter it a i) where
  mem := by simp
  obj := fun i h st b hb => by
    have e : b = it := by simpa using hb
    subst e
    obtain ⟨o,e,c,d⟩ := st
    exact ⟨o,e,fun v z => by rw [d] at z; cases z⟩
  keep := fun i h h' st k => st.at fun o e => k it (by simp) o e
  item := by
    intro X hP hw hK hc i pins s σ H E I hf st hg
    subst hP hw hK
    obtain ⟨xs,x,hq,hx⟩ := hg
    obtain ⟨its,rv,p,hz⟩ := I.list hq
    obtain ⟨u,hu,ru⟩ := rv.get hx
    obtain ⟨f0,f1,f2,f3,f4,f5⟩ := hf it (by simp)
    refine wpAny_pyNext_list_item st p.isList (x := u) (by simpa using hu) fun h' st' sb => ?_
    have I1 : Inv X pins σ H { s with heap := h' } := I.turned (t' := s.toks) (fun b o hb e => (sb.2 b hb).trans e) f0 f1 f3 f4 f5
    obtain ⟨o,e,c,d⟩ := id st'
    exact ⟨u,rfl,zmL (s := { s with heap := h' }) e c d (by decide) ⟨x,H,I1,ru,⟨rfl,fun ys hy => by rw [I.list_inj hy hq]; exact hx⟩,st',fun b hb => (hf b hb).1⟩⟩
  done := by
    intro X hP hw hK hc i pins s σ H E I hf st hg
    subst hP hw hK
    obtain ⟨xs,hq,hx⟩ := hg
    obtain ⟨its,rv,p,hz⟩ := I.list hq
    obtain ⟨f0,f1,f2,f3,f4,f5⟩ := hf it (by simp)
    have hl := rv.length
    exact wpAny_pyNext_list_end (I.ok.hd hc) st p.isList (by simp; omega) fun h' eb => ⟨rfl,I.turned (t' := s.toks) (fun b o hb e => eb b o hb e) f0 f1 f3 f4 f5⟩
  self := fun _ _ _ _ _ st h => wpAny_pyIter_listiter st h
theorem zhR {P : Program} {w : World} {K : PySem.W.Frag} {tg : Expr} (a it : Addr) : Turn P w K tg (Itt K a) [it] it (fun i h => h.IsTupleIter it a i) where
  mem := by simp
  obj := fun i h st b hb => by
    have e : b = it := by simpa using hb
    subst e
    obtain ⟨o,e,c,d⟩ := st
    exact ⟨o,e,fun v z => by rw [d] at z; cases z⟩
  keep := fun i h h' st k => st.at fun o e => k it (by simp) o e
  item := by
    intro X hP hw hK hc i pins s σ H E I hf st hg
    subst hP hw hK
    obtain ⟨xs,x,hq,hx⟩ := hg
    obtain ⟨its,rv,p,hz⟩ := I.tuple hq
    obtain ⟨u,hu,ru⟩ := rv.get hx
    obtain ⟨f0,f1,f2,f3,f4,f5⟩ := hf it (by simp)
    refine wpAny_pyNext_tuple_item st (show s.heap.IsTuple a its.toArray from p) (x := u) (by simpa using hu) fun h' st' sb => ?_
    have I1 : Inv X pins σ H { s with heap := h' } := I.turned (t' := s.toks) (fun b o hb e => (sb.2 b hb).trans e) f0 f1 f3 f4 f5
    obtain ⟨o,e,c,d⟩ := id st'
    exact ⟨u,rfl,zmL (s := { s with heap := h' }) e c d (by decide) ⟨x,H,I1,ru,⟨rfl,fun ys hy => by rw [I.tuple_inj hy hq]; exact hx⟩,st',fun b hb => (hf b hb).1⟩⟩
  done := by
    intro X hP hw hK hc i pins s σ H E I hf st hg
    subst hP hw hK
    obtain ⟨xs,hq,hx⟩ := hg
    obtain ⟨its,rv,p,hz⟩ := I.tuple hq
    obtain ⟨f0,f1,f2,f3,f4,f5⟩ := hf it (by simp)
    have hl := rv.length
    exact wpAny_pyNext_tuple_end (I.ok.hd hc) st (show s.heap.IsTuple a its.toArray from p) (by simp; omega) fun h' eb => ⟨rfl,I.turned (t' := s.toks) (fun b o hb e => eb b o hb e) f0 f1 f3 f4 f5⟩
  self := fun _ _ _ _ _ st h => wpAny_pyIter_tupleiter st h
theorem zhS {P : Program} {w : World} {K : PySem.W.Frag} {tg : Expr} (it : Addr) (lo : Int) (n : Nat) : Turn P w K tg (Itr lo n) [it] it (fun i h => IsRangeIter h it (lo + (i : Nat) * 1) ((n : Int) - (i : Nat)) 1) where
  mem := by simp
  obj := fun i h st b hb => by
    have e : b = it := by simpa using hb
    subst e
    exact ⟨_,st,fun v z => by
      have z' : Data.fields _ = Data.cell v := z
      cases z'⟩
  keep := fun i h h' st k => k it (by simp) _ st
  item := by
    intro X hP hw hK hc i pins s σ H E I hf st hg
    subst hP hw hK
    obtain ⟨f0,f1,f2,f3,f4,f5⟩ := hf it (by simp)
    have W := Walks.range (prog := X.prog) (w := X.w) (I.ok.hd hc) it lo 1 n
    refine W.item i s _ _ hg st fun v h' tk hv st' kk => ?_
    obtain ⟨t,rfl⟩ := hv
    have I1 : Inv X pins σ H { s with heap := h',toks := tk } := I.turned (fun b o hb e => kk b o (by simpa using hb) e) f0 f1 f3 f4 f5
    refine ⟨_,rfl,zmL (s := { s with heap := h',toks := tk }) (n := "range_iterator") st' rfl rfl (by decide) ⟨.int (lo + i),H,I1,⟨t,?_⟩,⟨rfl,rfl⟩,st',fun b hb => (hf b hb).1⟩⟩
    rw [Int.mul_one]
  done := by
    intro X hP hw hK hc i pins s σ H E I hf st hg
    subst hP hw hK
    obtain ⟨f0,f1,f2,f3,f4,f5⟩ := hf it (by simp)
    exact wpAny_pyNext_range_end (I.ok.hd hc) st (by have : n≤i := hg; omega) fun h' eb => ⟨rfl,I.turned (t' := s.toks) (fun b o hb e => eb b o hb e) f0 f1 f3 f4 f5⟩
  self := fun _ _ _ _ _ st h => wpAny_pyIter_rangeiter st h
end L2
namespace L2
open PySem PySem.Spec PyProof.Rows
section
variable {X : Cx} {tg : Expr}
theorem zkt {pins : List (Addr × Obj)} {σ : St} {H : Hp} {s : Shared} {R : It→Hp→Prop} {E : Value→Shared→Prop} {lo hi : Int} {t u v : Tok} {tk : Nat} (I : Inv X pins σ H s) (h1 : -(2 ^ 62)≤lo) (h2 : lo < 2 ^ 62) (h3 : -(2 ^ 62)≤hi) (h4 : hi < 2 ^ 62)
    (q : R (Itr lo (hi - lo).toNat) H) : wpAny (model X.prog X.w) X.A (pyIter (.ref s.heap.objs.size)) (PIE X pins σ tg R) E { s with heap := s.heap.push { cls := .type "range",data := .fields #[.int lo t,.int hi u,.int 1 v] },toks := tk } := by
  refine wpAny_pyIter_range (IsRange.new ..) (small_one h1 h2 h3 h4) ?_
  have I1 : Inv X pins σ H { s with heap := s.heap.push { cls := .type "range",data := .fields #[.int lo t,.int hi u,.int 1 v] },toks := tk } := I.kept fun b o e => Heap.get?_push_of_some _ e
  refine ⟨(s.heap.push { cls := .type "range",data := .fields #[.int lo t,.int hi u,.int 1 v] }).objs.size,[(s.heap.push { cls := .type "range",data := .fields #[.int lo t,.int hi u,.int 1 v] }).objs.size],_,_,H,rfl,
    I1.kept (t' := tk) fun b o e => Heap.get?_push_of_some _ e,zhS _ lo (hi - lo).toNat,?_,fun b hb => ?_,q⟩
  · have e1 : lo + ((0 : Nat) : Int) * 1 = lo := by simp
    have e2 : (((hi - lo).toNat : Nat) : Int) - ((0 : Nat) : Int) = Builtin.Range.rangeSize lo hi 1 := by rw [rangeSize_one]; split <;> omega
    show IsRangeIter _ _ (lo + ((0 : Nat) : Int) * 1) ((((hi - lo).toNat : Nat) : Int) - ((0 : Nat) : Int)) 1
    rw [e1,e2]
    exact Heap.get?_push_size _ rfl
  · have e : b = (s.heap.push { cls := .type "range",data := .fields #[.int lo t,.int hi u,.int 1 v] }).objs.size := by simpa using hb
    subst e
    exact I1.fpOk (Nat.le_refl _) (I1.hok.fresh (Nat.le_refl _))
noncomputable def zpO (ta : TA) : TI := fun σ H R => ta σ H fun vs H1 => ∃ j : Int,vs = [.int j]∧-(2 ^ 62)≤j∧j < 2 ^ 62∧R (Itr 0 j.toNat) H1
theorem ziQ {a : Expr} {ta : TA} {p pos : Pos} (hg : Gl X "range") (hm : X.mg "range" = none) (ha : PA X [a] ta) (hs : starEach [a] X.env = [(false,eval a X.env)] := by rfl) : PI X tg (.Call (.Name "range" p) [a] [] pos) (zpO ta) := by
  intro pins s σ H R I h
  refine Call_ (zft I hg hm boot_range (PyProof.Rows.callWith_type1 (thn (ha pos pins s σ H _ I h) fun us s1 ⟨vs,H1,I1,r1,q1⟩ => ?_) hs rfl))
  obtain ⟨j,e,q1,q2,q⟩ := q1
  subst e
  cases r1 with
  | cons r rr =>
    cases rr
    obtain ⟨t,rfl⟩ := r
    exact call_range_1 (zkt I1 (by omega) (by omega) q1 q2 (by simpa using q))
noncomputable def tFor (wi : TI) (g : TG) (tb : TS) : TS := fun D σ H => wi σ H fun J H1 => ∃ W : Nat→Nat→St→Hp→Prop,(∃ m,W 0 m σ H1)∧∀ i m σ H,W i m σ H →
  (J.stop i H∧D.nx σ H)∨(J.go i H∧∃ N : St→Hp→Prop,(∀ σ' H',N σ' H'→∃ m',m' < m∧W (i + 1) m' σ' H')∧∀ x H',J.yld i H x H'→g x σ H' fun σ2 H2 => tb { D with nx := N,ct := N,bk := D.nx } σ2 H2)
noncomputable def zgj (fp : List Addr) (h : Heap) : List (Addr × Obj) := fp.filterMap fun b => (h.get? b).map fun o => (b,o)
theorem zdm {fp : List Addr} {h : Heap} {b : Addr} {o : Obj} (hb : b∈fp) (e : h.get? b = some o) : (b,o)∈zgj fp h := List.mem_filterMap.mpr ⟨b,hb,by rw [e]; rfl⟩
theorem zi3 {fp : List Addr} {h : Heap} {p : Addr × Obj} (hp : p∈zgj fp h) : p.1∈fp∧h.get? p.1 = some p.2 := by
  obtain ⟨b,hb,e⟩ := List.mem_filterMap.mp hp
  cases q : h.get? b with
  | none => rw [q] at e; cases e
  | some o =>
    rw [q] at e
    have e' : (b,o) = p := Option.some.inj e
    subst e'
    exact ⟨hb,q⟩
theorem Inv.pinned {pins : List (Addr × Obj)} {σ : St} {H : Hp} {s : Shared} {fp : List Addr} (I : Inv X pins σ H s) (hf : ∀ b∈fp,FpOk X pins H b) (ho : ∀ b∈fp,∃ o,s.heap.get? b = some o∧∀ v,o.data≠.cell v) : Inv X (pins++zgj fp s.heap) σ H s :=
  I.pins_of fun p hp => (List.mem_append.mp hp).elim (fun z => I.pin p (List.mem_append_right _ z)) fun z => by
    obtain ⟨hb,e⟩ := zi3 z
    obtain ⟨f0,f1,f2,_⟩ := hf p.1 hb
    obtain ⟨o,e',d⟩ := ho p.1 hb
    rw [e] at e'; cases e'
    exact ⟨e,f0,f1,f2,d⟩
theorem Inv.unpinned {pins pl : List (Addr × Obj)} {σ : St} {H : Hp} {s : Shared} (I : Inv X (pins++pl) σ H s) : Inv X pins σ H s := I.pins_of fun p hp => I.pin p (List.mem_append_right _ (List.mem_append_left _ hp))
theorem ziL {iter : Expr} {body : List Stmt} {wi : TI} {g : TG} {tb : TS} {pos : Pos} (hp : PassesOwn (model X.prog X.w) X.A X.env X.xe) (hc : X.calm = true) (hi : PI X tg iter wi) (hg : PG X tg g) (hb : PSs X body tb)
    (hs : ∀ x,foldedSetIterable iter X.env x = pure x := by intro _; rfl) : PS X (.For tg iter body [] pos) (tFor wi g tb) := by
  intro pins s σ H D I h
  refine wpAny_For (thn (hi pins s σ H _ I h) fun v s1 h1 => thn h1 fun itv s2 h2 => ?_) hs
  obtain ⟨it,fp,tn,J,H2,e,I2,T,st2,f2,W,⟨m0,w0⟩,turn⟩ := h2
  subst e
  have stat : ∀ {H' : Hp},(∀ b∈fp,H' b = none)→∀ b∈fp,FpOk X pins H' b := fun hn b hb => ⟨hn b hb,(f2 b hb).2⟩
  refine codeAny_forLoop_any (fun n s' => ∃ i σ' H',Inv X pins σ' H' s'∧tn i s'.heap∧(∀ b∈fp,H' b = none)∧W i n σ' H') ?_ m0 ⟨0,σ,H2,I2,st2,fun b hb => (f2 b hb).1,w0⟩
  rintro n s3 ⟨i,σ3,H3,I3,st3,fr3,w3⟩
  rcases turn i n σ3 H3 w3 with ⟨stop,qn⟩ | ⟨go,N,hN,step⟩
  · refine wpAny_passesOwn hp (thn (T.done X rfl rfl rfl hc i pins s3 σ3 H3 X.xe I3 (stat fr3) st3 stop) fun r s4 ⟨hr,I4⟩ => ?_)
    subst hr
    exact wpAny_execs_nil ⟨σ3,H3,I4,qn⟩
  · refine wpAny_passesOwn hp (thn (T.item X rfl rfl rfl hc i pins s3 σ3 H3 X.xe I3 (stat fr3) st3 go) fun r s4 ⟨u,hr,h4⟩ => ?_)
    subst hr
    refine wpAny_passesOwn hp (thn h4 fun _ s5 ⟨x,H5,I5,r5,y5,st5,fr5⟩ => ?_)
    have I5' := I5.pinned (stat fr5) (T.obj _ _ st5)
    refine wpAny_passesOwn hp (thn (hg _ s5 σ3 H5 x u _ I5' r5 (step x H5 y5)) fun _ s6 ⟨σ6,H6,I6,q6⟩ => ?_)
    refine wpAny_passesOwn hp (thn (hb _ s6 σ6 H6 _ I6 q6) fun f s7 q7 => ?_)
    have again : ∀ {σ7 : St} {H7 : Hp},Inv X (pins++zgj fp s5.heap) σ7 H7 s7→N σ7 H7→∃ m,m < n∧∃ i σ' H',Inv X pins σ' H' s7∧tn i s7.heap∧(∀ b∈fp,H' b = none)∧W i m σ' H' := fun {σ7 H7} I7 n7 => by
      obtain ⟨m',hm,w7⟩ := hN σ7 H7 n7
      refine ⟨m',hm,i + 1,σ7,H7,I7.unpinned,T.keep _ _ _ st5 fun b hb o e => (I7.pin (b,o) (List.mem_append_right _ (List.mem_append_right _ (zdm hb e)))).1,fun b hb => ?_,w7⟩
      obtain ⟨o,e,d⟩ := T.obj _ _ st5 b hb
      exact (I7.pin (b,o) (List.mem_append_right _ (List.mem_append_right _ (zdm hb e)))).2.1
    cases f with
    | next => obtain ⟨σ7,H7,I7,n7⟩ := q7; exact again I7 n7
    | cont => obtain ⟨σ7,H7,I7,n7⟩ := q7; exact again I7 n7
    | brk => obtain ⟨σ7,H7,I7,q7⟩ := q7; exact ⟨σ7,H7,I7.unpinned,q7⟩
    | ret v => obtain ⟨x7,σ7,H7,I7,r7,q7⟩ := q7; exact ⟨x7,σ7,H7,I7.unpinned,r7,q7⟩
end
end L2
namespace L2
open PySem PySem.Spec PyProof.Rows
noncomputable abbrev R2 := V→V→Hp→VK→Prop
noncomputable def OpR (X : Cx) (f : Value→Value→Sem Value) (r : R2) : Prop :=
  ∀ (pins : List (Addr × Obj)) (s : Shared) (σ : St) (H : Hp) (x y : V) (v u : Value) (Q : VK),Inv X pins σ H s→RelV x v→RelV y u→r x y H Q →
    wpAny (model X.prog X.w) X.A (f v u) (EP X pins σ Q) X.xe s
noncomputable def UnR (X : Cx) (f : Value→Sem Value) (r : V→Hp→VK→Prop) : Prop :=
  ∀ (pins : List (Addr × Obj)) (s : Shared) (σ : St) (H : Hp) (x : V) (v : Value) (Q : VK),Inv X pins σ H s→RelV x v→r x H Q →
    wpAny (model X.prog X.w) X.A (f v) (EP X pins σ Q) X.xe s
noncomputable def zc4 (X : Cx) (f : Value) (r : List V→Hp→VK→Prop) : Prop :=
  ∀ (pins : List (Addr × Obj)) (s : Shared) (σ : St) (H : Hp) (xs : List V) (us : List Value) (Q : VK),Inv X pins σ H s→Vals xs us→r xs H Q →
    wpAny (model X.prog X.w) X.A (call f us) (EP X pins σ Q) X.xe s
noncomputable def TruR (X : Cx) (r : V→Hp→(Bool→Hp→Prop)→Prop) : Prop :=
  ∀ (pins : List (Addr × Obj)) (s : Shared) (σ : St) (H : Hp) (x : V) (v : Value) (Q : Bool→Hp→Prop),Inv X pins σ H s→RelV x v→r x H Q →
    wpAny (model X.prog X.w) X.A (truthy v) (TP X pins σ Q) X.xe s
noncomputable def tOp (r : R2) (ta tb : TE) : TE := fun σ H Q => ta σ H fun x H1 => tb σ H1 fun y H2 => r x y H2 Q
noncomputable def tUn (r : V→Hp→VK→Prop) (ta : TE) : TE := fun σ H Q => ta σ H fun x H1 => r x H1 Q
noncomputable def rI (C : Int→Int→Prop) (g : Int→Int→V) : R2 := fun x y H Q => ∃ i j,x = .int i∧y = .int j∧C i j∧Q (g i j) H
noncomputable def rI0 (g : Int→Int→V) : R2 := fun x y H Q => ∃ i j,x = .int i∧y = .int j∧Q (g i j) H
noncomputable def rU (g : Int→V) : V→Hp→VK→Prop := fun x H Q => ∃ i,x = .int i∧Q (g i) H
section
variable {X : Cx} {a b c : Expr} {ta tb tc : TE} {pos : Pos}
theorem binT (ha : PE X a ta) (hb : PE X b tb) {pins : List (Addr × Obj)} {s : Shared} {σ : St} {H : Hp} {R : V→V→Hp→Prop} (I : Inv X pins σ H s)
    (h : ta σ H fun x H1 => tb σ H1 fun y H2 => R x y H2) {Q : Value→Shared→Prop} {f : Value→Value→Sem Value}
    (hf : ∀ v u s2 x y H2,Inv X pins σ H2 s2→RelV x v→RelV y u→R x y H2→wpAny (model X.prog X.w) X.A (f v u) Q X.xe s2) :
    wpAny (model X.prog X.w) X.A (eval a X.env) (fun v s₁ => wpAny (model X.prog X.w) X.A (eval b X.env) (fun u s₂ => wpAny (model X.prog X.w) X.A (f v u) Q X.xe s₂) X.xe s₁) X.xe s := by
  refine thn (ha pins s σ H _ I h) fun v s1 ⟨x,H1,I1,r1,q1⟩ => ?_
  refine thn (hb pins s1 σ H1 _ I1 q1) fun u s2 ⟨y,H2,I2,r2,q2⟩ => ?_
  exact hf v u s2 x y H2 I2 r1 r2 q2
theorem zpu {op : Operator} {r : R2} (ho : OpR X (binaryOp op) r) (ha : PE X a ta) (hb : PE X b tb) : PE X (.BinOp a op b pos) (tOp r ta tb) := by
  intro pins s σ H Q I h
  exact wpAny_BinOp (binT ha hb I h fun v u s2 x y H2 I2 rx ry q => ho pins s2 σ H2 x y v u Q I2 rx ry q)
theorem zpt {op : UnaryOp} {r : V→Hp→VK→Prop} (ho : UnR X (unaryOp op) r) (ha : PE X a ta) : PE X (.UnaryOp op a pos) (tUn r ta) := by
  intro pins s σ H Q I h
  exact UnaryOp_ (thn (ha pins s σ H _ I h) fun v s1 ⟨x,H1,I1,r1,q1⟩ => ho pins s1 σ H1 x v Q I1 r1 q1)
theorem opI {f : Value→Value→Sem Value} {C : Int→Int→Prop} {g : Int→Int→Int}
    (rule : ∀ (i j : Int) (t u : Tok) (s : Shared) (Q : Value→Shared→Prop) (E : Value→Shared→Prop),C i j→Q (.int (g i j) s.toks) { s with toks := s.toks + 1 }→wpAny (model X.prog X.w) X.A (f (.int i t) (.int j u)) Q E s) :
    OpR X f (rI C fun i j => .int (g i j)) := by
  intro pins s σ H x y v u Q I rx ry h
  obtain ⟨i,j,rfl,rfl,hc,q⟩ := h
  obtain ⟨t,rfl⟩ := rx
  obtain ⟨t',rfl⟩ := ry
  exact rule i j t t' s _ _ hc ⟨.int (g i j),H,I.tok _,⟨_,rfl⟩,q⟩
theorem opI0 {f : Value→Value→Sem Value} {g : Int→Int→Int}
    (rule : ∀ (i j : Int) (t u : Tok) (s : Shared) (Q : Value→Shared→Prop) (E : Value→Shared→Prop),Q (.int (g i j) s.toks) { s with toks := s.toks + 1 }→wpAny (model X.prog X.w) X.A (f (.int i t) (.int j u)) Q E s) :
    OpR X f (rI0 fun i j => .int (g i j)) := by
  intro pins s σ H x y v u Q I rx ry h
  obtain ⟨i,j,rfl,rfl,q⟩ := h
  obtain ⟨t,rfl⟩ := rx
  obtain ⟨t',rfl⟩ := ry
  exact rule i j t t' s _ _ ⟨.int (g i j),H,I.tok _,⟨_,rfl⟩,q⟩
theorem opB0 {f : Value→Value→Sem Value} {g : Int→Int→Bool}
    (rule : ∀ (i j : Int) (t u : Tok) (s : Shared) (Q : Value→Shared→Prop) (E : Value→Shared→Prop),Q (.bool (g i j)) s→wpAny (model X.prog X.w) X.A (f (.int i t) (.int j u)) Q E s) :
    OpR X f (rI0 fun i j => .bl (g i j)) := by
  intro pins s σ H x y v u Q I rx ry h
  obtain ⟨i,j,rfl,rfl,q⟩ := h
  obtain ⟨t,rfl⟩ := rx
  obtain ⟨t',rfl⟩ := ry
  exact rule i j t t' s _ _ ⟨.bl (g i j),H,I,rfl,q⟩
noncomputable def CDiv (i j : Int) : Prop := 0 < j∧j < 1073741824
noncomputable def CPow (i j : Int) : Prop := 0≤j∧j≤1000000∧i.natAbs < 2 ^ 64
noncomputable def CMul (i j : Int) : Prop := (-(2 ^ 64) < i∧i < 2 ^ 64)∨(-(2 ^ 64) < j∧j < 2 ^ 64)
theorem CMul.ok {i j : Int} (h : CMul i j) : IntMulOk i j := by
  rcases h with ⟨h1,h2⟩ | ⟨h1,h2⟩
  · exact .of_left (intBits_le_64 h1 h2)
  · exact .of_right (intBits_le_64 h1 h2)
theorem zlv : OpR X (binaryOp .Add) (rI0 fun i j => .int (i + j)) := opI0 fun _ _ _ _ _ _ _ q => add_int q
theorem znX : OpR X (binaryOp .Sub) (rI0 fun i j => .int (i - j)) := opI0 fun _ _ _ _ _ _ _ q => sub_int q
theorem znZ : OpR X (binaryOp .Mult) (rI CMul fun i j => .int (i * j)) := opI fun _ _ _ _ _ _ _ hc q => mul_int q hc.ok
theorem zmp : OpR X (binaryOp .FloorDiv) (rI CDiv fun i j => .int (i / j)) := opI fun i j _ _ _ _ _ hc q => by
  have h1 : (0 : Int) < j := hc.1
  have h2 : j < 1073741824 := hc.2
  exact floordiv_int (by omega) (by rw [Int.fdiv_eq_ediv_of_nonneg i (by omega)]; exact q) (.inl (PyProof.noPylong_small (by omega)))
theorem zn0 : OpR X (binaryOp .Mod) (rI (fun _ j => 0 < j) fun i j => .int (i % j)) := opI fun i j _ _ _ _ _ hc q => by
  have h1 : (0 : Int) < j := hc
  exact mod_int' (by omega) (by rw [Int.fmod_eq_emod_of_nonneg i (by omega)]; exact q)
theorem znY : OpR X (binaryOp .Pow) (rI CPow fun i j => .int (i ^ j.toNat)) := opI fun _ _ _ _ _ _ _ hc q => pow_int_small hc.1 hc.2.1 hc.2.2 q
theorem unI {f : Value→Sem Value} {g : Int→Int}
    (rule : ∀ (i : Int) (t : Tok) (s : Shared) (Q : Value→Shared→Prop) (E : Value→Shared→Prop),Q (.int (g i) s.toks) { s with toks := s.toks + 1 }→wpAny (model X.prog X.w) X.A (f (.int i t)) Q E s) :
    UnR X f (rU fun i => .int (g i)) := by
  intro pins s σ H x v Q I rx h
  obtain ⟨i,rfl,q⟩ := h
  obtain ⟨t,rfl⟩ := rx
  exact rule i t s _ _ ⟨.int (g i),H,I.tok _,⟨_,rfl⟩,q⟩
theorem zm8 : UnR X (unaryOp .USub) (rU fun i => .int (-i)) := unI fun _ _ _ _ _ q => neg_int q
end
noncomputable def scal : V→V→Bool
  | .non,.non => true | .non,.int _ => true | .int _,.non => true | .non,.bl _ => true | .bl _,.non => true | .non,.str _ => true | .str _,.non => true
  | .int _,.int _ => true | .bl _,.bl _ => true | .str _,.str _ => true | .byt _,.byt _ => true
  | .int _,.str _ => true | .str _,.int _ => true | .bl _,.str _ => true | .str _,.bl _ => true
  | _,_ => false
noncomputable def rEq : R2 := fun x y H Q => scal x y = true∧Q (.bl (decide (x = y))) H
noncomputable def rNe : R2 := fun x y H Q => scal x y = true∧Q (.bl (!decide (x = y))) H
theorem zhg {i j : Int} : decide (V.int i = V.int j) = (i == j) := by
  rw [Bool.eq_iff_iff]
  simp
theorem zjN {i j : Bool} : decide (V.bl i = V.bl j) = (i == j) := by
  rw [Bool.eq_iff_iff]
  simp
theorem zhf {i j : Str} : decide (V.str i = V.str j) = (i == j) := by
  rw [Bool.eq_iff_iff]
  simp
theorem zjM {i j : Array UInt8} : decide (V.byt i = V.byt j) = (i.toList == j.toList) := by
  rw [Bool.eq_iff_iff]
  cases i
  cases j
  simp
section
variable {X : Cx} {a b c : Expr} {ta tb tc : TE} {pos : Pos}
theorem zaH {pins : List (Addr × Obj)} {σ : St} {H : Hp} {s : Shared} {Q : VK} {k k' : Bool} (I : Inv X pins σ H s) (q : Q (.bl k) H) (e : k = k') : EP X pins σ Q (.bool k') s := by
  subst e
  exact ⟨.bl k,H,I,rfl,q⟩
theorem zpB : OpR X (compareOp .Eq) rEq := by
  intro pins s σ H x y v u Q I rx ry h
  obtain ⟨hs,q⟩ := h
  cases x with
  | non =>
    cases rx
    cases y with
    | non => cases ry; exact PySem.EqNone.eq_none_none (zaH I q (by simp))
    | bl j => cases ry; exact PySem.EqNone.eq_none_bool (zaH I q (by simp))
    | int j => obtain ⟨t',rfl⟩ := ry; exact PySem.EqNone.eq_none_int (zaH I q (by simp))
    | str j => obtain ⟨t',rfl⟩ := ry; exact PySem.EqNone.eq_none_str (zaH I q (by simp))
    | _ => exact absurd (show false = true from hs) Bool.false_ne_true
  | bl i =>
    cases rx
    cases y with
    | non => cases ry; exact PySem.EqNone.eq_bool_none (zaH I q (by simp))
    | bl j => cases ry; exact eq_bool (zaH I q zjN)
    | str j => obtain ⟨t',rfl⟩ := ry; exact PySem.EqMixed.eq_bool_str (zaH I q (by simp))
    | _ => exact absurd (show false = true from hs) Bool.false_ne_true
  | int i =>
    obtain ⟨t,rfl⟩ := rx
    cases y with
    | non => cases ry; exact PySem.EqNone.eq_int_none (zaH I q (by simp))
    | int j => obtain ⟨t',rfl⟩ := ry; exact eq_int (zaH I q zhg)
    | str j => obtain ⟨t',rfl⟩ := ry; exact PySem.EqMixed.eq_int_str (zaH I q (by simp))
    | _ => exact absurd (show false = true from hs) Bool.false_ne_true
  | str i =>
    obtain ⟨t,rfl⟩ := rx
    cases y with
    | non => cases ry; exact PySem.EqNone.eq_str_none (zaH I q (by simp))
    | bl j => cases ry; exact PySem.EqMixed.eq_str_bool (zaH I q (by simp))
    | int j => obtain ⟨t',rfl⟩ := ry; exact PySem.EqMixed.eq_str_int (zaH I q (by simp))
    | str j => obtain ⟨t',rfl⟩ := ry; exact eq_str (zaH I q zhf)
    | _ => exact absurd (show false = true from hs) Bool.false_ne_true
  | byt i =>
    obtain ⟨t,rfl⟩ := rx
    cases y with
    | byt j => obtain ⟨t',rfl⟩ := ry; exact PySem.W.eq_bytes (zaH I q zjM)
    | _ => exact absurd (show false = true from hs) Bool.false_ne_true
  | _ => cases y <;> exact absurd (show false = true from hs) Bool.false_ne_true
theorem zpy : OpR X (compareOp .NotEq) rNe := by
  intro pins s σ H x y v u Q I rx ry h
  obtain ⟨hs,q⟩ := h
  cases x with
  | non =>
    cases rx
    cases y with
    | non => cases ry; exact PySem.EqNone.ne_none_none (zaH I q (by simp))
    | bl j => cases ry; exact PySem.EqNone.ne_none_bool (zaH I q (by simp))
    | int j => obtain ⟨t',rfl⟩ := ry; exact PySem.EqNone.ne_none_int (zaH I q (by simp))
    | str j => obtain ⟨t',rfl⟩ := ry; exact PySem.EqNone.ne_none_str (zaH I q (by simp))
    | _ => exact absurd (show false = true from hs) Bool.false_ne_true
  | bl i =>
    cases rx
    cases y with
    | non => cases ry; exact PySem.EqNone.ne_bool_none (zaH I q (by simp))
    | bl j => cases ry; exact ne_bool (zaH I q (congrArg not zjN))
    | str j => obtain ⟨t',rfl⟩ := ry; exact PySem.EqMixed.ne_bool_str (zaH I q (by simp))
    | _ => exact absurd (show false = true from hs) Bool.false_ne_true
  | int i =>
    obtain ⟨t,rfl⟩ := rx
    cases y with
    | non => cases ry; exact PySem.EqNone.ne_int_none (zaH I q (by simp))
    | int j => obtain ⟨t',rfl⟩ := ry; exact ne_int (zaH I q (congrArg not zhg))
    | str j => obtain ⟨t',rfl⟩ := ry; exact PySem.EqMixed.ne_int_str (zaH I q (by simp))
    | _ => exact absurd (show false = true from hs) Bool.false_ne_true
  | str i =>
    obtain ⟨t,rfl⟩ := rx
    cases y with
    | non => cases ry; exact PySem.EqNone.ne_str_none (zaH I q (by simp))
    | bl j => cases ry; exact PySem.EqMixed.ne_str_bool (zaH I q (by simp))
    | int j => obtain ⟨t',rfl⟩ := ry; exact PySem.EqMixed.ne_str_int (zaH I q (by simp))
    | str j => obtain ⟨t',rfl⟩ := ry; exact ne_str (zaH I q (congrArg not zhf))
    | _ => exact absurd (show false = true from hs) Bool.false_ne_true
  | byt i =>
    obtain ⟨t,rfl⟩ := rx
    cases y with
    | byt j => obtain ⟨t',rfl⟩ := ry; exact PySem.W.ne_bytes (zaH I q (congrArg not zjM))
    | _ => exact absurd (show false = true from hs) Bool.false_ne_true
  | _ => cases y <;> exact absurd (show false = true from hs) Bool.false_ne_true
theorem zmo : OpR X (compareOp .Lt) (rI0 fun i j => .bl (decide (i < j))) := opB0 fun _ _ _ _ _ _ _ q => lt_int q
theorem zpz : OpR X (compareOp .LtE) (rI0 fun i j => .bl (decide (i≤j))) := opB0 fun _ _ _ _ _ _ _ q => le_int q
theorem zpA : OpR X (compareOp .Gt) (rI0 fun i j => .bl (decide (j < i))) := opB0 fun _ _ _ _ _ _ _ q => gt_int q
theorem ziV : OpR X (compareOp .In) (fun x y H Q => ∃ i j,x = .str i∧y = .str j∧Q (.bl (!(Builtin.Str.occurrences j i 0 j.length 1).isEmpty)) H) := by
  intro pins s σ H x y v u Q I rx ry h
  obtain ⟨i,j,rfl,rfl,q⟩ := h
  obtain ⟨t,rfl⟩ := rx
  obtain ⟨t',rfl⟩ := ry
  exact in_str (zaH I q rfl)
theorem zlu : OpR X (compareOp .Is) (fun x y H Q => y = .non∧Q (.bl (decide (x = .non))) H) := by
  intro pins s σ H x y v u Q I rx ry h
  obtain ⟨rfl,q⟩ := h
  cases ry
  refine is_none_gen (zaH I q ?_)
  cases x <;> first
    | (cases rx; rfl)
    | (obtain ⟨t,rfl⟩ := rx; rfl)
theorem ziT : OpR X (compareOp .IsNot) (fun x y H Q => y = .non∧Q (.bl (!decide (x = .non))) H) := by
  intro pins s σ H x y v u Q I rx ry h
  obtain ⟨rfl,q⟩ := h
  cases ry
  refine isnot_none_gen (zaH I q ?_)
  cases x <;> first
    | (cases rx; rfl)
    | (obtain ⟨t,rfl⟩ := rx; rfl)
theorem OpR.or {f : Value→Value→Sem Value} {r r' : R2} (h : OpR X f r) (h' : OpR X f r') : OpR X f (fun x y H Q => r x y H Q∨r' x y H Q) := by
  intro pins s σ H x y v u Q I rx ry q
  rcases q with q | q
  · exact h pins s σ H x y v u Q I rx ry q
  · exact h' pins s σ H x y v u Q I rx ry q
theorem zdV (b : Expr) {op : CmpOp} (h : op≠.In := by decide) (h2 : op≠.NotIn := by decide) : behindInMarks op b = false := by
  have e1 : (op == CmpOp.In) = false := by cases op <;> first | rfl | exact absurd rfl h
  have e2 : (op == CmpOp.NotIn) = false := by cases op <;> first | rfl | exact absurd rfl h2
  cases b <;> simp [behindInMarks,e1,e2]
theorem zmh {op : CmpOp} {r : R2} (ho : OpR X (compareOp op) r) (ha : PE X a ta) (hb : PE X b tb) (hm : behindInMarks op b = false) : PE X (.Compare a [op] [b] pos) (tOp r ta tb) := by
  intro pins s σ H Q I h
  exact wpAny_Compare1 (binT ha hb I h fun v u s2 x y H2 I2 rx ry q => ho pins s2 σ H2 x y v u Q I2 rx ry q) hm
noncomputable def zo6 (t : TE) : TT := fun σ H Q => t σ H fun x H' => ∃ k,x = .bl k∧Q k H'
theorem zl9 {op : CmpOp} {r : R2} (ho : OpR X (compareOp op) r) (ha : PE X a ta) (hb : PE X b tb) (hm : behindInMarks op b = false) : PT X (.Compare a [op] [b] pos) (zo6 (tOp r ta tb)) := by
  intro pins s σ H Q I h
  refine wpAny_isTrue_Compare1 (thn (ha pins s σ H _ I h) fun v s1 ⟨x,H1,I1,r1,q1⟩ => thn (hb pins s1 σ H1 _ I1 q1) fun u s2 ⟨y,H2,I2,r2,q2⟩ =>
    thn (ho pins s2 σ H2 x y v u _ I2 r1 r2 q2) fun c s3 ⟨z,H3,I3,r3,k,e,q3⟩ => ?_) hm
  subst e
  cases r3
  exact wpAny_truthy_bool ⟨H3,I3,q3⟩
noncomputable def zlj (r r' : R2) (ta tb tc : TE) : TE := fun σ H Q => ta σ H fun x H1 => tb σ H1 fun y H2 => r x y H2 fun z H3 => ∃ k,z = .bl k ∧
  (if k = true then tc σ H3 fun w' H4 => r' y w' H4 Q else Q (.bl false) H3)
theorem zkD {op op' : CmpOp} {r r' : R2} (ho : OpR X (compareOp op) r) (ho' : OpR X (compareOp op') r') (ha : PE X a ta) (hb : PE X b tb) (hc : PE X c tc)
    (hm : lastMarks [op,op'] [b,c] = false := by with_unfolding_all rfl) : PE X (.Compare a [op,op'] [b,c] pos) (zlj r r' ta tb tc) := by
  intro pins s σ H Q I h
  refine Compare_chain (thn (ha pins s σ H _ I h) fun v s1 ⟨x,H1,I1,r1,q1⟩ => chain_link (thn (hb pins s1 σ H1 _ I1 q1) fun u s2 ⟨y,H2,I2,r2,q2⟩ =>
    thn (ho pins s2 σ H2 x y v u _ I2 r1 r2 q2) fun d s3 ⟨z,H3,I3,r3,k,e,q3⟩ => ?_)) hm
  subst e
  cases r3
  refine wpAny_truthy_bool ?_
  cases k with
  | false => exact ite_ff ⟨.bl false,H3,I3,rfl,q3⟩
  | true => exact ite_tt (chain_last (thn (hc pins s3 σ H3 _ I3 q3) fun w' s4 ⟨z',H4,I4,r4,q4⟩ => ho' pins s4 σ H4 y z' u w' Q I4 r2 r4 q4))
noncomputable def TruV (K : PySem.W.Frag) (x : V) (H : Hp) (k : Bool) : Prop :=
  match x with
  | .non => k = false
  | .bl b => k = b
  | .int i => k = (i != 0)
  | .str y => y.length≤sizeLine∧k = ((y.length : Int) != 0)
  | .byt y => y.size≤sizeLine∧k = ((y.size : Int) != 0)
  | .ref p => (∃ xs,SqL K H p xs∧k = !xs.isEmpty)∨(∃ xs,SqT K H p xs∧k = !xs.isEmpty)∨∃ kvs,Rd H p (.dK kvs)∧k = !kvs.isEmpty
  | _ => False
theorem zib {κ : Type} {kvs : List (κ × V)} {vs : List (κ × Value)} (r : KV kvs vs) : (!vs.isEmpty) = !kvs.isEmpty := by
  cases r <;> rfl
theorem zfu {xs : List V} {its : List Value} (r : Vals xs its) : (!its.toArray.isEmpty) = !xs.isEmpty := by
  cases r <;> simp
theorem zfs : (sizeLine : Nat) < 2 ^ 63 := by rw [sizeLine_eq]; decide
theorem zne : TruR X (fun x H Q => ∃ k,TruV X.K x H k∧Q k H) := by
  intro pins s σ H x v Q I rx h
  obtain ⟨k,e,q⟩ := h
  have hl := zfs
  have hs : sizeLine = 16777216 := sizeLine_eq
  cases x with
  | non =>
    cases rx
    have e' : k = false := e
    subst e'
    exact truthy_none ⟨H,I,q⟩
  | bl b =>
    cases rx
    have e' : k = b := e
    subst e'
    exact wpAny_truthy_bool ⟨H,I,q⟩
  | int i =>
    obtain ⟨t,rfl⟩ := rx
    have e' : k = (i != 0) := e
    subst e'
    exact PySem.P.truthy_int ⟨H,I,q⟩
  | str y =>
    obtain ⟨t,rfl⟩ := rx
    obtain ⟨hy,e'⟩ : y.length≤sizeLine∧k = ((y.length : Int) != 0) := e
    subst e'
    exact PySem.P.truthy_str (by omega) ⟨H,I.tok _,q⟩
  | byt y =>
    obtain ⟨t,rfl⟩ := rx
    obtain ⟨hy,e'⟩ : y.size≤sizeLine∧k = ((y.size : Int) != 0) := e
    subst e'
    exact PySem.W.truthy_bytes (by omega) ⟨H,I.tok _,q⟩
  | ref p =>
    cases rx
    have e' : (∃ xs,SqL X.K H p xs∧k = !xs.isEmpty)∨(∃ xs,SqT X.K H p xs∧k = !xs.isEmpty)∨∃ kvs,Rd H p (.dK kvs)∧k = !kvs.isEmpty := e
    rcases e' with ⟨xs,hx,e'⟩ | ⟨xs,hx,e'⟩ | ⟨kvs,hx,e'⟩
    · subst e'
      obtain ⟨its,r,pl,hz⟩ := I.list hx
      have hlen := r.length
      exact wpAny_truthy_list pl.isList (by simp only [List.size_toArray]; omega) ⟨H,I.tok _,by rw [zfu r]; exact q⟩
    · subst e'
      obtain ⟨its,r,pl,hz⟩ := I.tuple hx
      have hlen := r.length
      exact truthy_tuple pl (by simp only [List.size_toArray]; omega) ⟨H,I.tok _,by rw [zfu r]; exact q⟩
    · subst e'
      obtain ⟨hz,hS,vs,r,m⟩ : kvs.length≤sizeLine∧(p == sysModules) = false∧∃ vs,KV kvs vs∧s.heap.DictOf (zbi X.prog X.w) p vs := hx.ok I.hok
      have hlen : kvs.length = vs.length := Paired.length r
      exact wpAny_truthy_dict hS m (by omega) ⟨H,I.tok _,by rw [zib r]; exact q⟩
  | _ => exact (show False from e).elim
theorem zkv (ha : PE X a ta) (he : ∀ whole,isTrue a X.env whole = (do let v ← whole; standAt a.pos; holding [v] (truthy v))) :
    PT X a (fun σ H Q => ta σ H fun x H' => ∃ k,TruV X.K x H' k∧Q k H') := by
  intro pins s σ H Q I h
  exact isTrue_plain (thn (ha pins s σ H _ I h) fun v s1 ⟨x,H1,I1,r1,q1⟩ => zne pins s1 σ H1 x v Q I1 r1 q1) (he _)
theorem zfq : OpR X (binaryOp .Add) (fun x y H Q => ∃ i j,x = .str i∧y = .str j∧i.length + j.length≤sizeLine∧Q (.str (i++j)) H) := by
  intro pins s σ H x y v u Q I rx ry h
  obtain ⟨i,j,rfl,rfl,hz,q⟩ := h
  obtain ⟨t,rfl⟩ := rx
  obtain ⟨t',rfl⟩ := ry
  exact add_str (fun t' tk => ⟨.str (i++j),H,I.tok _,⟨_,rfl⟩,q⟩) hz
theorem zd3 {x : V} {us : List Value} (r : Vals [x] us) : ∃ u,us = [u]∧RelV x u := by
  cases r with
  | cons r1 r2 => cases r2; exact ⟨_,rfl,r1⟩
theorem zm7 {x y : V} {us : List Value} (r : Vals [x,y] us) : ∃ u w',us = [u,w']∧RelV x u∧RelV y w' := by
  cases r with
  | cons r1 r2 =>
    cases r2 with
    | cons r3 r4 => cases r4; exact ⟨_,_,rfl,r1,r3⟩
noncomputable def LenV (K : PySem.W.Frag) (x : V) (H : Hp) (n : Nat) : Prop :=
  match x with
  | .str y => y.length≤sizeLine∧n = y.length
  | .byt y => y.size≤sizeLine∧n = y.size
  | .ref p => (∃ xs,SqL K H p xs∧n = xs.length)∨∃ xs,SqT K H p xs∧n = xs.length
  | _ => False
theorem zk8 : zc4 X (.builtin "len") (fun xs H Q => ∃ x n,xs = [x]∧LenV X.K x H n∧Q (.int n) H) := by
  intro pins s σ H xs us Q I r h
  obtain ⟨x,n,rfl,e,q⟩ := h
  obtain ⟨u,rfl,rx⟩ := zd3 r
  have hl := zfs
  have hs : sizeLine = 16777216 := sizeLine_eq
  cases x with
  | str y =>
    obtain ⟨t,rfl⟩ := rx
    obtain ⟨hy,e'⟩ : y.length≤sizeLine∧n = y.length := e
    subst e'
    exact len_str (by omega) ⟨.int _,H,I.tok _,⟨_,rfl⟩,q⟩
  | byt y =>
    obtain ⟨t,rfl⟩ := rx
    obtain ⟨hy,e'⟩ : y.size≤sizeLine∧n = y.size := e
    subst e'
    exact PySem.W.len_bytes (by omega) ⟨.int _,H,I.tok _,⟨_,rfl⟩,q⟩
  | ref p =>
    cases rx
    have e' : (∃ xs,SqL X.K H p xs∧n = xs.length)∨∃ xs,SqT X.K H p xs∧n = xs.length := e
    rcases e' with ⟨xs,hx,e'⟩ | ⟨xs,hx,e'⟩
    · subst e'
      obtain ⟨its,r',pl,hz⟩ := I.list hx
      have hlen := r'.length
      exact Calls.call_len_list pl.isList (by simp only [List.size_toArray]; omega) ⟨.int xs.length,H,I.tok _,⟨_,by simp only [List.size_toArray]; rw [hlen]⟩,q⟩
    · subst e'
      obtain ⟨its,r',pl,hz⟩ := I.tuple hx
      have hlen := r'.length
      exact len_tuple pl (by simp only [List.size_toArray]; omega) ⟨.int xs.length,H,I.tok _,⟨_,by simp only [List.size_toArray]; rw [hlen]⟩,q⟩
  | _ => exact (show False from e).elim
end
end L2
namespace L2
open PySem PySem.Spec PyProof.Rows
structure ObjM (h : Heap) (x dx C : Addr) (mA : Str→Option Value) : Prop where
  obj : h.get? x = some (PySem.W.instObj C dx)
  ns : h.Ns1 dx mA
  ne : dx≠x
section
variable {prog : Program} {w : World} {A : Around} {E : Value → Shared → Prop} {s : Shared} {K : PySem.W.Frag} {x dx C f : Addr} {mA : Str → Option Value} {name : Str} {v : Value}
end
theorem RelO.some_of {v : V} {o : Option Value} (r : RelO (some v) o) : ∃ u,o = some u∧RelV v u := by
  cases o with
  | none => exact (show False from r).elim
  | some u => exact ⟨u,rfl,r⟩
section
variable {P : Program} {w : World} {H H' : Hp} {h h' : Heap} {a C dx : Addr} {fs fs' : List (Str × V)}
end
structure Cls (K : PySem.W.Frag) (C : Addr) : Prop where
  pg : PySem.W.plainGet K C Str.empty = true
  hd : PySem.W.hasDictIn K C = true
  po : PySem.W.plainOver K C = true
  sa : PySem.W.findIn K (.ref C) "__setattr__" = some (some (.builtin "object.__setattr__"))
theorem Cls.get {K : PySem.W.Frag} {C : Addr} (c : Cls K C) (f : Str) : PySem.W.plainGet K C f = true := c.pg
structure Con (K : PySem.W.Frag) (C : Addr) (f : Str) (v : V) (u : Value) : Prop where
  at_ : PySem.W.findIn K (.ref C) f = some (some u)
  rel : RelV v u
  get : PySem.W.specialIn K u "__get__" = some none
  cp : PySem.W.copiedNames.contains f = false
structure Meth (K : PySem.W.Frag) (C : Addr) (m : Str) (f : Addr) : Prop where
  at_ : PySem.W.findIn K (.ref C) m = some (some (.ref f))
  fn : PySem.W.isFn K (.ref f) = true
  kp : PySem.W.keepIn K (.ref f) = true
section
variable {X : Cx} {pins : List (Addr × Obj)} {σ : St} {H : Hp} {s : Shared} {a C dx : Addr} {fs : List (Str × V)} {f : Str} {v : V} {A : Around} {E : Value → Shared → Prop}
end
section
variable {X : Cx} {o e value : Expr} {f : Str} {pos pos' tpos : Pos} {ta tv : TE}
end
section
variable {X : Cx} {pins : List (Addr × Obj)} {σ : St} {H : Hp} {s : Shared} {A : Around} {E : Value → Shared → Prop} {Q : Value → Shared → Prop} {c : Value} {b : Bool}
inductive TyOf (K : PySem.W.Frag) (H : Hp) : V→Value→Prop where
  | non : TyOf K H .non (.type "NoneType")
  | bl (x : Bool) : TyOf K H (.bl x) (.type "bool")
  | int (i : Int) : TyOf K H (.int i) (.type "int")
  | str (x : Str) : TyOf K H (.str x) (.type "str")
  | flt (x : UInt64) : TyOf K H (.flt x) (.type "float")
  | lst {a : Addr} {xs : List V} (e : H a = some (.lst xs)) : TyOf K H (.ref a) (.type "list")
  | frz {a : Addr} {o : Obj} {xs : List V} (e : H a = some (.frz o (.lst xs))) : TyOf K H (.ref a) (.type "list")
  | tup {a : Addr} {xs : List V} (e : H a = some (.tup xs)) : TyOf K H (.ref a) (.type "tuple")
  | dK {a : Addr} {kvs : List (Key × V)} (e : H a = some (.dK kvs)) : TyOf K H (.ref a) (.type "dict")
  | dT {a : Addr} {kvs : List (List Key × V)} (e : H a = some (.dT kvs)) : TyOf K H (.ref a) (.type "dict")
  | ins {a C dx : Addr} {fs : List (Str × V)} (e : H a = some (.ins C dx fs)) (cl : Cls K C) (ha : PySem.W.findIn K (.ref C) "__class__" = some (some (.builtin "object.__class__")))
      (hn : PySem.W.specialIn K (.builtin "object.__class__") "__get__" = some (some (.builtin "getset_descriptor.__get__"))) (htk : PySem.W.takesIn K (.builtin "object.__class__") = some true)
      (hm : PySem.W.mroIn K C (.type "object") = some true) : TyOf K H (.ref a) (.ref C)
end
end L2
namespace L2
open PySem PySem.Spec PyProof.Rows
structure Room (k : Nat) (A : Around) : Prop where
  hd : A.handled = none
  dp : A.depth + 3 * k + 5 < recursionLimit
  un : A.units + 16 * k + 200 < cLine
theorem Room.mono {j k : Nat} {A : Around} (r : Room k A) (h : j≤k) : Room j A := ⟨r.hd,by have := r.dp; omega,by have := r.un; omega⟩
theorem Room.deeper {k : Nat} {A : Around} (r : Room (k + 1) A) (env : Env) : Room k (A.deeper env) :=
  ⟨r.hd,by have := r.dp; show A.depth + 1 + 3 * k + 5 < _; omega,by have := r.un; show A.units + 3 + 16 * k + 200 < _; omega⟩
theorem Room.depth {k : Nat} {A : Around} (r : Room k A) : A.depth < recursionLimit := by have := r.dp; omega
theorem Room.units {k : Nat} {A : Around} (r : Room k A) : A.units + 64 < cLine := by have := r.un; omega
noncomputable def tNil : TA := fun _ H Q => Q [] H
noncomputable def zpb (ta : TE) (tr : TA) : TA := fun σ H Q => ta σ H fun x H1 => tr σ H1 fun xs H2 => Q (x::xs) H2
section
variable {X : Cx} {e : Expr} {es : List Expr} {te : TE} {t : TA} {pos : Pos}
theorem zdy : PA X [] tNil := fun _ _ _ _ H Q I h => Calls.spliced_nil ⟨[],H,I,.nil,h⟩
theorem zbB (ha : PE X e te) (hr : PA X es t) (hs : starEach (e::es) X.env = (false,eval e X.env)::starEach es X.env := by rfl) : PA X (e::es) (zpb te t) := by
  intro pos pins s σ H Q I h
  rw [hs]
  show wpAny _ _ (spliced ((false,eval e X.env)::backTo pos (starEach es X.env))) _ _ s
  refine Calls.spliced_cons (thn (ha pins s σ H _ I h) fun u s1 ⟨x,H1,I1,r1,q1⟩ => ?_)
  exact thn (hr pos pins s1 σ H1 _ I1 q1) fun us s2 ⟨xs,H2,I2,r2,q2⟩ => ⟨x::xs,H2,I2,.cons r1 r2,q2⟩
noncomputable def tTup (t : TA) : TE := fun σ H Q => t σ H fun xs H1 => xs.length≤sizeLine∧∀ p,H1 p = none→Q (.ref p) (upd H1 p (.tup xs))
noncomputable def tLst (t : TA) : TE := fun σ H Q => t σ H fun xs H1 => xs.length≤sizeLine∧∀ p,H1 p = none→Q (.ref p) (upd H1 p (.lst xs))
theorem znN {x1} (h : PA X es t) : PE X (.Tuple es x1 pos) (tTup t) := by
  intro pins s σ H Q I hq
  refine wpAny_Tuple_spliced (thn (h pos pins s σ H _ I hq) fun us s1 ⟨xs,H1,I1,r,z,q⟩ => ⟨by rw [← r.length]; exact z,?_⟩)
  have hf : H1 s1.heap.objs.size = none := I1.hok.fresh (Nat.le_refl _)
  refine ⟨.ref s1.heap.objs.size,upd H1 s1.heap.objs.size (.tup xs),I1.laid (t' := s1.toks) (fun b u e => Heap.get?_push_of_some _ e) (Nat.le_refl _) ?_,rfl,q _ hf⟩
  exact ⟨z,us,r,⟨_,Heap.get?_push_size _ rfl,rfl,_,rfl⟩,_,Heap.get?_push_size _ rfl,rfl⟩
theorem znS (h : PA X es t) : PE X (.List es pos) (tLst t) := by
  intro pins s σ H Q I hq
  refine wpAny_List_spliced (thn (h pos pins s σ H _ I hq) fun us s1 ⟨xs,H1,I1,r,z,q⟩ => ⟨by rw [← r.length]; exact z,?_⟩)
  have hf : H1 s1.heap.objs.size = none := I1.hok.fresh (Nat.le_refl _)
  refine ⟨.ref s1.heap.objs.size,upd H1 s1.heap.objs.size (.lst xs),I1.laid (t' := s1.toks) (fun b u e => Heap.get?_push_of_some _ e) (Nat.le_refl _) ?_,rfl,q _ hf⟩
  exact ⟨z,us,0,r,Heap.get?_push_size _ rfl⟩
end
noncomputable abbrev Sp := List V→Hp→VK→XK→Prop
noncomputable abbrev CXT := List Env→Hp→Shared→XK→Value→Shared→Prop
structure Env0 (P : Program) (w : World) (K : PySem.W.Frag) (mg : Str→Option Value) (base : Heap) (A : Around) (outer : List Env) (s : Shared) (H : Hp) : Prop where
  frames : A.frames = some outer
  mod : Mod K mg base
  bs : ∀ b o,base.get? b = some o→s.heap.get? b = some o∧H b = none
  bsz : base.objs.size≤s.heap.objs.size
  funs : s.heap.FunFrames base outer
  frf : ∀ b∈frs outer,H b = none
  hok : HOk P w H s.heap
  bare : AllBare s.gens
noncomputable def CE (outer : List Env) (P : Program) (w : World) (H : Hp) (s : Shared) (Q : VK) (u : Value) (s' : Shared) : Prop :=
  ∃ v H',s'.os = s.os∧AllBare s'.gens∧Un (frs outer) [] H H' s.heap s'.heap∧HOk P w H' s'.heap∧RelV v u∧Q v H'
noncomputable def CR (CX : CXT) (outer : List Env) (P : Program) (w : World) (H : Hp) (s : Shared) (Q : VK) (E : XK) (r : Result) (s' : Shared) : Prop :=
  match r with
  | .ok (.ret u) => CE outer P w H s Q u s'
  | .ok _ => False
  | .error e => CX outer H s E e s'
structure FnOk (P : Program) (w : World) (K : PySem.W.Frag) (mg : Str→Option Value) (base : Heap) (CX : CXT) (k : Nat) (f : Addr) (fd : FuncData) (ps : List Str) (sp : Sp) : Prop where
  len : ∀ vs H Q E,sp vs H Q E→vs.length = ps.length
  run : ∀ (A : Around) (outer : List Env) (s : Shared) (H : Hp) (args : Args) (us : List Value) (vs : List V) (Q : VK) (E : XK),Room k A→Env0 P w K mg base A outer s H→BindsTo s fd args (ps.zip us)→Vals vs us→sp vs H Q E →
    codeAny (model P w) A (.call (.ref f) args) (CR CX outer P w H s Q E) s
section
variable {X : Cx} {pins : List (Addr × Obj)} {σ : St} {H : Hp} {s s' : Shared}
theorem Inv.env0 (I : Inv X pins σ H s) : Env0 X.prog X.w X.K X.mg X.base X.A X.stack s H :=
  ⟨I.ok.frames,I.ok.mod,I.bs,Nat.le_trans I.ok.bsz I.sz,I.stack,I.stkFree,I.hok,I.bare⟩
theorem Inv.after {Q : VK} {u : Value} (I : Inv X pins σ H s) (h : CE X.stack X.prog X.w H s Q u s') : EP X pins σ Q u s' := by
  obtain ⟨v,H',os,bare,un,hok,r,q⟩ := h
  obtain ⟨hh,g,d,t,os'⟩ := s'
  obtain rfl : os' = s.os := os
  exact ⟨v,H',I.call (h' := hh) (g' := g) (d' := d) (t' := t) (ch := []) un hok bare (fun b z => absurd z (by simp)),r,q⟩
end
noncomputable def zpc (sp : Sp) (dvs : List V) (E : XK) (t : TA) : TE := fun σ H Q => t σ H fun vs H1 => sp (vs++dvs) H1 Q E
noncomputable def zhm (K : PySem.W.Frag) (fd : FuncData) (ps : List Str) (ds : List Value) : Prop :=
  ∀ (s : Shared) (us : List Value),K.In s.heap→(us++ds).length = ps.length→BindsTo s fd ⟨us,[]⟩ (ps.zip (us++ds))
theorem zhm.all {K : PySem.W.Frag} {fd : FuncData} {ps : List Str} (h : ∀ us : List Value,us.length = ps.length→bindArgs fd ⟨us,[]⟩ = pure (ps.zip us)) : zhm K fd ps [] := fun s us _ hl => by
  rw [List.append_nil] at hl ⊢
  exact .of_eq (h us hl)
noncomputable def zkc (CX : CXT) (X : Cx) (E : XK) : Prop := ∀ (pins : List (Addr × Obj)) (σ : St) (H : Hp) (s : Shared) (e : Value) (s' : Shared),Inv X pins σ H s→CX X.stack H s E e s'→X.xe e s'
section
variable {X : Cx} {CX : CXT} {k : Nat} {f C : Addr} {fd : FuncData} {ps : List Str} {sp : Sp} {dvs : List V} {ds : List Value} {E : XK} {x m : Str} {p pos apos : Pos} {e o : Expr} {es : List Expr} {ta : TE} {t : TA}
theorem znx {pins : List (Addr × Obj)} {σ : St} {H : Hp} {s : Shared} {Q : VK} {us : List Value} {vs : List V} (F : FnOk X.prog X.w X.K X.mg X.base CX k f fd ps sp) (hr : Room k X.A) (hb : zhm X.K fd ps ds) (hd : Vals dvs ds) (hx : zkc CX X E)
    (I : Inv X pins σ H s) (r : Vals vs us) (h : sp (vs++dvs) H Q E) : wpAny (model X.prog X.w) X.A (call (.ref f) us) (EP X pins σ Q) X.xe s := by
  have r2 : Vals (vs++dvs) (us++ds) := r.append hd
  have hl : (us++ds).length = ps.length := by rw [← r2.length]; exact F.len _ _ _ _ h
  refine wpAny_call (codeAny_mono (F.run X.A X.stack s H ⟨us,[]⟩ (us++ds) (vs++dvs) Q E hr I.env0 (hb s us I.kIn hl) r2 h) fun r s' hq => ?_)
  cases r with
  | error e => exact hx pins σ H s e s' I hq
  | ok fl =>
    cases fl with
    | ret u => exact I.after hq
    | next => exact False.elim hq
    | brk => exact False.elim hq
    | cont => exact False.elim hq
theorem zmi (F : FnOk X.prog X.w X.K X.mg X.base CX k f fd ps sp) (hr : Room k X.A) (hg : Gl X x) (hm : X.mg x = some (.ref f)) (hk : PySem.W.keepIn X.K (.ref f) = true) (hb : zhm X.K fd ps ds) (hd : Vals dvs ds) (hx : zkc CX X E)
    (ha : PA X (e::es) t) (hdb : (x == ("__debug__" : Str)) = false := by decide) (he : starEach (e::es) X.env = (false,eval e X.env)::starEach es X.env := by rfl) (hpl : (backTo pos (starEach es X.env)).any (·.1) = false := by rfl) :
    PE X (.Call (.Name x p) (e::es) [] pos) (zpc sp dvs E t) := by
  intro pins s σ H Q I h
  refine wpAny_Call_Name_kw (zmA I hg hm ?_ hdb)
  refine PySem.W.callWith_K (h₀ := X.base) I.ok.mod.kin hk (thn (ha pos pins s σ H _ I h) fun us s1 ⟨vs,H1,I1,r,q⟩ => ⟨I1.kIn,?_⟩) he hpl
  exact znx F hr hb hd hx I1 r q
structure Mk (K : PySem.W.Frag) (C f : Addr) : Prop where
  makes : PySem.W.makesIn K C = true
  init : PySem.W.findIn K (.ref C) "__init__" = some (some (.ref f))
  fn : PySem.W.isFn K (.ref f) = true
  kp : PySem.W.keepIn K (.ref C) = true
end
section
variable {X : Cx} {CX : CXT} {k : Nat} {f C : Addr} {fd : FuncData} {ps ks : List Str} {sp : Sp} {E : XK} {x m : Str} {p pos apos kpos : Pos} {e o : Expr} {es : List Expr} {kws : List Keyword} {te ta : TE} {t tk : TA} {nm : Option Str}
structure KBinds (K : PySem.W.Frag) (fd : FuncData) (ps ks : List Str) (g : List Value→List Value→List Value) (gV : List V→List V→List V) : Prop where
  to : ∀ (s : Shared) (us ws : List Value),K.In s.heap→(g us ws).length = ps.length→BindsTo s fd ⟨us,ks.zip ws⟩ (ps.zip (g us ws))
  rel : ∀ {vs : List V} {us : List Value} {zs : List V} {ws : List Value},Vals vs us→Vals zs ws→Vals (gV vs zs) (g us ws)
variable {g : List Value → List Value → List Value} {gV : List V → List V → List V}
end
structure FnScope (N P : List Str) (sc : Scope) : Prop where
  kind : sc.kind = .function
  co : sc.isCoroutine = false
  gen : sc.isGenerator = false
  nd : N.Nodup
  pre : N.take P.length = P
  par : ∀ x∈P,sc.names.lookup x = some .local∨sc.names.lookup x = some .cell
  nofree : ∀ y∈sc.names,y.2≠.free
theorem zgF {kindOf : Str→Option NameKind} {x : Str} : ∀ {binds : List (Str × Value)} {m : Str→Option Value},(∀ v,(x,v)∉binds)→bindL kindOf binds m x = m x
  | [],_,_ => rfl
  | (n,v)::r,m,h => by
    unfold bindL
    rw [zgF fun w hw => h w (List.mem_cons_of_mem _ hw)]
    split
    · have : x≠n := by rintro rfl; exact h v List.mem_cons_self
      simp [this]
    · rfl
theorem zgH {kindOf : Str→Option NameKind} {x : Str} : ∀ {binds : List (Str × Value)} {m : Str→Option Value},(∀ v,(x,v)∉binds)→bindC kindOf binds m x = m x
  | [],_,_ => rfl
  | (n,v)::r,m,h => by
    unfold bindC
    rw [zgH fun w hw => h w (List.mem_cons_of_mem _ hw)]
    split
    · rfl
    · have : x≠n := by rintro rfl; exact h v List.mem_cons_self
      simp [this]
theorem zgG {kindOf : Str→Option NameKind} {x : Str} {v : Value} : ∀ {P : List Str} {vs : List Value} {i : Nat} {m : Str→Option Value},P.Nodup→P[i]? = some x→vs[i]? = some v→kindOf x = some .local →
    bindL kindOf (P.zip vs) m x = some v
  | [],_,_,_,_,h,_,_ => by simp at h
  | _::_,[],_,_,_,_,h,_ => by simp at h
  | p::P,w::vs,0,m,nd,h1,h2,hk => by
    simp at h1 h2; subst h1; subst h2
    show bindL kindOf ((p,w)::P.zip vs) m p = _
    unfold bindL
    rw [zgF fun v hv => (List.nodup_cons.mp nd).1 (List.of_mem_zip hv).1,if_pos hk]
    simp
  | p::P,w::vs,i + 1,m,nd,h1,h2,hk => by
    show bindL kindOf ((p,w)::P.zip vs) m x = _
    unfold bindL
    exact zgG (i := i) (List.nodup_cons.mp nd).2 (by simpa using h1) (by simpa using h2) hk
theorem zgI {kindOf : Str→Option NameKind} {x : Str} {v : Value} : ∀ {P : List Str} {vs : List Value} {i : Nat} {m : Str→Option Value},P.Nodup→P[i]? = some x→vs[i]? = some v→kindOf x≠some .local →
    bindC kindOf (P.zip vs) m x = some v
  | [],_,_,_,_,h,_,_ => by simp at h
  | _::_,[],_,_,_,_,h,_ => by simp at h
  | p::P,w::vs,0,m,nd,h1,h2,hk => by
    simp at h1 h2; subst h1; subst h2
    show bindC kindOf ((p,w)::P.zip vs) m p = _
    unfold bindC
    rw [zgH fun v hv => (List.nodup_cons.mp nd).1 (List.of_mem_zip hv).1,if_neg hk]
    simp
  | p::P,w::vs,i + 1,m,nd,h1,h2,hk => by
    show bindC kindOf ((p,w)::P.zip vs) m x = _
    unfold bindC
    exact zgI (i := i) (List.nodup_cons.mp nd).2 (by simpa using h1) (by simpa using h2) hk
noncomputable def start (N : List Str) (vs : List V) : St := vs.map some++List.replicate (N.length - vs.length) none
noncomputable def cxOf (CX : CXT) (P : Program) (w : World) (K : PySem.W.Frag) (mg : Str→Option Value) (base : Heap) (N : List Str) (qual : Str) (scope : Scope) (f : Addr) (cd : Value) (A : Around) (outer : List Env) (s : Shared) (H : Hp) (E : XK) : Cx where
  prog := P
  w := w
  K := K
  mg := mg
  base := base
  A := A.deeper (envOfC qual scope s.heap.objs.size f cd)
  N := N
  s₀ := s
  H₀ := H
  env := envOfC qual scope s.heap.objs.size f cd
  outer := outer
  stack := envOfC qual scope s.heap.objs.size f cd::outer
  ex := []
  calm := true
  fn := fun _ => true
  pn := []
  xe := fun e s' => wpAny (model P w) (A.deeper (envOfC qual scope s.heap.objs.size f cd)) (leaving (envOfC qual scope s.heap.objs.size f cd) e) (fun _ s'' => CX outer H s E e s'') (fun e' s'' => CX outer H s E e' s'') s'
theorem zhG {sc : Scope} {n : Nat} {x : Str} (h : sc.names.lookup x = some .cell) : ∃ c,(cellsFrom n sc.names []).lookup x = some c := by
  have q := PySem.W.cellsFrom_some sc.names n [] (.inl h)
  exact Option.isSome_iff_exists.mp q
theorem zjw {CX : CXT} {P : Program} {w : World} {K : PySem.W.Frag} {mg : Str→Option Value} {base : Heap} {N ps : List Str} {qual : Str} {scope : Scope} {f : Addr} {cd : Value} {A : Around} {outer : List Env} {s s1 : Shared} {H : Hp} {E : XK} {us : List Value} {vs : List V}
    (S : FnScope N ps scope) (hd : A.handled = none) (e0 : Env0 P w K mg base A outer s H) (hl : vs.length = ps.length) (r : Vals vs us)
    (x : InCallC s s.heap.objs.size (bindL (envOfC qual scope s.heap.objs.size f cd).kindOf (ps.zip us) fun _ => none) (cellsFrom (s.heap.objs.size + 1) scope.names []) (bindC (envOfC qual scope s.heap.objs.size f cd).kindOf (ps.zip us) fun _ => none) s1) :
    Inv (cxOf CX P w K mg base N qual scope f cd A outer s H E) [] (start N vs) H s1 := by
  have hpl : ps.length≤N.length := by have := congrArg List.length S.pre; rw [List.length_take] at this; omega
  obtain ⟨h1,tk,rfl,hk⟩ := x.done
  have noA : ∀ b : Addr,b∉(cxOf CX P w K mg base N qual scope f cd A outer s H E).ex := fun b z => absurd (show b∈([] : List Addr) from z) (by simp)
  refine ⟨⟨e0.mod,S.kind,rfl,rfl,Nat.le_refl _,fun y z c h1 h2 => ?_,fun y hy => ?_,fun y c _ h => ?_,fun _ => hd,Around.frames_deeper e0.frames,.inr ⟨rfl,rfl⟩,fun b z => absurd z (noA b),e0.bs,e0.bsz,fun b _ _ => noA b,fun b z => absurd z (noA b),e0.funs,e0.frf⟩,
    rfl,e0.bare,Un.kept hk,⟨_,x.toInCall.ns,fun i y v h1 h2 h3 => ?_⟩,fun y c h => ⟨_,x.cell y c h⟩,e0.hok.fresh (Nat.le_refl _),fun y c h => ?_,fun p hp => absurd (show p∈([] : List (Addr × Obj)) from hp) (by simp),e0.hok.kept hk,?_⟩
  · exact name_of_addr x.apart (PySem.mem_of_lookup h1) (PySem.mem_of_lookup h2)
  · have hy : scope.names.lookup y = some .cell∨scope.names.lookup y = some .free := hy
    rcases hy with hy | hy
    · exact zhG hy
    · exact absurd rfl (S.nofree _ (PySem.mem_of_lookup hy))
  · exact Nat.le_of_lt (x.above y c (PySem.mem_of_lookup h))
  · have hi : i < vs.length := by
      unfold start at h2
      by_cases hi : i < vs.length
      · exact hi
      · rw [List.getElem?_append_right (by simpa using hi)] at h2
        rw [List.getElem?_replicate] at h2
        split at h2 <;> cases h2
    have ha : vs[i]? = some v := by
      unfold start at h2
      rw [List.getElem?_append_left (by simpa using hi),List.getElem?_map] at h2
      cases e : vs[i]? with
      | none => rw [e] at h2; cases h2
      | some a => rw [e] at h2; cases h2; rfl
    obtain ⟨u,hu,rv⟩ := r.get ha
    have hp : ps[i]? = some y := by
      rw [← S.pre,List.getElem?_take_of_lt (by omega)]; exact h1
    have ndP : ps.Nodup := by rw [← S.pre]; exact S.nd.sublist (List.take_sublist _ _)
    refine ⟨u,rv,?_⟩
    rcases S.par y (List.mem_of_getElem? hp) with k | k
    · exact .inl ⟨k,zgG ndP hp hu k⟩
    · obtain ⟨c,e⟩ := zhG (n := s.heap.objs.size + 1) k
      refine .inr ⟨.inl k,c,e,?_⟩
      have q := x.cell y c e
      rw [zgI ndP hp hu (by show scope.names.lookup y≠_; rw [k]; decide)] at q
      exact q
  · exact e0.hok.fresh (Nat.le_of_lt (x.above y c (PySem.mem_of_lookup h)))
  · unfold start
    show _ = N.length
    rw [List.length_append,List.length_map,List.length_replicate]
    omega
theorem zpR {CX : CXT} {P : Program} {w : World} {K : PySem.W.Frag} {mg : Str→Option Value} {base : Heap} {k : Nat} {f : Addr} {name qual : Str} {params : Arguments} {body : List Stmt} {scope : Scope} {dV kV doc pm cdv ct oc : Value} {an od : Option Addr}
    {osl : Array (Option Value)} {N ps : List Str} {sp : Sp} (lk : K.lookup f = some ⟨oc,od,.func (PySem.W.fnOf name qual params body scope dV kV doc pm an cdv ct),osl⟩) (hcd : PySem.W.codeIn K cdv qual = true) (S : FnScope N ps scope)
    (len : ∀ vs H Q E,sp vs H Q E→vs.length = ps.length)
    (hbody : ∀ (A : Around) (outer : List Env) (s : Shared) (H : Hp) (vs : List V) (Q : VK) (E : XK),Room k (A.deeper (envOfC qual scope s.heap.objs.size f cdv))→sp vs H Q E →
      ∃ t,PSs (cxOf CX P w K mg base N qual scope f cdv A outer s H E) body t∧t { nx := fun _ H' => Q .non H',rt := Q } (start N vs) H) :
    FnOk P w K mg base CX (k + 1) f (PySem.W.fnOf name qual params body scope dV kV doc pm an cdv ct) ps sp := by
  refine ⟨len,fun A outer s H args us vs Q E hr e0 hb r hsp => ?_⟩
  have hl := len _ _ _ _ hsp
  have KX : K.In s.heap := e0.mod.kin.keeps fun b o e => (e0.bs b o e).1
  have lim : s.heap.NoLimit := e0.mod.nolimit.keeps fun b o e => (e0.bs b o e).1
  have hkind : ∀ y∈ps.zip us,scope.names.lookup y.1 = some .local∨(scope.names.lookup y.1 = some .cell∧((cellsFrom (s.heap.objs.size + 1) scope.names []).lookup y.1).isSome = true) := fun ⟨n,v⟩ hy => by
    rcases S.par n (List.of_mem_zip hy).1 with q | q
    · exact .inl q
    · exact .inr ⟨q,PySem.W.cellsFrom_some _ _ _ (.inl q)⟩
  refine codeAny_call_function hr.depth (KX _ _ lk) rfl S.co S.gen rfl (PySem.W.codeRec_of KX hcd) (hb _ _ _ _ ?_)
  refine wpAny_newFunctionEnv_cells S.kind hkind fun env he s1 x => ?_
  subst he
  refine ⟨lim.keeps x.toInCall.keep,codeAny_func ?_⟩
  obtain ⟨t,ht,hq⟩ := hbody A outer s H vs Q E (hr.deeper _) hsp
  have I : Inv (cxOf CX P w K mg base N qual scope f cdv A outer s H E) [] (start N vs) H s1 := zjw S hr.hd e0 hl r x
  refine wpAny_mono (ht [] s1 (start N vs) H _ I hq) (fun fl s' hs => ?_) fun e s' hs => hs
  have fin : ∀ {σ' : St} {H' : Hp} {v : V} {u : Value},Inv (cxOf CX P w K mg base N qual scope f cdv A outer s H E) [] σ' H' s'→RelV v u→Q v H'→CE outer P w H s Q u s' :=
    fun {σ' H' v u} J rv q => ⟨v,H',J.os,J.bare,J.base,J.hok,rv,q⟩
  cases fl with
  | ret u =>
    obtain ⟨v,σ',H',J,rv,q⟩ := hs
    exact fin J rv q
  | next =>
    obtain ⟨σ',H',J,q⟩ := hs
    exact fin (v := V.non) (u := Value.none) J rfl q
  | brk =>
    obtain ⟨_,_,_,q⟩ := hs
    exact False.elim q
  | cont =>
    obtain ⟨_,_,_,q⟩ := hs
    exact False.elim q
end L2
namespace L2
open PySem PySem.Spec PyProof.Rows
section
variable {X : Cx} {x : Str} {p pos : Pos} {e : Expr} {es : List Expr} {t : TA} {id T : String} {r : List V → Hp → VK → Prop}
noncomputable def tCB (r : List V→Hp→VK→Prop) (t : TA) : TE := fun σ H Q => t σ H fun vs H1 => r vs H1 Q
theorem zez (hc : zc4 X (.builtin id) r) (hg : Gl X x) (hm : X.mg x = none) (hv : bootBuiltins x = some (.builtin id)) (ha : PA X (e::es) t) (hn : x≠"__name__" := by decide) (hdb : (x == ("__debug__" : Str)) = false := by decide)
    (he : starEach (e::es) X.env = (false,eval e X.env)::starEach es X.env := by rfl) (hpl : (backTo pos (starEach es X.env)).any (·.1) = false := by rfl) : PE X (.Call (.Name x p) (e::es) [] pos) (tCB r t) := by
  intro pins s σ H Q I h
  refine wpAny_Call_Name_kw (zft I hg hm hv ?_ hn hdb)
  exact PyProof.Rows.callWith_builtin1 (thn (ha pos pins s σ H _ I h) fun us s1 ⟨vs,H1,I1,r1,q1⟩ => hc pins s1 σ H1 vs us Q I1 r1 q1) he hpl
theorem zcC (hc : zc4 X (.type T) r) (hg : Gl X x) (hm : X.mg x = none) (hv : bootBuiltins x = some (.type T)) (ha : PA X (e::es) t) (hn : x≠"__name__" := by decide) (hdb : (x == ("__debug__" : Str)) = false := by decide)
    (he : starEach (e::es) X.env = (false,eval e X.env)::starEach es X.env := by rfl) (hpl : (backTo pos (starEach es X.env)).any (·.1) = false := by rfl) : PE X (.Call (.Name x p) (e::es) [] pos) (tCB r t) := by
  intro pins s σ H Q I h
  refine wpAny_Call_Name_kw (zft I hg hm hv ?_ hn hdb)
  exact PyProof.Rows.callWith_type1 (thn (ha pos pins s σ H _ I h) fun us s1 ⟨vs,H1,I1,r1,q1⟩ => hc pins s1 σ H1 vs us Q I1 r1 q1) he hpl
end
end L2
namespace HT
open PySem PyProof.Rows
section
open PySem.SeqAt
open PySem.AutoSeq1 (wpAny_loadPart')
open PySem.MeetsSeq PySem.MeetsSeq2 PySem.MeetsSeq3
end
section
variable {prog : Program} {w : World} {A : Around} {E : Value → Shared → Prop} {s : Shared}
theorem cat_tup {t b : Addr} {vs ws : List Value} {Q : Value→Shared→Prop} (ht : IsTup s.heap t vs.toArray) (hb : IsTup s.heap b ws.toArray) (hv : vs≠[])
    (h1 : ws = []→Q (.ref t) s) (h2 : ws≠[]→Q (.ref s.heap.objs.size) { s with heap := s.heap.push { cls := .type "tuple",data := .seq (vs++ws).toArray } })
    (hsz : vs.length + ws.length≤sizeLine) : wpAny (model prog w) A (binaryOp .Add (.ref t) (.ref b)) Q E s := by
  obtain ⟨⟨cls,dd,data,sl⟩,ho,hc,n,hd⟩ := id ht
  obtain ⟨⟨cls2,dd2,data2,sl2⟩,ho2,hc2,n2,hd2⟩ := id hb
  simp only at hc hd hc2 hd2
  subst hc hd hc2 hd2
  have e : vs.toArray++ws.toArray = (vs++ws).toArray := by simp
  by_cases hw : ws = []
  · exact concat_meets ⟨_,ho,rfl⟩ ⟨_,ho2,rfl⟩ noFill_tuple_add seq_tuple_add PySem.F.slot_tuple_add PySem.F.entry_tuple_add (PySem.F.args_tuple_add_2 _ _)
      (tuple_addW1 t b vs.toArray ws.toArray n n2 dd dd2 sl sl2 (by simpa using hv) (by simp [hw])) ⟨ho,ho2,h1 hw⟩
  · refine concat_meets ⟨_,ho,rfl⟩ ⟨_,ho2,rfl⟩ noFill_tuple_add seq_tuple_add PySem.F.slot_tuple_add PySem.F.entry_tuple_add (PySem.F.args_tuple_add_2 _ _)
      (tuple_addW2 t b vs.toArray ws.toArray n n2 dd dd2 sl sl2 (by simpa using hv) (by simpa using hw) (by rw [List.size_toArray,List.size_toArray]; exact hsz)) ⟨ho,ho2,?_⟩
    rw [e]
    exact h2 hw
noncomputable def sIx (n d : Nat) : Option Int→Nat
  | none => d
  | some v => if v < 0 then (v + (n : Int)).toNat else min v.toNat n
theorem sIx_none (n d : Nat) : sIx n d none = d := rfl
theorem sIx_nat (n d k : Nat) : sIx n d (some (k : Int)) = min k n := by
  show (if (k : Int) < 0 then ((k : Int) + (n : Int)).toNat else min (k : Int).toNat n) = min k n
  rw [if_neg (by omega),Int.toNat_natCast]
theorem znw (n d : Nat) (hd : d≤n) (o : Option Int) : sIx n d o≤n := by
  cases o with
  | none => exact hd
  | some v =>
    show (if v < 0 then (v + (n : Int)).toNat else min v.toNat n)≤n
    by_cases hv : v < 0
    · rw [if_pos hv]; omega
    · rw [if_neg hv]; exact Nat.min_le_right _ _
theorem zjW (v : Int) (n d : Nat) : (if v < 0 then max (v + (n : Int)) 0 else min v (n : Int)) = ((sIx n d (some v) : Nat) : Int) := by
  show (if v < 0 then max (v + (n : Int)) 0 else min v (n : Int)) = (((if v < 0 then (v + (n : Int)).toNat else min v.toNat n) : Nat) : Int)
  by_cases hv : v < 0
  · simp only [if_pos hv]; omega
  · simp only [if_neg hv]; omega
theorem zii (lo hi : Option Int) (n : Nat) : Builtin.Slice.sliceAdjust lo hi 1 (n : Int) = (((sIx n 0 lo : Nat) : Int),((sIx n n hi : Nat) : Int)) := by
  have h1 : ¬ ((1 : Int) < 0) := by omega
  unfold Builtin.Slice.sliceAdjust
  simp only [h1,if_false]
  refine Prod.ext ?_ ?_
  · cases lo with
    | none => rfl
    | some v => exact zjW v n 0
  · cases hi with
    | none => rfl
    | some v => exact zjW v n n
theorem zh5 (i j : Nat) : Builtin.Slice.slicePlaces (i : Int) (j : Int) 1 = j - i := by
  unfold Builtin.Slice.slicePlaces
  have h1 : (1 : Int) > 0 := by omega
  simp only [h1,if_true,Int.ediv_one]
  split <;> omega
theorem zfm {v : Value} {o : Option Int} {Q : Option Int→Shared→Prop} (p : IsPart v o) (h : Q o s) : wpAny (model prog w) A (Builtin.Slice.slicePartIndex v) Q E s := by
  cases p with
  | none => exact slicePart_none h
  | int i t => exact slicePart_int h
theorem sliceApplied_gen {sl : Addr} {vl vu : Value} {lo hi : Option Int} {n : Nat} {Q : Int × Int × Nat→Shared→Prop} (hs : s.heap.IsSliceOf sl vl vu .none) (pl : IsPart vl lo) (pu : IsPart vu hi)
    (h : Q (((sIx n 0 lo : Nat) : Int),1,sIx n n hi - sIx n 0 lo) s) : wpAny (model prog w) A (Builtin.Slice.sliceApplied (.ref sl) (pure (n : Int))) Q E s := by
  obtain ⟨os,hos,hcs,hds⟩ := id hs
  unfold Builtin.Slice.sliceApplied Builtin.Slice.sliceFields
  refine wpAny_bind (wpAny_bind (wpAny_field hos hds (x := vl) rfl (wpAny_bind (wpAny_field hos hds (x := vu) rfl (wpAny_bind (wpAny_field hos hds (x := .none) rfl (wpAny_pure ?_)))))))
  refine wpAny_bind (slicePart_none ?_)
  show wpAny _ _ (if ((1 : Int) == 0) = true then _ else _) _ _ s
  rw [if_neg (by decide)]
  refine wpAny_bind (zfm pl (wpAny_bind (zfm pu (wpAny_bind (wpAny_pure ?_)))))
  show wpAny _ _ (match Builtin.Slice.sliceAdjust lo hi 1 (n : Int) with | (lo,hi) => pure (lo,(1 : Int),Builtin.Slice.slicePlaces lo hi 1)) _ _ s
  rw [zii lo hi n]
  show wpAny _ _ (pure (((sIx n 0 lo : Nat) : Int),(1 : Int),Builtin.Slice.slicePlaces ((sIx n 0 lo : Nat) : Int) ((sIx n n hi : Nat) : Int) 1)) _ _ s
  rw [zh5]
  exact wpAny_pure h
theorem zky (xs : Array Value) (i k : Nat) : ((List.range k).filterMap fun (m : Nat) => xs[((i : Int) + (m : Int) * 1).toNat]?).toArray = ((xs.toList.drop i).take k).toArray := by
  have e : (fun (m : Nat) => xs[((i : Int) + (m : Int) * 1).toNat]?) = fun m => xs[i + m]? := by
    funext m
    have : ((i : Int) + (m : Int) * 1).toNat = i + m := by omega
    rw [this]
  rw [e]
  have := pick_run xs i k
  rw [List.filterMap_map] at this
  have e2 : ((fun x => xs[x]?) ∘ fun x => i + x) = fun m => xs[i + m]? := rfl
  rw [e2] at this
  rw [this]
theorem getItem_tuple_cut {t sl : Addr} {items : Array Value} {vl vu : Value} {lo hi : Option Int} {Q : Value→Shared→Prop} (ht : IsTup s.heap t items) (hs : s.heap.IsSliceOf sl vl vu .none) (pl : IsPart vl lo) (pu : IsPart vu hi)
    (hw : ¬ (sIx items.size 0 lo = 0∧sIx items.size items.size hi = items.size))
    (h : Q (.ref s.heap.objs.size) { s with heap := s.heap.push { cls := .type "tuple",data := .seq ((items.toList.drop (sIx items.size 0 lo)).take (sIx items.size items.size hi - sIx items.size 0 lo)).toArray } })
    (hsz : items.size≤sizeLine) : wpAny (model prog w) A (getItem (.ref t) (.ref sl)) Q E s := by
  have htake : sizeOk (.seq ((items.toList.drop (sIx items.size 0 lo)).take (sIx items.size items.size hi - sIx items.size 0 lo)).toArray) := by
    show ((items.toList.drop (sIx items.size 0 lo)).take (sIx items.size items.size hi - sIx items.size 0 lo)).toArray.size≤sizeLine
    rw [List.size_toArray,List.length_take,List.length_drop,Array.length_toList]
    omega
  have hj : sIx items.size items.size hi≤items.size := znw _ _ (Nat.le_refl _) hi
  obtain ⟨os,hos,hcs,hds⟩ := id hs
  have hTs : s.TypeIs (.ref sl) "slice" := ⟨os,hos,hcs⟩
  unfold getItem
  try with_reducible refine wpAny_holding ?_
  first | refine wpAny_bind (wpAny_pure ?_) | skip
  refine wpAny_bind (wpAny_sequenceKey ht.typeIs (by decide) ?_)
  refine wpAny_bind (wpAny_callSpecial?_slot (name := Str.ofString "__getitem__") ht.typeIs PyProof.Rows.slot_tuple_getitem
    (wpAny_call_entry PyProof.Rows.slot_tuple_getitem ht.typeIs entry_tuple_getitem ?_ (args_tuple_getitem _ _)))
  show wpAny _ _ (Builtin.Tuple.tupleItemsOf (.ref t) >>= _) _ _ s
  refine wpAny_bind (tupleItemsOf_ ht ?_)
  refine wpAny_bind (wpAny_typeOf hTs ?_)
  rw [if_pos (by decide)]
  refine wpAny_bind (sliceApplied_gen hs pl pu ?_)
  have hno : ¬ ((((sIx items.size 0 lo : Nat) : Int) == 0 && (1 : Int) == 1 && (sIx items.size items.size hi - sIx items.size 0 lo) == items.size) = true) := by
    intro q
    rw [Bool.and_eq_true,Bool.and_eq_true] at q
    have q1 : ((sIx items.size 0 lo : Nat) : Int) = 0 := eq_of_beq q.1.1
    have q2 : sIx items.size items.size hi - sIx items.size 0 lo = items.size := eq_of_beq q.2
    exact hw ⟨by omega,by omega⟩
  show wpAny _ _ (if (((sIx items.size 0 lo : Nat) : Int) == 0 && (1 : Int) == 1 && (sIx items.size items.size hi - sIx items.size 0 lo) == items.size) = true then _ else _) _ _ s
  rw [if_neg hno,zky]
  first
    | exact wpAny_bind (m := Builtin.Tuple.tupleExact _) (wpAny_newObj_type (wpAny_pure ⟨_,rfl,wpAny_pure h⟩) htake)
    | exact wpAny_bind (m := Builtin.Tuple.tupleExact _) (wpAny_newObj_type (wpAny_bind (wpAny_pure (wpAny_pure ⟨_,rfl,wpAny_pure h⟩))) htake)
    | exact wpAny_bind (wpAny_bind (m := Builtin.Tuple.tupleExact _) (wpAny_newObj_type (wpAny_pure (wpAny_pure ⟨_,rfl,wpAny_pure h⟩)) htake))
    | exact wpAny_bind (wpAny_bind (m := Builtin.Tuple.tupleExact _) (wpAny_newObj_type (wpAny_pure ⟨_,rfl,wpAny_pure h⟩) htake))
end
end HT
namespace L2
open PySem PySem.Spec PyProof.Rows
noncomputable abbrev TO := St→Hp→(Option Int→Hp→Prop)→Prop
noncomputable def PO (X : Cx) (e : Option Expr) (t : TO) : Prop :=
  ∀ (pins : List (Addr × Obj)) (s : Shared) (σ : St) (H : Hp) (Q : Option Int→Hp→Prop),Inv X pins σ H s→t σ H Q →
    wpAny (model X.prog X.w) X.A (evalPart e X.env) (fun u s' => ∃ o H',Inv X pins σ H' s'∧IsPart u o∧Q o H') X.xe s
noncomputable def zlU : TO := fun _ H Q => Q none H
noncomputable def zo7 (t : TE) : TO := fun σ H Q => t σ H fun x H1 => ∃ i,x = .int i∧Q (some i) H1
theorem zfv {ns : List Int} : ∀ {us : List Value},Vals (ns.map V.int) us→IntsAre us ns := by
  induction ns with
  | nil => intro us r; rw [List.map_nil] at r; cases r; exact .nil
  | cons n ns ih =>
    intro us r
    rw [List.map_cons] at r
    cases r with
    | cons r1 r2 =>
      obtain ⟨t,e⟩ := r1
      subst e
      exact .cons n t (ih r2)
section
variable {X : Cx} {e : Expr} {te : TE} {lo hi : Option Expr} {tl th : TO} {pos p2 : Pos}
theorem zmd : PO X none zlU := by
  intro pins s σ H Q I h
  rw [evalPart_none]
  exact wpAny_pure ⟨none,H,I,.none,h⟩
theorem zmc (h : PE X e te) : PO X (some e) (zo7 te) := by
  intro pins s σ H Q I hw
  rw [evalPart_some]
  refine thn (h pins s σ H _ I hw) fun u s1 ⟨x,H1,I1,r1,q1⟩ => ?_
  obtain ⟨i,rfl,q⟩ := q1
  obtain ⟨t,rfl⟩ := r1
  exact ⟨some i,H1,I1,.int i t,q⟩
noncomputable def SlR (X : Cx) (r : V→Option Int→Option Int→Hp→VK→Prop) : Prop :=
  ∀ (pins : List (Addr × Obj)) (s : Shared) (σ : St) (H : Hp) (x : V) (v vl vu : Value) (lo hi : Option Int) (sl : Addr) (Q : VK),Inv X pins σ H s→RelV x v→s.heap.IsSliceOf sl vl vu .none→IsPart vl lo→IsPart vu hi→r x lo hi H Q →
    ∃ T id,typeLookup (.type T) "__getitem__" = pure (some (.builtin id))∧s.TypeIs v T∧wpAny (model X.prog X.w) X.A (getItem v (.ref sl)) (EP X pins σ Q) X.xe s
theorem SlR.or {r r' : V→Option Int→Option Int→Hp→VK→Prop} (h : SlR X r) (h' : SlR X r') : SlR X (fun x lo hi H Q => r x lo hi H Q∨r' x lo hi H Q) := by
  intro pins s σ H x v vl vu lo hi sl Q I rx hs pl pu q
  rcases q with q | q
  · exact h pins s σ H x v vl vu lo hi sl Q I rx hs pl pu q
  · exact h' pins s σ H x v vl vu lo hi sl Q I rx hs pl pu q
noncomputable def tSl (r : V→Option Int→Option Int→Hp→VK→Prop) (te : TE) (tl th : TO) : TE := fun σ H Q => te σ H fun x H1 => tl σ H1 fun l H2 => th σ H2 fun u H3 => r x l u H3 Q
theorem zkA {r : V→Option Int→Option Int→Hp→VK→Prop} (hr : SlR X r) (he : PE X e te) (hl : PO X lo tl) (hu : PO X hi th) : PE X (.Subscript e (.Slice lo hi none p2) pos) (tSl r te tl th) := by
  intro pins s σ H Q I h
  refine Subscript_ (thn (he pins s σ H _ I h) fun v s1 ⟨x,H1,I1,r1,q1⟩ => ?_)
  refine wpAny_Slice (thn (hl pins s1 σ H1 _ I1 q1) fun vl s2 ⟨l,H2,I2,pl,q2⟩ => thn (hu pins s2 σ H2 _ I2 q2) fun vu s3 ⟨u,H3,I3,pu,q3⟩ => ?_)
  rw [evalPart_none]
  refine wpAny_pure ?_
  have I4 : Inv X pins σ H3 { s3 with heap := s3.heap.push { cls := .type "slice",data := .fields #[vl,vu,.none] } } := I3.kept (t' := s3.toks) fun b ob q => Heap.get?_push_of_some _ q
  obtain ⟨T,id,hT,ht,hg⟩ := hr pins { s3 with heap := s3.heap.push { cls := .type "slice",data := .fields #[vl,vu,.none] } } σ H3 x v vl vu l u s3.heap.objs.size Q I4 r1 (Heap.IsSliceOf.new ..) pl pu q3
  show wpAny (model X.prog X.w) X.A (subscriptTail e (.Slice lo hi none p2) v (.ref s3.heap.objs.size)) (EP X pins σ Q) X.xe { s3 with heap := s3.heap.push { cls := .type "slice",data := .fields #[vl,vu,.none] } }
  exact tail_any (ops := [.ref s3.heap.objs.size,v]) ht hT hg (by with_unfolding_all rfl)
noncomputable def cutV (xs : List V) (lo hi : Option Int) : List V := (xs.drop (HT.sIx xs.length 0 lo)).take (HT.sIx xs.length xs.length hi - HT.sIx xs.length 0 lo)
theorem ze3 (xs : List V) (lo hi : Option Int) : (cutV xs lo hi).length≤xs.length := by
  unfold cutV
  rw [List.length_take,List.length_drop]
  omega
noncomputable def rSlT (K : PySem.W.Frag) : V→Option Int→Option Int→Hp→VK→Prop := fun x lo hi H Q => ∃ a xs,x = .ref a∧SqT K H a xs ∧
  ¬ (HT.sIx xs.length 0 lo = 0∧HT.sIx xs.length xs.length hi = xs.length)∧∀ p,H p = none→Q (.ref p) (upd H p (.tup (cutV xs lo hi)))
theorem znm : SlR X (rSlT X.K) := by
  intro pins s σ H x v vl vu lo hi sl Q I rx hs pl pu h
  obtain ⟨a,xs,rfl,hx,hw,q⟩ := h
  cases rx
  obtain ⟨its,r,ht,hz⟩ := I.tuple hx
  have hlen : its.toArray.size = xs.length := by rw [List.size_toArray]; exact r.length.symm
  refine ⟨"tuple",_,PyProof.Rows.slot_tuple_getitem.lookup,ht.typeIs,?_⟩
  refine HT.getItem_tuple_cut ht hs pl pu (by rw [hlen]; exact hw) ?_ (by rw [hlen]; exact hz)
  rw [hlen]
  refine ⟨.ref s.heap.objs.size,_,I.laid (t' := s.toks) (o := .tup (cutV xs lo hi)) (fun b ob q => Heap.get?_push_of_some _ q) (Nat.le_refl _) ?_,rfl,q _ (I.hok.fresh (Nat.le_refl _))⟩
  exact ⟨Nat.le_trans (ze3 xs lo hi) hz,_,(r.drop (HT.sIx xs.length 0 lo)).take (HT.sIx xs.length xs.length hi - HT.sIx xs.length 0 lo),IsTup.new _ _,_,Heap.get?_push_size _ rfl,rfl⟩
noncomputable def zl6 (K : PySem.W.Frag) : R2 := fun x y H Q => ∃ a b xs ys,x = .ref a∧y = .ref b∧SqT K H a xs∧SqT K H b ys∧xs≠[]∧xs.length + ys.length≤sizeLine ∧
  (ys = []→Q (.ref a) H)∧(ys≠[]→∀ p,H p = none→Q (.ref p) (upd H p (.tup (xs++ys))))
theorem Vals.nil_iff {xs : List V} {us : List Value} (r : Vals xs us) : us = []↔xs = [] := by
  cases r with
  | nil => simp
  | cons _ _ => simp
theorem ziY : OpR X (binaryOp .Add) (zl6 X.K) := by
  intro pins s σ H x y v u Q I rx ry h
  obtain ⟨a,b,xs,ys,rfl,rfl,ha,hb,hx,hz,q1,q2⟩ := h
  cases rx
  cases ry
  obtain ⟨its,r1,p1,_⟩ := I.tuple ha
  obtain ⟨its2,r2,p2,_⟩ := I.tuple hb
  refine HT.cat_tup p1 p2 (fun z => hx (r1.nil_iff.mp z)) (fun z => ⟨.ref a,H,I,rfl,q1 (r2.nil_iff.mp z)⟩) (fun z => ?_) (by rw [← r1.length,← r2.length]; exact hz)
  refine ⟨.ref s.heap.objs.size,_,I.laid (t' := s.toks) (o := .tup (xs++ys)) (fun b ob q => Heap.get?_push_of_some _ q) (Nat.le_refl _) ?_,rfl,q2 (fun w => z (r2.nil_iff.mpr w)) _ (I.hok.fresh (Nat.le_refl _))⟩
  exact ⟨by rw [List.length_append]; exact hz,_,r1.append r2,IsTup.new _ _,_,Heap.get?_push_size _ rfl,rfl⟩
end
end L2
namespace L2
open PySem PySem.Spec PyProof.Rows
noncomputable def ixN (n : Nat) (i : Int) : Option Nat := if 0≤i then (if i < n then some i.toNat else none) else if -(n : Int)≤i then some (i + n).toNat else none
noncomputable def atI {α : Type} (xs : List α) (i : Int) : Option α := (ixN xs.length i).bind fun j => xs[j]?
theorem zjq {n : Nat} {i : Int} {j : Nat} (h : ixN n i = some j) : seqIndex? i n = some j∧j < n∧-(n : Int)≤i∧i < n := by
  unfold ixN at h
  by_cases h0 : 0≤i
  · rw [if_pos h0] at h
    by_cases h1 : i < n
    · rw [if_pos h1] at h
      have e : i.toNat = j := Option.some.inj h
      exact ⟨by rw [seqIndex_of h0 h1,e],by omega,by omega,h1⟩
    · rw [if_neg h1] at h; cases h
  · rw [if_neg h0] at h
    by_cases h1 : -(n : Int)≤i
    · rw [if_pos h1] at h
      have e : (i + n).toNat = j := Option.some.inj h
      exact ⟨by rw [seqIndex_neg (by omega) h1,e],by omega,h1,by omega⟩
    · rw [if_neg h1] at h; cases h
theorem zhi {α : Type} {xs : List α} {i : Int} {v : α} (h : atI xs i = some v) : ∃ j,seqIndex? i xs.length = some j∧xs[j]? = some v∧j < xs.length∧-(xs.length : Int)≤i∧i < xs.length := by
  unfold atI at h
  cases e : ixN xs.length i with
  | none => rw [e] at h; cases h
  | some j =>
    rw [e] at h
    obtain ⟨h1,h2,h3,h4⟩ := zjq e
    exact ⟨j,h1,h,h2,h3,h4⟩
noncomputable def zkb (b : Expr) : Prop := ∀ o i,subscripted b false o i = operate [o,i] (getItem o i)
noncomputable def IxR (X : Cx) (r : R2) : Prop :=
  ∀ (value slice : Expr) (pins : List (Addr × Obj)) (s : Shared) (σ : St) (H : Hp) (x y : V) (v u : Value) (Q : VK),Inv X pins σ H s→RelV x v→RelV y u→r x y H Q →
    subscripted slice false v u = operate [v,u] (getItem v u)→wpAny (model X.prog X.w) X.A (subscriptTail value slice v u) (EP X pins σ Q) X.xe s
noncomputable def MtR (X : Cx) (id : String) (r : V→List V→Hp→VK→Prop) : Prop :=
  ∀ (pins : List (Addr × Obj)) (s : Shared) (σ : St) (H : Hp) (x : V) (xs : List V) (v : Value) (us : List Value) (Q : VK),Inv X pins σ H s→RelV x v→Vals xs us→r x xs H Q →
    wpAny (model X.prog X.w) X.A (call (.builtin id) (v::us)) (EP X pins σ Q) X.xe s
section
variable {X : Cx} {a b : Expr} {ta tb : TE} {pos : Pos}
theorem IxR.or {r r' : R2} (h : IxR X r) (h' : IxR X r') : IxR X (fun x y H Q => r x y H Q∨r' x y H Q) := by
  intro value slice pins s σ H x y v u Q I rx ry q hs
  rcases q with q | q
  · exact h value slice pins s σ H x y v u Q I rx ry q hs
  · exact h' value slice pins s σ H x y v u Q I rx ry q hs
theorem zpv {r : R2} (hr : IxR X r) (ha : PE X a ta) (hb : PE X b tb) (hs : zkb b) : PE X (.Subscript a b pos) (tOp r ta tb) := by
  intro pins s σ H Q I h
  exact Subscript_ (binT ha hb I h fun v u s2 x y H2 I2 rx ry q => hr a b pins s2 σ H2 x y v u Q I2 rx ry q (hs _ _))
noncomputable def rIxL (K : PySem.W.Frag) : R2 := fun x y H Q => ∃ p xs i v,x = .ref p∧y = .int i∧SqL K H p xs∧atI xs i = some v∧Q v H
noncomputable def rIxT (K : PySem.W.Frag) : R2 := fun x y H Q => ∃ p xs i v,x = .ref p∧y = .int i∧SqT K H p xs∧atI xs i = some v∧Q v H
noncomputable def rIxS : R2 := fun x y H Q => ∃ z i c,x = .str z∧y = .int i∧z.length≤sizeLine∧atI z.cps.toList i = some c∧Q (.str ⟨#[c]⟩) H
theorem zmF : IxR X (rIxL X.K) := by
  intro value slice pins s σ H x y v u Q I rx ry h hs
  obtain ⟨p,xs,i,z,rfl,rfl,hq,he,q⟩ := h
  cases rx
  obtain ⟨t,rfl⟩ := ry
  obtain ⟨its,r,pl,hz⟩ := I.list hq
  obtain ⟨j,h1,h2,h3,h4,h5⟩ := zhi he
  obtain ⟨w,ew,rw'⟩ := r.get h2
  have hl := r.length
  have hn := zfs
  have fin : EP X pins σ Q w s := ⟨z,H,I,rw',q⟩
  by_cases h0 : 0≤i
  · have hj : i.toNat = j := by
      rw [seqIndex_of h0 h5] at h1
      exact Option.some.inj h1
    exact item_listR pl.isList h0 (by omega) (by rw [hj]; simpa using ew) fin hs
  · have hj : (i + (its.toArray.size : Int)).toNat = j := by
      rw [seqIndex_neg (by omega) h4] at h1
      rw [List.size_toArray,← hl]
      exact Option.some.inj h1
    exact subscriptTail_builtinR (x := w) pl.isList.typeIs slot_list_getitem.lookup
      (wpAny_getItem_list_neg (Q := fun r s' => r = w∧EP X pins σ Q r s') pl.isList (by omega) (by rw [List.size_toArray] <;> omega) (by omega) (by rw [hj]; simpa using ew) ⟨rfl,fin⟩) hs
theorem zom : IxR X (rIxT X.K) := by
  intro value slice pins s σ H x y v u Q I rx ry h hs
  obtain ⟨p,xs,i,z,rfl,rfl,hq,he,q⟩ := h
  cases rx
  obtain ⟨t,rfl⟩ := ry
  obtain ⟨its,r,pl,hz⟩ := I.tuple hq
  obtain ⟨j,h1,h2,h3,h4,h5⟩ := zhi he
  obtain ⟨w,ew,rw'⟩ := r.get h2
  have hl := r.length
  have hn := zfs
  have fin : EP X pins σ Q w s := ⟨z,H,I,rw',q⟩
  exact subscriptTail_builtinR (x := w) pl.typeIs slot_tuple_getitem.lookup
    (getItem_tuple (j := j) (Q := fun r s' => r = w∧EP X pins σ Q r s') pl (by omega) (by omega) (by rw [List.size_toArray,← hl]; exact h1) (by simpa using ew) ⟨rfl,fin⟩) hs
theorem zon : IxR X rIxS := by
  intro value slice pins s σ H x y v u Q I rx ry h hs
  obtain ⟨z,i,c,rfl,rfl,hz,he,q⟩ := h
  obtain ⟨t,rfl⟩ := rx
  obtain ⟨t',rfl⟩ := ry
  obtain ⟨j,h1,h2,h3,h4,h5⟩ := zhi he
  have hl : z.cps.toList.length = z.length := by simp [Str.length]
  rw [hl] at h1 h4 h5
  have hn := zfs
  exact tail_any (typeIs_str s z t) slot_str_getitem.lookup (getItem_str (c := c) (by
    have e1 : decide (i < -(2 ^ 63 : Int)) = false := decide_eq_false (by omega)
    have e2 : decide (i ≥ 2 ^ 63) = false := decide_eq_false (by omega)
    rw [e1,e2,Bool.or_false]) (by rw [h1]; simpa using h2) ⟨.str ⟨#[c]⟩,H,I.tok _,⟨_,rfl⟩,q⟩) hs
noncomputable def rIx (K : PySem.W.Frag) : R2 := fun x y H Q => rIxL K x y H Q∨rIxT K x y H Q∨rIxS x y H Q
theorem zoo : IxR X (rIx X.K) := zmF.or (zom.or zon)
theorem zh7 (its : List Value) (n j : Nat) (u : Value) : Obj.mapSeq (·.setIfInBounds j u) { cls := .type "list",data := .seq its.toArray n } = { cls := .type "list",data := .seq (its.set j u).toArray n } := by
  simp [Obj.mapSeq]
theorem Inv.lst {pins : List (Addr × Obj)} {σ : St} {H : Hp} {s : Shared} {p : Addr} {xs : List V} (I : Inv X pins σ H s) (h : H p = some (.lst xs)) :
    ∃ (its : List Value) (n : Nat),Vals xs its∧s.heap.get? p = some { cls := .type "list",data := .seq its.toArray n }∧xs.length≤sizeLine := by
  obtain ⟨z,its,n,r,e⟩ := I.hok p _ h
  exact ⟨its,n,r,e,z⟩
theorem Inv.lstUpd {pins : List (Addr × Obj)} {σ : St} {H : Hp} {s : Shared} {p : Addr} {xs ys : List V} {its its' : List Value} {n n' : Nat} {f : Obj→Obj} (I : Inv X pins σ H s) (h : H p = some (.lst xs))
    (ho : s.heap.get? p = some { cls := .type "list",data := .seq its.toArray n }) (hf : f { cls := .type "list",data := .seq its.toArray n } = { cls := .type "list",data := .seq its'.toArray n' }) (r : Vals ys its') (hz : ys.length≤sizeLine) (t : Nat) :
    Inv X pins σ (upd H p (.lst ys)) { s with heap := s.heap.update p f,toks := t } := by
  have e : (s.heap.update p f).get? p = some { cls := .type "list",data := .seq its'.toArray n' } := by
    rw [Heap.get?_update_self f ho (by rw [hf] <;> rfl),hf]
  refine I.write (x := p) (e := p) (by rw [h]; trivial) (.inl rfl) (fun b u hb q => (Heap.get?_update_other _ _ (Ne.symm hb)).trans q) ⟨_,e⟩ ?_
  exact ⟨hz,its',n',r,e⟩
noncomputable def znA : V→V→V→Hp→(Hp→Prop)→Prop := fun o i v H Q => ∃ p xs k j,o = .ref p∧i = .int k∧H p = some (.lst xs)∧ixN xs.length k = some j∧Q (upd H p (.lst (xs.set j v)))
theorem zko : PSet X znA := by
  intro pins s σ H o i v ov iv u Q I ro ri rv h
  obtain ⟨p,xs,k,j,rfl,rfl,hp,hj,q⟩ := h
  cases ro
  obtain ⟨t,rfl⟩ := ri
  obtain ⟨its,n,r,ho,hz⟩ := I.lst hp
  obtain ⟨h1,h2,h3,h4⟩ := zjq hj
  have hl := r.length
  have hn := zfs
  have I' : Inv X pins σ (upd H p (.lst (xs.set j v))) { s with heap := s.heap.update p (Obj.mapSeq (·.setIfInBounds j u)) } :=
    I.lstUpd hp ho (zh7 its n j u) (r.set rv j) (by rw [List.length_set]; exact hz) s.toks
  by_cases h0 : 0≤k
  · have hk : k.toNat = j := by
      rw [seqIndex_of h0 h4] at h1
      exact Option.some.inj h1
    exact PySem.W.ki_setAt ho h0 (by omega) (by rw [List.size_toArray,← hl]; exact h4) (by rw [hk]; exact ⟨_,I',q⟩)
  · have hk : (k + (its.toArray.size : Int)).toNat = j := by
      rw [seqIndex_neg (by omega) h3] at h1
      rw [List.size_toArray,← hl]
      exact Option.some.inj h1
    exact PySem.W.ki_setBack ho (by omega) (by rw [List.size_toArray,← hl]; exact h3) (by omega) (by rw [hk]; exact ⟨_,I',q⟩)
theorem zf9 (lo hi : Option Int) (n : Nat) : (sliceBounds lo hi none n).1 = ((HT.sIx n 0 lo : Nat) : Int)∧(sliceBounds lo hi none n).2.1 = ((HT.sIx n n hi : Nat) : Int)∧(sliceBounds lo hi none n).2.2 = 1 := by
  refine ⟨?_,?_,rfl⟩
  · cases lo with
    | none => simp [sliceBounds,HT.sIx]
    | some i =>
      simp only [sliceBounds,HT.sIx,Option.getD_none,show (1 : Int) > 0 by decide,if_true]
      by_cases h : i < 0
      · simp only [h,if_true] <;> omega
      · simp only [h,if_false] <;> omega
  · cases hi with
    | none => simp [sliceBounds,HT.sIx]
    | some i =>
      simp only [sliceBounds,HT.sIx,Option.getD_none,show (1 : Int) > 0 by decide,if_true]
      by_cases h : i < 0
      · simp only [h,if_true] <;> omega
      · simp only [h,if_false] <;> omega
theorem zfD (its : List Value) (lo hi : Option Int) : slicePick its.toArray lo hi none = ((its.drop (HT.sIx its.length 0 lo)).take (HT.sIx its.length its.length hi - HT.sIx its.length 0 lo)).toArray := by
  obtain ⟨h1,h2,h3⟩ := zf9 lo hi its.toArray.size
  unfold slicePick
  rw [h1,h2,h3]
  simp only [sliceRange_one,pick_run,List.size_toArray] <;> rfl
noncomputable def rSlL (K : PySem.W.Frag) : V→Option Int→Option Int→Hp→VK→Prop := fun x lo hi H Q => ∃ a xs,x = .ref a∧SqL K H a xs∧∀ p,H p = none→Q (.ref p) (upd H p (.lst (cutV xs lo hi)))
theorem zlW : SlR X (rSlL X.K) := by
  intro pins s σ H x v vl vu lo hi sl Q I rx hs pl pu h
  obtain ⟨a,xs,rfl,hx,q⟩ := h
  cases rx
  obtain ⟨its,r,ht,hz⟩ := I.list hx
  have hlen := r.length
  refine ⟨"list",_,slot_list_getitem.lookup,ht.isList.typeIs,?_⟩
  refine wpAny_getItem_list_slice ht.isList hs pl pu .none (by simp) ?_ (by rw [List.size_toArray] <;> omega)
  rw [zfD,← hlen]
  refine ⟨.ref s.heap.objs.size,_,I.laid (t' := s.toks) (o := .lst (cutV xs lo hi)) (fun b ob q => Heap.get?_push_of_some _ q) (Nat.le_refl _) ?_,rfl,q _ (I.hok.fresh (Nat.le_refl _))⟩
  exact ⟨Nat.le_trans (ze3 xs lo hi) hz,_,0,(r.drop (HT.sIx xs.length 0 lo)).take (HT.sIx xs.length xs.length hi - HT.sIx xs.length 0 lo),Heap.get?_push_size _ rfl⟩
noncomputable def zc3 : V→Bool
  | .non => true
  | .bl _ => true
  | .int _ => true
  | .str _ => true
  | _ => false
noncomputable def eqV : V→V→Bool
  | .non,.non => true
  | .bl a,.bl b => a == b
  | .bl a,.int b => (if a then 1 else 0) == b
  | .int a,.bl b => a == (if b then 1 else 0)
  | .int a,.int b => a == b
  | .str a,.str b => a == b
  | _,_ => false
theorem zoM {A : Around} {s : Shared} {y x : V} {u v : Value} (ry : RelV y u) (rx : RelV x v) (fy : zc3 y = true) (fx : zc3 x = true) : SeqAt.EqAt A s u v (eqV y x) := by
  cases y with
  | non =>
    cases ry
    cases x with
    | non => cases rx; exact SeqAt.EqAt.same _
    | bl b => cases rx; exact SeqAt.EqAt.none_bool b
    | int b => obtain ⟨t,rfl⟩ := rx; exact SeqAt.EqAt.none_int b t
    | str b => obtain ⟨t,rfl⟩ := rx; exact SeqAt.EqAt.none_str b t
    | _ => exact absurd (show false = true from fx) Bool.false_ne_true
  | bl a =>
    cases ry
    cases x with
    | non => cases rx; exact SeqAt.EqAt.bool_none a
    | bl b => cases rx; exact SeqAt.EqAt.bool_bool a b
    | int b => obtain ⟨t,rfl⟩ := rx; exact SeqAt.EqAt.bool_int a b t
    | str b => obtain ⟨t,rfl⟩ := rx; exact SeqAt.EqAt.bool_str a b t
    | _ => exact absurd (show false = true from fx) Bool.false_ne_true
  | int a =>
    obtain ⟨t',rfl⟩ := ry
    cases x with
    | non => cases rx; exact SeqAt.EqAt.int_none a t'
    | bl b => cases rx; exact SeqAt.EqAt.int_bool a t' b
    | int b => obtain ⟨t,rfl⟩ := rx; exact SeqAt.EqAt.int_int a t' b t
    | str b => obtain ⟨t,rfl⟩ := rx; exact SeqAt.EqAt.int_str a t' b t
    | _ => exact absurd (show false = true from fx) Bool.false_ne_true
  | str a =>
    obtain ⟨t',rfl⟩ := ry
    cases x with
    | non => cases rx; exact SeqAt.EqAt.str_none a t'
    | bl b => cases rx; exact SeqAt.EqAt.str_bool a t' b
    | int b => obtain ⟨t,rfl⟩ := rx; exact SeqAt.EqAt.str_int a t' b t
    | str b => obtain ⟨t,rfl⟩ := rx; exact SeqAt.EqAt.str_str a t' b t
    | _ => exact absurd (show false = true from fx) Bool.false_ne_true
  | _ => exact absurd (show false = true from fy) Bool.false_ne_true
noncomputable def eqU (x : V) (u : Value) : Bool := match u with
  | .none => eqV .non x
  | .bool b => eqV (.bl b) x
  | .int i _ => eqV (.int i) x
  | .str z _ => eqV (.str z) x
  | _ => false
theorem zhE {x y : V} {u : Value} (r : RelV y u) (f : zc3 y = true) : eqU x u = eqV y x := by
  cases y with
  | non => cases r; rfl
  | bl b => cases r; rfl
  | int i => obtain ⟨t,rfl⟩ := r; rfl
  | str z => obtain ⟨t,rfl⟩ := r; rfl
  | _ => exact absurd (show false = true from f) Bool.false_ne_true
theorem ze6 {x : V} : ∀ {xs : List V} {us : List Value},Vals xs us→xs.all zc3 = true→us.any (eqU x) = xs.any fun y => eqV y x
  | _,_,.nil,_ => rfl
  | y::xs,u::us,.cons r t,f => by
    rw [List.all_cons,Bool.and_eq_true] at f
    rw [List.any_cons,List.any_cons,zhE r f.1,ze6 t f.2]
theorem zcP {A : Around} {s : Shared} {x : V} {v : Value} (rx : RelV x v) (fx : zc3 x = true) : ∀ {xs : List V} {us : List Value},Vals xs us→xs.all zc3 = true→∀ u∈us,SeqAt.EqAt A s u v (eqU x u)
  | _,_,.nil,_ => fun u hu => by cases hu
  | y::xs,u::us,.cons r t,f => fun u' hu => by
    rw [List.all_cons,Bool.and_eq_true] at f
    rcases List.mem_cons.mp hu with rfl | hu
    · rw [zhE r f.1]; exact zoM r rx f.1 fx
    · exact zcP rx fx t f.2 u' hu
noncomputable def inV (x : V) (xs : List V) : Bool := xs.any fun y => eqV y x
noncomputable def rIn (K : PySem.W.Frag) (neg : Bool) : R2 := fun x y H Q => ∃ p xs,y = .ref p∧(SqL K H p xs∨SqT K H p xs)∧zc3 x = true∧xs.all zc3 = true∧Q (.bl (if neg then !inV x xs else inV x xs)) H
theorem ziW : OpR X (compareOp .In) (rIn X.K false) := by
  intro pins s σ H x y v u Q I rx ry h
  obtain ⟨p,xs,rfl,hq,fx,fs,q⟩ := h
  cases ry
  rcases hq with hq | hq
  · obtain ⟨its,r,pl,hz⟩ := I.list hq
    refine SeqAt.in_listAt (eqU x) pl.isList (fun w hw => zcP rx fx r fs w (by simpa using hw)) ⟨.bl _,H,I,rfl,?_⟩
    rw [show its.toArray.any (eqU x) = its.any (eqU x) by simp,ze6 r fs]
    exact q
  · obtain ⟨its,r,pl,hz⟩ := I.tuple hq
    refine SeqAt.in_tupleAt (eqU x) pl (fun w hw => zcP rx fx r fs w (by simpa using hw)) ⟨.bl _,H,I,rfl,?_⟩
    rw [show its.toArray.any (eqU x) = its.any (eqU x) by simp,ze6 r fs]
    exact q
theorem zgm : OpR X (compareOp .NotIn) (rIn X.K true) := by
  intro pins s σ H x y v u Q I rx ry h
  obtain ⟨p,xs,rfl,hq,fx,fs,q⟩ := h
  cases ry
  rcases hq with hq | hq
  · obtain ⟨its,r,pl,hz⟩ := I.list hq
    refine SeqAt.notIn_listAt (eqU x) pl.isList (fun w hw => zcP rx fx r fs w (by simpa using hw)) ⟨.bl _,H,I,rfl,?_⟩
    rw [show its.toArray.any (eqU x) = its.any (eqU x) by simp,ze6 r fs]
    exact q
  · obtain ⟨its,r,pl,hz⟩ := I.tuple hq
    refine SeqAt.notIn_tupleAt (eqU x) pl (fun w hw => zcP rx fx r fs w (by simpa using hw)) ⟨.bl _,H,I,rfl,?_⟩
    rw [show its.toArray.any (eqU x) = its.any (eqU x) by simp,ze6 r fs]
    exact q
theorem zgl : OpR X (compareOp .NotIn) (fun x y H Q => ∃ i j,x = .str i∧y = .str j∧Q (.bl (!(!(Builtin.Str.occurrences j i 0 j.length 1).isEmpty))) H) := by
  intro pins s σ H x y v u Q I rx ry h
  obtain ⟨i,j,rfl,rfl,q⟩ := h
  obtain ⟨t,rfl⟩ := rx
  obtain ⟨t',rfl⟩ := ry
  exact notIn_str ⟨.bl _,H,I,rfl,q⟩
theorem zc4.or {f : Value} {r r' : List V→Hp→VK→Prop} (h : zc4 X f r) (h' : zc4 X f r') : zc4 X f (fun xs H Q => r xs H Q∨r' xs H Q) := by
  intro pins s σ H xs us Q I rs q
  rcases q with q | q
  · exact h pins s σ H xs us Q I rs q
  · exact h' pins s σ H xs us Q I rs q
theorem zgE : zc4 X (.type "list") (fun xs H Q => ∃ p ys,xs = [.ref p]∧(SqL X.K H p ys∨SqT X.K H p ys)∧∀ l,H l = none→Q (.ref l) (upd H l (.lst ys))) := by
  intro pins s σ H xs us Q I r h
  obtain ⟨p,ys,rfl,hq,q⟩ := h
  obtain ⟨u,rfl,rx⟩ := zd3 r
  cases rx
  have fin : ∀ (its : List Value),Vals ys its→ys.length≤sizeLine→∀ (h' : Heap) (c' : Nat),(∀ b o',s.heap.get? b = some o'→h'.get? b = some o') →
      h'.get? s.heap.objs.size = some { cls := .type "list",dict := none,data := .seq its.toArray c',slots := #[] }→EP X pins σ Q (.ref s.heap.objs.size) { s with heap := h' } := fun its r' hz h' c' kp e =>
    ⟨.ref s.heap.objs.size,_,I.laid (t' := s.toks) kp (Nat.le_refl _) (show zbe X.prog X.w _ h' _ (.lst ys) from ⟨hz,its,c',r',e⟩),rfl,q _ (I.hok.fresh (Nat.le_refl _))⟩
  rcases hq with hq | hq
  · obtain ⟨its,r',pl,hz⟩ := I.list hq
    have hlen := r'.length
    obtain ⟨o,ho,hc,n,hd⟩ := pl.isList
    exact call_list_seq p (.inl rfl) ho hc hd (fun h' c' kp e => fin its r' hz h' c' kp e) (by simp only [List.size_toArray] <;> omega)
  · obtain ⟨its,r',pl,hz⟩ := I.tuple hq
    have hlen := r'.length
    obtain ⟨o,ho,hc,n,hd⟩ := pl
    exact call_list_seq p (.inr rfl) ho hc hd (fun h' c' kp e => fin its r' hz h' c' kp e) (by simp only [List.size_toArray] <;> omega)
theorem zfW : zc4 X (.type "tuple") (fun xs H Q => ∃ p ys,xs = [.ref p]∧((SqL X.K H p ys∧∀ l,H l = none→Q (.ref l) (upd H l (.tup ys)))∨(SqT X.K H p ys∧Q (.ref p) H))) := by
  intro pins s σ H xs us Q I r h
  obtain ⟨p,ys,rfl,h⟩ := h
  obtain ⟨u,rfl,rx⟩ := zd3 r
  cases rx
  rcases h with ⟨hq,q⟩ | ⟨hq,q⟩
  · obtain ⟨its,r',pl,hz⟩ := I.list hq
    have hlen := r'.length
    refine call_tuple_list pl.isList (fun h' kp => ?_) (by simp only [List.size_toArray] <;> omega)
    have I1 : Inv X pins σ H { s with heap := h' } := I.kept (t' := s.toks) kp
    have I2 : Inv X pins σ (upd H h'.objs.size (.tup ys)) { s with heap := h'.push { cls := .type "tuple",data := .seq its.toArray } } :=
      I1.laid (t' := s.toks) (fun b o e => Heap.get?_push_of_some _ e) (Nat.le_refl _) (show zbe X.prog X.w _ _ _ (.tup ys) from ⟨hz,its,r',IsTup.new _ _,_,Heap.get?_push_size _ rfl,rfl⟩)
    exact ⟨.ref h'.objs.size,_,I2,rfl,q _ (I1.hok.fresh (Nat.le_refl _))⟩
  · obtain ⟨its,r',pl,hz⟩ := I.tuple hq
    exact call_tuple_same pl ⟨.ref p,H,I,rfl,q⟩
noncomputable def tyV (K : PySem.W.Frag) (T : String) (x : V) (H : Hp) : Prop := match x with
  | .str _ => T = "str"
  | .int _ => T = "int"
  | .ref p => (T = "list"∧∃ xs,SqL K H p xs)∨(T = "tuple"∧((∃ o,K.lookup p = some o∧o.cls = .type "tuple"∧o.dict = none)∨∃ xs,Rd H p (.tup xs))) ∨
      (T = "dict"∧((∃ kvs,Rd H p (.dK kvs))∨∃ kvs,H p = some (.dT kvs)))∨(T = "set"∧∃ S n,H p = some (.set S n))
  | _ => False
theorem zna {pins : List (Addr × Obj)} {σ : St} {H : Hp} {s : Shared} {T : String} {x : V} {v : Value} (I : Inv X pins σ H s) (r : RelV x v) (ty : tyV X.K T x H) :
    s.TypeIs v T∧∀ a,v = .ref a→∃ ob,s.heap.get? a = some ob∧ob.dict = none := by
  cases x with
  | str z =>
    obtain ⟨t,rfl⟩ := r
    cases (show T = "str" from ty)
    exact ⟨typeIs_str s z t,fun _ e => nomatch e⟩
  | int i =>
    obtain ⟨t,rfl⟩ := r
    cases (show T = "int" from ty)
    exact ⟨typeIs_int s i t,fun _ e => nomatch e⟩
  | ref p =>
    cases r
    rcases ty with ⟨rfl,xs,hq⟩ | ⟨rfl,⟨o,hk,hc,hd⟩ | ⟨xs,hq⟩⟩ | ⟨rfl,hk⟩ | ⟨rfl,S,n,hk⟩
    · obtain ⟨its,_,pl,_⟩ := I.list hq
      refine ⟨pl.isList.typeIs,fun a e => ?_⟩
      cases e
      obtain ⟨o,n,e,c,hd,_⟩ := pl
      exact ⟨o,e,hd⟩
    · refine ⟨⟨o,I.kIn p o hk,hc⟩,fun a e => ?_⟩
      cases e
      exact ⟨o,I.kIn _ o hk,hd⟩
    · obtain ⟨_,its,_,⟨o,ho,hc,_⟩,o2,ho2,hd2⟩ := hq.ok I.hok
      refine ⟨⟨o,ho,hc⟩,fun a e => ?_⟩
      cases e
      exact ⟨o2,ho2,hd2⟩
    · have z : ∃ o,s.heap.get? p = some o∧o.ExactDict := by
        rcases hk with ⟨kvs,hk⟩ | ⟨kvs,hk⟩
        · obtain ⟨_,_,_,_,o,_,_,e,ex,_⟩ := (show zbe X.prog X.w H s.heap p (.dK kvs) from hk.ok I.hok)
          exact ⟨o,e,ex⟩
        · obtain ⟨_,_,_,_,o,_,_,e,ex,_⟩ := I.hok p _ hk
          exact ⟨o,e,ex⟩
      obtain ⟨o,e,ex⟩ := z
      refine ⟨⟨o,e,ex.1⟩,fun a e2 => ?_⟩
      cases e2
      exact ⟨o,e,ex.2.1⟩
    · obtain ⟨o,_,_,_,e,ex,_⟩ := I.hok p _ hk
      refine ⟨⟨o,e,ex.1⟩,fun a e2 => ?_⟩
      cases e2
      exact ⟨o,e,ex.2.1⟩
  | _ => exact False.elim ty
noncomputable def tBM (K : PySem.W.Frag) (T : String) (r : V→List V→Hp→VK→Prop) (to : TE) (t : TA) : TE := fun σ H Q => to σ H fun x H1 => tyV K T x H1∧t σ H1 fun xs H2 => r x xs H2 Q
variable {o e : Expr} {es : List Expr} {to : TE} {t : TA} {name : Str} {apos cpos : Pos} {T id : String} {r : V → List V → Hp → VK → Prop}
theorem znU (pa : PlainAttrs T) (slot : Slot T name id) (hty : typeOf (.builtin id) = pure (.type "method_descriptor")) (hm : MtR X id r) (ho : PE X o to) (ha : PA X (e::es) t)
    (hbase : attributeBase o name X.env (eval o X.env) = eval o X.env := by rfl)
    (hfew : ((backTo cpos (starEach (e::es) X.env)).all (fun x => !x.1) && (backToKw cpos (keywordEach [] X.env)).all (fun x => x.1.isSome)
      && decide ((e::es).length + ([] : List Keyword).length + (if ([] : List Keyword).isEmpty then 0 else 1) < 30)) = true := by rfl)
    (hline : (apos.endLine == cpos.line) = true := by rfl) (hs : starEach (e::es) X.env = (false,eval e X.env)::starEach es X.env := by rfl) (hplain : (backTo cpos (starEach es X.env)).any (·.1) = false := by rfl) :
    PE X (.Call (.Attribute o name apos) (e::es) [] cpos) (tBM X.K T r to t) := by
  intro pins s σ H Q I h
  refine wpAny_Call_method_late hbase hfew hline rfl (thn (ho pins s σ H _ I h) fun v s1 ⟨x,H1,I1,r1,ty,q1⟩ => ?_)
  obtain ⟨h1,h2⟩ := zna I1 r1 ty
  refine ⟨T,id,pa,slot,hty,h1,h2,?_⟩
  have hA := ha cpos pins s1 σ H1 _ I1 q1
  rw [hs] at hA ⊢
  refine Calls.callWith_builtin (by show (false || (backTo cpos (starEach es X.env)).any (·.1)) = false; rw [hplain] <;> rfl) (Calls.evalArgs_plain ?_)
  exact thn hA fun us s2 ⟨vs,H2,I2,r2,q2⟩ => hm pins s2 σ H2 x vs v us Q I2 r1 r2 q2
end
end L2
namespace L2
open PySem PySem.Spec PyProof.Rows
noncomputable def MtM (X : Cx) (id : String) (r : V→List V→Hp→VK→Prop) : Prop :=
  ∀ (pins : List (Addr × Obj)) (s : Shared) (σ : St) (H : Hp) (x : V) (xs : List V) (v : Value) (us : List Value) (Q : VK),Inv X pins σ H s→RelV x v→Vals xs us→r x xs H Q →
    wpAny (model X.prog X.w) X.A (call (.builtin id) (v::us)) (EP X pins σ Q) X.xe s
theorem Vals.one : ∀ {x : V} {us : List Value},Vals [x] us→∃ u,us = [u]∧RelV x u
  | _,_,.cons r .nil => ⟨_,rfl,r⟩
theorem Vals.two : ∀ {x y : V} {us : List Value},Vals [x,y] us→∃ u v,us = [u,v]∧RelV x u∧RelV y v
  | _,_,_,.cons r (.cons q .nil) => ⟨_,_,rfl,r,q⟩
theorem Vals.zero : ∀ {us : List Value},Vals [] us→us = []
  | _,.nil => rfl
theorem Vals.eraseIdx : ∀ {xs : List V} {us : List Value} (i : Nat),Vals xs us→Vals (xs.eraseIdx i) (us.eraseIdx i)
  | _,_,_,.nil => .nil
  | _,_,0,.cons _ t => t
  | _,_,i + 1,.cons r t => .cons r (Vals.eraseIdx i t)
section
variable {X : Cx} {pins : List (Addr × Obj)} {σ : St} {H : Hp} {s : Shared} {l b : Addr} {xs ys zs : List V}
theorem Inv.lset {its its' : List Value} {n : Nat} {f : Array Value→Array Value} {t' : Nat} (I : Inv X pins σ H s) (hH : H l = some (.lst xs))
    (e : s.heap.get? l = some { cls := .type "list",data := .seq its.toArray n }) (hf : f its.toArray = its'.toArray) (hv : Vals ys its') (hz : ys.length≤sizeLine) :
    Inv X pins σ (upd H l (.lst ys)) { s with heap := s.heap.update l (Obj.mapSeq f),toks := t' } := by
  have q := PySem.IsL.update e f
  rw [hf] at q
  refine I.write (x := l) (e := l) (by rw [hH]; exact trivial) (.inl rfl) (fun b' u hb hu => (Heap.get?_update_other s.heap (Obj.mapSeq f) (Ne.symm hb)).trans hu) ⟨_,q⟩ ?_
  exact ⟨hz,its',_,hv,q⟩
theorem Inv.lnew {its : List Value} {t' : Nat} (I : Inv X pins σ H s) (hv : Vals ys its) (hz : ys.length≤sizeLine) :
    Inv X pins σ (upd H s.heap.objs.size (.lst ys)) { s with heap := s.heap.push { cls := .type "list",data := .seq its.toArray },toks := t' } :=
  I.laid (fun _ _ q => Heap.get?_push_of_some _ q) (Nat.le_refl _) ⟨hz,its,0,hv,Heap.get?_push_size _ rfl⟩
theorem Inv.fresh (I : Inv X pins σ H s) : H s.heap.objs.size = none := I.hok.fresh (Nat.le_refl _)
theorem Inv.lstM (I : Inv X pins σ H s) (hH : H l = some (.lst xs)) : xs.length≤sizeLine∧∃ (its : List Value) (n : Nat),Vals xs its∧xs.length = its.length∧s.heap.get? l = some { cls := .type "list",data := .seq its.toArray n } := by
  obtain ⟨z,its,n,r,e⟩ := I.hok l _ hH
  exact ⟨z,its,n,r,r.length,e⟩
theorem zkI {n : Nat} (h : n≤sizeLine) : Builtin.List.listTooLong n = false := by
  unfold Builtin.List.listTooLong
  exact decide_eq_false (by omega)
end
section
variable {X : Cx}
noncomputable def ziJ : V→List V→Hp→VK→Prop := fun x vs H Q => ∃ l xs y,x = .ref l∧vs = [y]∧H l = some (.lst xs)∧xs.length < sizeLine∧Q .non (upd H l (.lst (xs++[y])))
theorem zda : MtM X "list.append" ziJ := by
  intro pins s σ H x vs v us Q I rx rv h
  obtain ⟨l,xs,y,rfl,rfl,hH,hz,q⟩ := h
  cases rx
  obtain ⟨u,rfl,ru⟩ := rv.one
  obtain ⟨z,its,n,r,hl,e⟩ := I.lstM hH
  refine call_meets F.slot_list_append ⟨_,e,rfl⟩ F.entry_list_append (F.args_list_append_2 _ _) (PySem.list_append l its.toArray n u (by rw [List.size_toArray]; omega)) ⟨e,?_⟩
  refine ⟨.non,_,I.lset (its' := its++[u]) hH e (by simp) (r.append (.cons ru .nil)) ?_,rfl,q⟩
  rw [List.length_append,List.length_singleton]
  omega
end
section
variable {prog : Program} {w : World} {A : Around} {E : Value → Shared → Prop} {s : Shared}
end
section
variable {X : Cx}
end
end L2
namespace L2
open PySem PySem.Spec PyProof.Rows
section
variable {κ : Type} [DecidableEq κ]
noncomputable def valV (kvs : List (κ × V)) (k : κ) : Option V := (kvs.find? fun kv => decide (kv.1 = k)).map (·.2)
noncomputable def putK (kvs : List (κ × V)) (k : κ) (v : V) : List (κ × V) :=
  if (kvs.any fun kv => decide (kv.1 = k)) = true then kvs.map (fun kv => if kv.1 = k then (kv.1,v) else kv) else kvs++[(k,v)]
theorem zew {p : κ × V} {r : List (κ × V)} {k : κ} (e : p.1 = k) : valV (p::r) k = some p.2 := by simp [valV,List.find?_cons,e]
theorem zdM {p : κ × V} {r : List (κ × V)} {k : κ} (e : ¬ p.1 = k) : valV (p::r) k = valV r k := by simp [valV,List.find?_cons,e]
theorem zhn (k : κ) : ∀ kvs : List (κ × V),(kvs.any fun kv => decide (kv.1 = k)) = (valV kvs k).isSome
  | [] => rfl
  | p::r => by
    rw [List.any_cons]
    by_cases e : p.1 = k
    · simp only [zew e,decide_eq_true e,Bool.true_or,Option.isSome_some]
    · rw [zdM e,decide_eq_false e,Bool.false_or]; exact zhn k r
theorem zeW (kvs : List (κ × V)) (k : κ) (v : V) : (putK kvs k v).length≤kvs.length + 1 := by
  unfold putK
  split
  · rw [List.length_map]; omega
  · rw [List.length_append,List.length_cons,List.length_nil]; omega
theorem RelO.isSome_eq {o : Option V} {u : Option Value} (r : RelO o u) : o.isSome = u.isSome := by
  cases o with
  | none => cases u with
    | none => rfl
    | some _ => exact (show False from r).elim
  | some _ => cases u with
    | none => exact (show False from r).elim
    | some _ => rfl
theorem RelO.getD {o : Option V} {u : Option Value} {d : V} {d' : Value} (r : RelO o u) (rd : RelV d d') : RelV (o.getD d) (u.getD d') := by
  cases o with
  | none => cases u with
    | none => exact rd
    | some _ => exact (show False from r).elim
  | some _ => cases u with
    | none => exact (show False from r).elim
    | some _ => exact r
theorem KV.val {kvs : List (κ × V)} {vs : List (κ × Value)} (r : KV kvs vs) (k : κ) : RelO (valV kvs k) (valueAt vs k) := by
  unfold KV at r
  induction r with
  | nil => exact True.intro
  | @cons p q ps qs h t ih =>
    obtain ⟨h1,h2⟩ := h
    by_cases e : p.1 = k
    · have e' : q.1 = k := h1.symm.trans e
      have b : valueAt (q::qs) k = some q.2 := by simp [valueAt,List.find?_cons,e']
      rw [zew e,b]; exact h2
    · have e' : ¬ q.1 = k := fun z => e (h1.trans z)
      have b : valueAt (q::qs) k = valueAt qs k := by simp [valueAt,List.find?_cons,e']
      rw [zdM e,b]; exact ih
theorem KV.any {kvs : List (κ × V)} {vs : List (κ × Value)} (r : KV kvs vs) (k : κ) : (kvs.any fun kv => decide (kv.1 = k)) = vs.any fun kv => decide (kv.1 = k) := by
  unfold KV at r
  induction r with
  | nil => rfl
  | cons h t ih => rw [List.any_cons,List.any_cons,ih,h.1]
theorem KV.repl {kvs : List (κ × V)} {vs : List (κ × Value)} (r : KV kvs vs) (k : κ) {y : V} {u : Value} (ry : RelV y u) :
    KV (kvs.map fun kv => if kv.1 = k then (kv.1,y) else kv) (vs.map fun kv => if kv.1 = k then (kv.1,u) else kv) := by
  unfold KV at r ⊢
  induction r with
  | nil => exact .nil
  | @cons p q ps qs h t ih =>
    rw [List.map_cons,List.map_cons]
    refine .cons ?_ ih
    obtain ⟨h1,h2⟩ := h
    by_cases e : p.1 = k
    · rw [if_pos e,if_pos (h1.symm.trans e)]; exact ⟨h1,ry⟩
    · rw [if_neg e,if_neg (fun z => e (h1.trans z))]; exact ⟨h1,h2⟩
theorem KV.put {kvs : List (κ × V)} {vs : List (κ × Value)} (r : KV kvs vs) (k : κ) {y : V} {u : Value} (ry : RelV y u) : KV (putK kvs k y) (stored vs k u) := by
  unfold putK stored
  rw [r.any k]
  by_cases e : (vs.any fun kv => decide (kv.1 = k)) = true
  · rw [if_pos e,if_pos e]; exact r.repl k ry
  · rw [if_neg e,if_neg e]; exact Paired.snoc r ⟨rfl,ry⟩
theorem KV.length {kvs : List (κ × V)} {vs : List (κ × Value)} (r : KV kvs vs) : kvs.length = vs.length := Paired.length r
end
theorem zjp {P : Program} {w : World} {k : Key} {u : Value} (r : RelV (kV k) u) : (zbi P w).is k u = true := by
  cases k with
  | inl i => obtain ⟨t,e⟩ := (show ∃ t,u = Value.int i t from r); subst e; exact zgY P w i t
  | inr x => obtain ⟨t,e⟩ := (show ∃ t,u = Value.str x t from r); subst e; exact zgX P w x t
theorem zgt {P : Program} {w : World} : ∀ {ks : List Key} {us : List Value},Vals (ks.map kV) us→ItemsAre (zbi P w) ks us
  | [],_,r => by rw [List.map_nil] at r; cases r; exact .nil
  | k::ks,_,r => by
    rw [List.map_cons] at r
    cases r with
    | cons h t => exact .cons (zjp h) (zgt t)
noncomputable abbrev KT (H : Hp) : List (List Key × V)→List (List Key × Addr × Value)→Prop := Paired fun p q => p.1 = q.1∧H q.2.1 = some (.tup (p.1.map kV))∧RelV p.2 q.2.2
theorem KT.val {H : Hp} {kvs : List (List Key × V)} {xs : List (List Key × Addr × Value)} (r : KT H kvs xs) (k : List Key) : RelO (valV kvs k) ((atKey xs k).map (·.2)) := by
  induction r with
  | nil => exact True.intro
  | @cons p q ps qs h t ih =>
    obtain ⟨h1,_,h2⟩ := h
    by_cases e : p.1 = k
    · have e' : q.1 = k := h1.symm.trans e
      have b : atKey (q::qs) k = some q.2 := by simp [atKey,List.find?_cons,e']
      rw [zew e,b]; exact h2
    · have e' : ¬ q.1 = k := fun z => e (h1.trans z)
      have b : atKey (q::qs) k = atKey qs k := by simp [atKey,List.find?_cons,e']
      rw [zdM e,b]; exact ih
theorem KT.repl {H : Hp} {kvs : List (List Key × V)} {xs : List (List Key × Addr × Value)} (r : KT H kvs xs) (k : List Key) {y : V} {u : Value} (ry : RelV y u) :
    KT H (kvs.map fun kv => if kv.1 = k then (kv.1,y) else kv) (xs.map (putAt k u)) := by
  induction r with
  | nil => exact .nil
  | @cons p q ps qs h t ih =>
    rw [List.map_cons,List.map_cons]
    refine .cons ?_ ih
    obtain ⟨h1,h2,h3⟩ := h
    unfold putAt
    by_cases e : p.1 = k
    · rw [if_pos e,if_pos (h1.symm.trans e)]; exact ⟨h1,h2,ry⟩
    · rw [if_neg e,if_neg (fun z => e (h1.trans z))]; exact ⟨h1,h2,h3⟩
theorem KT.put {H : Hp} {kvs : List (List Key × V)} {xs : List (List Key × Addr × Value)} (r : KT H kvs xs) (k : List Key) {b : Addr} {y : V} {u : Value} (hb : H b = some (.tup (k.map kV))) (ry : RelV y u) :
    KT H (putK kvs k y) (storedH xs k b u) := by
  have e : (kvs.any fun kv => decide (kv.1 = k)) = (atKey xs k).isSome := by
    rw [zhn,(r.val k).isSome_eq,Option.isSome_map]
  unfold putK storedH
  rw [e]
  by_cases q : (atKey xs k).isSome = true
  · rw [if_pos q,if_pos q]; exact r.repl k ry
  · rw [if_neg q,if_neg q]; exact Paired.snoc r ⟨rfl,hb,ry⟩
theorem KT.keeps {H H' : Hp} {kvs : List (List Key × V)} {xs : List (List Key × Addr × Value)} (r : KT H kvs xs) (ht : ∀ b ys,H b = some (.tup ys)→H' b = some (.tup ys)) : KT H' kvs xs :=
  Paired.mapP r fun _ _ z => ⟨z.1,ht _ _ z.2.1,z.2.2⟩
section
variable {P : Program} {w : World} {H : Hp} {h : Heap} {a : Addr}
theorem znz {u : HO} (ok : HOk P w H h) (e : Rd H a u) : zbe P w H h a u := e.ok ok
theorem zie {kvs : List (Key × V)} (ok : HOk P w H h) (e : Rd H a (.dK kvs)) : kvs.length≤sizeLine∧(a == sysModules) = false∧∃ vs,KV kvs vs∧h.DictOf (zbi P w) a vs :=
  show zbe P w H h a (.dK kvs) from znz ok e
theorem zpY {kvs : List (Key × V)} (ok : HOk P w H h) (e : H a = some (.dK kvs)) : kvs.length≤sizeLine∧(a == sysModules) = false∧∃ vs,KV kvs vs∧h.DictOf (zbi P w) a vs := zie ok (.inl e)
theorem zgs {ks : List Key} (ok : HOk P w H h) (e : H a = some (.tup (ks.map kV))) : (tupleKind (zbi P w)).is h ks a := by
  obtain ⟨_,its,r,⟨o,h1,h2,n,h3⟩,_⟩ := (show zbe P w H h a (.tup (ks.map kV)) from ok a _ e)
  exact ⟨o,its.toArray,n,h1,h2,h3,by simpa using zgt r⟩
theorem zjK {kvs : List (List Key × V)} (ok : HOk P w H h) (e : Rd H a (.dT kvs)) : kvs.length≤sizeLine∧(a == sysModules) = false ∧
    ∃ xs,KT H kvs xs∧h.DictOfH (tupleKind (zbi P w)) a xs := by
  obtain ⟨z,y,xs,r,o,es,ep,h1,h2,h3,h4,h5⟩ := (show zbe P w H h a (.dT kvs) from znz ok e)
  refine ⟨z,y,xs,r,o,es,ep,h1,h2,h3,h4,fun x hx => ?_,h5⟩
  have all : ∀ {l : List (List Key × V)} {m : List (List Key × Addr × Value)},KT H l m→∀ x∈m,(tupleKind (zbi P w)).is h x.1 x.2.1 := by
    intro l m q
    induction q with
    | nil => intro x hx; exact nomatch hx
    | @cons p q ps qs hq t ih =>
      intro x hx
      rcases List.mem_cons.mp hx with e | hx
      · subst e
        exact zgs ok (by rw [← hq.1]; exact hq.2.1)
      · exact ih x hx
  exact all r x hx
theorem zpW {kvs : List (List Key × V)} (ok : HOk P w H h) (e : H a = some (.dT kvs)) : kvs.length≤sizeLine∧(a == sysModules) = false ∧
    ∃ xs,KT H kvs xs∧h.DictOfH (tupleKind (zbi P w)) a xs := zjK ok (.inl e)
end
noncomputable def DGet (H : Hp) (a : Addr) (y : V) (r : Option V) : Prop :=
  (∃ kvs k,Rd H a (.dK kvs)∧y = kV k∧r = valV kvs k)∨∃ kvs k b,Rd H a (.dT kvs)∧y = .ref b∧H b = some (.tup (k.map kV))∧r = valV kvs k
noncomputable def DPut (H : Hp) (a : Addr) (y v : V) (H' : Hp) : Prop :=
  (∃ kvs k,H a = some (.dK kvs)∧y = kV k∧kvs.length < sizeLine∧H' = upd H a (.dK (putK kvs k v))) ∨
  ∃ kvs k b,H a = some (.dT kvs)∧y = .ref b∧H b = some (.tup (k.map kV))∧kvs.length < sizeLine∧H' = upd H a (.dT (putK kvs k v))
theorem DGet.k {H : Hp} {a : Addr} {kvs : List (Key × V)} {k : Key} (e : H a = some (.dK kvs)) : DGet H a (kV k) (valV kvs k) := .inl ⟨kvs,k,.inl e,rfl,rfl⟩
theorem DGet.t {H : Hp} {a b : Addr} {kvs : List (List Key × V)} {k : List Key} (e : H a = some (.dT kvs)) (eb : H b = some (.tup (k.map kV))) : DGet H a (.ref b) (valV kvs k) := .inr ⟨kvs,k,b,.inl e,rfl,eb,rfl⟩
theorem DPut.k {H : Hp} {a : Addr} {kvs : List (Key × V)} {k : Key} {v : V} (e : H a = some (.dK kvs)) (hl : kvs.length < sizeLine) : DPut H a (kV k) v (upd H a (.dK (putK kvs k v))) := .inl ⟨kvs,k,e,rfl,hl,rfl⟩
theorem DPut.t {H : Hp} {a b : Addr} {kvs : List (List Key × V)} {k : List Key} {v : V} (e : H a = some (.dT kvs)) (eb : H b = some (.tup (k.map kV))) (hl : kvs.length < sizeLine) :
    DPut H a (.ref b) v (upd H a (.dT (putK kvs k v))) := .inr ⟨kvs,k,b,e,rfl,eb,hl,rfl⟩
section
variable {X : Cx} {pins : List (Addr × Obj)} {σ : St} {H : Hp} {s : Shared} {a : Addr} {y v : V} {u r : Value} {o : Option V} {A : Around} {E : Value → Shared → Prop}
theorem Inv.big (I : Inv X pins σ H s) : sysModules < s.heap.objs.size := by
  have h : mainGlobals < s.heap.objs.size := (I.mod.glob.keeps I.bk).lt
  exact Nat.lt_trans (by decide) h
theorem zjQ {Q : Value→Shared→Prop} (hu : A.units + 1 < cLine) (I : Inv X pins σ H s) (g : DGet H a y (some v)) (ry : RelV y u) (h : ∀ w' s',Inv X pins σ H s'→RelV v w'→Q w' s') :
    wpAny (model X.prog X.w) A (getItem (.ref a) u) Q E s := by
  rcases g with ⟨kvs,k,e,ey,l⟩ | ⟨kvs,k,b,e,ey,eb,l⟩
  · subst ey
    obtain ⟨z,hd,vs,rel,dd⟩ := zie I.hok e
    obtain ⟨w',hw,rw'⟩ := RelO.some_of (v := v) (o := valueAt vs k) (by rw [l]; exact rel.val k)
    exact wpAny_getItem_of (zjp ry) dd.mapOf hw (h w' _ (I.tok _) rw')
  · subst ey
    cases (show u = Value.ref b from ry)
    obtain ⟨z,hd,xs,rel,dd⟩ := zjK I.hok e
    obtain ⟨w',hw,rw'⟩ := RelO.some_of (v := v) (o := (atKey xs k).map (·.2)) (by rw [l]; exact rel.val k)
    obtain ⟨p,hp,hp2⟩ := Option.map_eq_some_iff.mp hw
    refine wpAny_getItem_heap (tupleKind_room_in1 hu) (zgs I.hok eb) dd hp ?_
    rw [hp2]
    exact h w' _ (I.tok _) rw'
theorem d_in {Q : Value→Shared→Prop} (hu : A.units + 1 < cLine) (I : Inv X pins σ H s) (g : DGet H a y o) (ry : RelV y u) (h : ∀ s',Inv X pins σ H s'→Q (.bool o.isSome) s') :
    wpAny (model X.prog X.w) A (compareOp .In u (.ref a)) Q E s := by
  rcases g with ⟨kvs,k,e,ey,l⟩ | ⟨kvs,k,b,e,ey,eb,l⟩
  · subst ey
    obtain ⟨z,hd,vs,rel,dd⟩ := zie I.hok e
    refine wpAny_in_of (zjp ry) hd dd.mapOf ?_
    rw [← (rel.val k).isSome_eq,← l]
    exact h _ (I.tok _)
  · subst ey
    cases (show u = Value.ref b from ry)
    obtain ⟨z,hd,xs,rel,dd⟩ := zjK I.hok e
    refine wpAny_in_heap (tupleKind_room_in1 hu) (zgs I.hok eb) hd dd ?_
    have q := (rel.val k).isSome_eq
    rw [Option.isSome_map] at q
    rw [← q,← l]
    exact h _ (I.tok _)
theorem zmR {Q : Value→Shared→Prop} (hu : A.units + 1 < cLine) (I : Inv X pins σ H s) (g : DGet H a y o) (ry : RelV y u) (h : ∀ s',Inv X pins σ H s'→Q (.bool (!o.isSome)) s') :
    wpAny (model X.prog X.w) A (compareOp .NotIn u (.ref a)) Q E s := by
  rcases g with ⟨kvs,k,e,ey,l⟩ | ⟨kvs,k,b,e,ey,eb,l⟩
  · subst ey
    obtain ⟨z,hd,vs,rel,dd⟩ := zie I.hok e
    refine wpAny_notIn_of (zjp ry) hd dd.mapOf ?_
    rw [← (rel.val k).isSome_eq,← l]
    exact h _ (I.tok _)
  · subst ey
    cases (show u = Value.ref b from ry)
    obtain ⟨z,hd,xs,rel,dd⟩ := zjK I.hok e
    refine wpAny_notIn_heap (tupleKind_room_in1 hu) (zgs I.hok eb) hd dd ?_
    have q := (rel.val k).isSome_eq
    rw [Option.isSome_map] at q
    rw [← q,← l]
    exact h _ (I.tok _)
theorem zjO {h' : Heap} {t' : Nat} {ob : HO} (I : Inv X pins σ H s) (mu : Mut (H a)) (hs : Heap.SameBut a s.heap h') (he : ∃ q,h'.get? a = some q) (new : zbe X.prog X.w (upd H a ob) h' a ob) :
    Inv X pins σ (upd H a ob) { s with heap := h',toks := t' } :=
  I.write (x := a) (e := a) mu (.inl rfl) (fun b q hb z => (hs.2 b hb).trans z) he new
theorem zoP {P : Program} {w : World} {H' : Hp} {h' : Heap} {kvs : List (Key × V)} {vs : List (Key × Value)} (z : kvs.length≤sizeLine) (hd : (a == sysModules) = false) (rel : KV kvs vs) (dd : h'.DictOf (zbi P w) a vs) :
    zbe P w H' h' a (.dK kvs) := ⟨z,hd,vs,rel,dd⟩
theorem zjP {H' : Hp} {Q : Unit→Shared→Prop} (hu : A.units + 1 < cLine) (I : Inv X pins σ H s) (g : DPut H a y v H') (ry : RelV y u) (rv : RelV v r) (h : ∀ s',Inv X pins σ H' s'→Q () s') :
    wpAny (model X.prog X.w) A (setItem (.ref a) u r) Q E s := by
  rcases g with ⟨kvs,k,e,ey,l,eH⟩ | ⟨kvs,k,b,e,ey,eb,l,eH⟩
  · subst ey eH
    obtain ⟨z,hd,vs,rel,dd⟩ := zpY I.hok e
    have hz : vs.length≤sizeLine := by rw [← rel.length]; exact z
    have hl : (putK kvs k v).length≤sizeLine := by have := zeW kvs k v; omega
    refine wpAny_setItem_pairs (hsz := hz) (zjp ry) dd fun h' dd' hs => h _ ?_
    have he : ∃ q,h'.get? a = some q := let ⟨q,_,_,hq,_⟩ := dd'; ⟨q,hq⟩
    exact zjO I (by rw [e]; exact True.intro) hs he (zoP hl hd (rel.put k rv) dd')
  · subst ey eH
    cases (show u = Value.ref b from ry)
    obtain ⟨z,hd,xs,rel,dd⟩ := zpW I.hok e
    have hz : xs.length≤sizeLine := by rw [← Paired.length rel]; exact z
    have hl : (putK kvs k v).length≤sizeLine := by have := zeW kvs k v; omega
    refine wpAny_setItem_heap (hsz := hz) (tupleKind_room_in1 hu) (zgs I.hok eb) dd fun h' dd' hs => h _ ?_
    obtain ⟨q,es,ep,hq,h2,h3,h4,_,h5⟩ := dd'
    refine zjO I (by rw [e]; exact True.intro) hs ⟨q,hq⟩ ⟨hl,hd,_,(rel.put k eb rv).keeps fun c ys ec => ?_,q,es,ep,hq,h2,h3,h4,h5⟩
    rw [zaC (zpF ec e (fun z => nomatch z))]
    exact ec
end
section
variable {X : Cx} {pins : List (Addr × Obj)} {σ : St} {H : Hp} {s : Shared} {a : Addr} {kvs : List (Key × V)} {k : Key} {u : Value} {A : Around} {E : Value → Shared → Prop}
theorem zpZ {Q : Value→Shared→Prop} (I : Inv X pins σ H s) (e : Rd H a (.dK kvs)) (h : ∀ t s',Inv X pins σ H s'→Q (.int kvs.length t) s') : wpAny (model X.prog X.w) A (call (.builtin "len") [.ref a]) Q E s := by
  obtain ⟨z,hd,vs,rel,dd⟩ := zie I.hok e
  refine call_len_dict hd dd (by rw [← rel.length]; rw [sizeLine_eq] at z; omega) ?_
  rw [← rel.length]
  exact h _ _ (I.tok _)
end
theorem zhe {X : Cx} {pins : List (Addr × Obj)} {σ : St} {H : Hp} {s : Shared} {a : Addr} {y : V} {o : Option V} (I : Inv X pins σ H s) (g : DGet H a y o) : s.TypeIs (.ref a) "dict" := by
  rcases g with ⟨kvs,k,e,_,_⟩ | ⟨kvs,k,b,e,_,_,_⟩
  · obtain ⟨_,_,vs,_,dd⟩ := zie I.hok e
    exact dd.typeIs
  · obtain ⟨_,_,xs,_,dd⟩ := zjK I.hok e
    exact dd.typeIs
section
variable {X : Cx} {o i e value : Expr} {pos pos' tpos : Pos} {td ty tv : TE}
end
theorem zk2 {P : Program} {w : World} {H : Hp} (h : Heap) (hb : sysModules < h.objs.size) : zbe P w H (h.push { cls := .type "dict",data := .dict #[] }) h.objs.size (.dK []) :=
  ⟨Nat.zero_le _,beq_eq_false_iff_ne.mpr (Ne.symm (Nat.ne_of_lt hb)),[],.nil,Heap.DictOf.new h⟩
noncomputable def zni : TE := fun _ H Q => ∀ p,H p = none→Q (.ref p) (upd H p (.dK []))
section
variable {X : Cx} {pos : Pos}
theorem zkC : PE X (.Dict [] [] pos) zni := fun pins s σ H Q I h =>
  wpAny_Dict_empty ⟨.ref s.heap.objs.size,_,I.laid (a := s.heap.objs.size) (o := .dK []) (t' := s.toks) (fun _ _ q => Heap.get?_push_of_some _ q) (Nat.le_refl _) (zk2 s.heap I.big),rfl,h _ (I.hok.fresh (Nat.le_refl _))⟩
end
structure M1 (X : Cx) (o : Expr) (m : Str) (apos : Pos) (e : Expr) (cpos : Pos) : Prop where
  base : attributeBase o m X.env (eval o X.env) = eval o X.env
  few : ((backTo cpos (starEach [e] X.env)).all (fun x => !x.1) && (backToKw cpos (keywordEach [] X.env)).all (fun x => x.1.isSome)
    && decide (([e] : List Expr).length + ([] : List Keyword).length + (if ([] : List Keyword).isEmpty then 0 else 1) < 30)) = true
  line : (apos.endLine == cpos.line) = true
  trees : backTo cpos (starEach [e] X.env) = [(false,eval e X.env)]
structure M2 (X : Cx) (o : Expr) (m : Str) (apos : Pos) (e f : Expr) (cpos : Pos) : Prop where
  base : attributeBase o m X.env (eval o X.env) = eval o X.env
  few : ((backTo cpos (starEach [e,f] X.env)).all (fun x => !x.1) && (backToKw cpos (keywordEach [] X.env)).all (fun x => x.1.isSome)
    && decide (([e,f] : List Expr).length + ([] : List Keyword).length + (if ([] : List Keyword).isEmpty then 0 else 1) < 30)) = true
  line : (apos.endLine == cpos.line) = true
  trees : backTo cpos (starEach [e,f] X.env) = [(false,eval e X.env),(false,eval f X.env)]
section
variable {X : Cx} {pins : List (Addr × Obj)} {σ : St} {H : Hp} {s : Shared} {a : Addr} {y d : V} {u r : Value} {o : Option V} {A : Around} {E : Value → Shared → Prop}
end
section
variable {X : Cx} {o e f : Expr} {apos cpos : Pos} {td ty tx : TE}
end
section
variable {X : Cx} {pins : List (Addr × Obj)} {σ : St} {H : Hp} {s : Shared} {a : Addr} {kvs : List (Key × V)} {A : Around} {E : Value → Shared → Prop}
end
section
variable {X : Cx} {pins : List (Addr × Obj)} {σ : St} {H : Hp} {s : Shared} {a : Addr} {y : V} {u : Value} {A : Around} {E : Value → Shared → Prop}
end
end L2
namespace Att
open PySem PySem.W PySem.Calls PyProof.Rows
theorem zeZ {P : Params} {h : Heap} : ∀ (ns : List Int) (vs : List Value),WellAll P h vs (ns.map WData.int)→IntsAre vs ns := by
  intro ns
  induction ns with
  | nil =>
    intro vs w
    rw [List.map_nil] at w
    cases w
    exact .nil
  | cons n ns ih =>
    intro vs w
    rw [List.map_cons] at w
    cases w with
    | cons a b =>
      cases a
      exact .cons _ _ (ih _ b)
theorem zix {l : OpenLaw} {n : Nat} (hn : l.most = some n) {P : Params} {h : Heap} {args : List WData} {vals : List Value}
    (hpre : l.row.toRowW.claim.pre args = true) (hwl : WellAll P h vals args) :
    ∃ a vs ns,vals = [Value.ref a]∧args = [WData.list (ns.map WData.int)]∧h.get? a = some { cls := .type "list",data := .seq vs.toArray }∧IntsAre vs ns∧ns.length≤n := by
  have hsh : WShape.hasAll [] args [.list .int] = true := (pre_splitW hpre).1
  have hc : l.pre.holds [] { args := args } = true := (pre_splitW hpre).2
  obtain ⟨d,r,rfl,h1,h2⟩ := hasAllW_cons hsh
  obtain rfl := hasAllW_nil h2
  obtain ⟨xs,rfl,h3⟩ := hasW_list h1
  obtain ⟨ns,rfl⟩ := items_int h3
  have hlen : ns.length≤n := by
    unfold OpenLaw.pre at hc
    have h4 : (WTm.not (.lt (.lit (.int (n : Int))) (.len (.arg 0)))).holds [] { args := [.list (ns.map .int)] } = true := by
      have h4 := (holds_andW hc).1
      rw [hn] at h4
      exact h4
    have h5 := condW_of h4 (w_not (w_lt w_lit (w_len_list (w_arg rfl))))
    rw [List.length_map] at h5
    refine Nat.le_of_not_lt fun q => ?_
    have q' : (n : Int) < ((ns.length : Nat) : Int) := by omega
    first
      | (rw [decide_eq_true q'] at h5; exact absurd h5 (by decide))
      | (simp at h5; omega)
  cases hwl with
  | cons w1 w2 =>
    cases w2
    cases w1 with
    | list ho hall => exact ⟨_,_,ns,rfl,rfl,ho,zeZ ns _ hall,hlen⟩
theorem ziM (l : OpenLaw) (args : List WData) : l.row.toRowW.claim.post args (.bool true) args = true :=
  postW_of (r := l.row.toRowW) (X := (true == true))
    (show WShape.has [] (.bool true) .bool = true by first | rfl | decide | simp [WShape.has,WShape.arms,WShape.armsAll])
    (show (WTm.eq .res (.lit (.bool true))).value [] { args := args,res := some (.bool true),after := args } = some (.bool (true == true)) from w_eq_bool (w_res rfl) w_lit) rfl
theorem attach_call {l : OpenLaw} {n : Nat} {q : Program} {loose : List Str} {XP : (Str→Option Value)→Heap→Prop} {YP : World→Heap→Prop} {d : DefRec}
    (hn : l.most = some n) (hdf : d.params.defaults = [])
    (call : ∀ (w : World) (s₀ s₁ : Shared) (mg mb : Str→Option Value) (fa : Addr) (o : Obj) (pm cd doc : Value) (a : Addr) (vs : List Value) (ns : List Int),
      Ground q loose [] XP w s₀ mg mb s₁.heap→YP w s₁.heap →
      s₁.heap.get? fa = some o→o.data = .func (docDef d.name d.params d.body d.scope pm cd doc)→s₁.heap.CodeRec cd d.name→mg d.name = some (.ref fa) →
      s₁.heap.get? a = some { cls := .type "list",data := .seq vs.toArray }→IntsAre vs ns→ns.length≤n→s₁.gens = #[] →
      codeAny (model l.prog w) callerA (.call (.ref fa) ⟨[.ref a],[]⟩) (fun r s' => r = .ok (.ret (.bool true))∧OldK s₁.heap s'.heap∧s'.os = s₁.os∧AllBare s'.gens) s₁) :
    WalkO q loose XP YP l.row.toRowW d [] (fun f vs => PySem.call f vs) := by
  intro w s₀ s₁ mg mb G Y fa o pm cd doc dV kV ho hd hcd hD hmg hg args vals as hpre hlay hrd hwl hlo
  obtain rfl : dV = .none := Dflts.none hD hdf
  obtain rfl : kV = .none := Dflts.noKw hD
  obtain ⟨a,vs,ns,rfl,rfl,hobj,hints,hlen⟩ := zix hn hpre hwl
  refine enter_call (codeAny_mono (call w s₀ s₁ mg mb fa o pm cd doc a vs ns G Y ho (fd_plain hd) hcd hmg hobj hints hlen hg) fun r s' hq => ?_)
  obtain ⟨rfl,h2,h3,h4⟩ := hq
  exact ⟨.inl ⟨.bool true,.bool true,[],rfl,fun _ => rfl,.bool true,ziM l _,fun _ => ⟨List.Pairwise.nil,fun _ hm => (nomatch hm)⟩⟩,h2,h3,h4⟩
section
variable {prog : Program} {w : World} {A : Around} {E : Value → Shared → Prop} {s : Shared} {K : Frag}
end
end Att
namespace L2
open PySem PySem.Spec PyProof.Rows
theorem zf4 : ∀ {vs : List Value} {ns : List Int},IntsAre vs ns→Vals (ns.map V.int) vs
  | _,_,.nil => .nil
  | _,_,.cons n t h => .cons ⟨t,rfl⟩ (zf4 h)
noncomputable def Only (H : Hp) : Prop := ∀ b,H b = none∨∃ o xs,H b = some (.frz o (.lst xs))
theorem zkP {P : Program} {w : World} {K : PySem.W.Frag} {mg mb : Str→Option Value} {CX : CXT} {k : Nat} {fa a : Addr} {fd : FuncData} {x : Str} {sp : Sp} {s₁ : Shared} {vs : List Value} {ns : List Int}
    (KX : K.In s₁.heap) (hns : s₁.heap.Ns mainGlobals mg) (hb : s₁.heap.Ns builtinsNs mb) (hbb : ∀ x : Str,x≠"__name__"→mb x = bootBuiltins x) (hlim : s₁.heap.NoLimit) (hg : s₁.gens = #[])
    (ha : s₁.heap.get? a = some { cls := .type "list",data := .seq vs.toArray }) (hi : IntsAre vs ns) (hl : ns.length≤sizeLine) (hr : Room k callerA)
    (F : ∀ base : Heap,K.In base→base.Ns mainGlobals mg→FnOk P w K mg base CX k fa fd [x] sp) (hbind : ∀ (s : Shared) (u : Value),BindsTo s fd ⟨[u],[]⟩ [(x,u)])
    (hsp : ∀ H : Hp,Only H→SqL K H a (ns.map V.int)→sp [.ref a] H (fun v _ => v = .bl true) fun _ _ _ => False)
    (hCX : ∀ H e s',CX [] H s₁ (fun _ _ _ => False) e s'→False) :
    codeAny (model P w) callerA (.call (.ref fa) ⟨[.ref a],[]⟩) (fun r s' => r = .ok (.ret (.bool true))∧OldK s₁.heap s'.heap∧s'.os = s₁.os∧AllBare s'.gens) s₁ := by
  have rv := zf4 hi
  have lenV := hi.length
  have core : ∀ H : Hp,Only H→SqL K H a (ns.map V.int)→HOk P w H s₁.heap→(∀ b,H b≠none→b = a)→(H a≠none→K.lookup a = none) →
      codeAny (model P w) callerA (.call (.ref fa) ⟨[.ref a],[]⟩) (fun r s' => r = .ok (.ret (.bool true))∧OldK s₁.heap s'.heap∧s'.os = s₁.os∧AllBare s'.gens) s₁ := by
    intro H hO hS hok hA hK
    have base_of : ∀ {b : Addr} {o : Obj},s₁.heap.get? b = some o→H b = none→(hidT s₁.heap H).get? b = some o := fun e n => zkV e n
    have noA : ∀ {b : Addr} {o : Obj} {es : Array DictEntry} {ep : Nat},s₁.heap.get? b = some o→o.data = .dict es ep→H b = none := fun {b o es ep} e d => by
      cases q : H b with
      | none => rfl
      | some u =>
        have e' : b = a := hA b (by rw [q]; simp)
        subst e'
        rw [ha] at e; cases e
        have d' : Data.seq vs.toArray _ = Data.dict es ep := d
        cases d'
    have nsK : ∀ {b : Addr} {m : Str→Option Value},s₁.heap.Ns b m→(hidT s₁.heap H).Ns b m := fun {b m} ⟨o,es,ep,e,d,r⟩ => ⟨o,es,ep,base_of e (noA e d),d,r⟩
    have hKb : K.In (hidT s₁.heap H) := fun b o e => base_of (KX b o e) (by
      cases q : H b with
      | none => rfl
      | some u =>
        have e' : b = a := hA b (by rw [q]; simp)
        subst e'
        rw [hK (by rw [q]; simp)] at e; cases e)
    have hM : Mod K mg (hidT s₁.heap H) := ⟨hKb,nsK hns,⟨mb,nsK hb,hbb⟩,let ⟨mc,h1,h2⟩ := hlim; ⟨mc,nsK h1,h2⟩⟩
    have e0 : Env0 P w K mg (hidT s₁.heap H) callerA [] s₁ H := ⟨rfl,hM,fun b o e => zmv e,Nat.le_of_eq (zjA _ _),trivial,fun b hb => absurd (show b∈([] : List Addr) from hb) (by simp),hok,.of_eq hg⟩
    refine codeAny_mono ((F _ hKb (nsK hns)).run callerA [] s₁ H ⟨[.ref a],[]⟩ [.ref a] [.ref a] _ _ hr e0 (hbind s₁ (.ref a)) (.cons rfl .nil) (hsp H hO hS)) fun r s' h => ?_
    cases r with
    | error e => exact (hCX H e s' h).elim
    | ok fl =>
      cases fl with
      | next => exact False.elim h
      | brk => exact False.elim h
      | cont => exact False.elim h
      | ret u =>
        obtain ⟨v,H',os,bare,un,hok',r',q⟩ := h
        have q' : v = .bl true := q
        subst q'
        obtain rfl : u = Value.bool true := r'
        refine ⟨rfl,OldK.of_keep fun b o e => ?_,os,bare⟩
        cases q : H b with
        | none => exact un.keep b o e q (by intro z; exact absurd (show b∈([] : List Addr) from z) (by simp)) (by simp)
        | some u =>
          rcases hO b with z | ⟨ob,xs,z⟩
          · rw [q] at z; cases z
          · have z2 := un.frzs b ob _ z
            obtain ⟨e1,_⟩ := hok b _ z
            obtain ⟨e2,_⟩ := hok' b _ z2
            rw [e] at e1; cases e1
            exact e2
  cases hk : K.lookup a with
  | some o =>
    have e := KX a o hk
    rw [ha] at e
    cases e
    refine core (fun _ => none) (fun _ => .inl rfl) (.inr ⟨_,vs.toArray,_,hk,rfl,rfl,rfl,by rw [List.size_toArray,lenV]; exact hl,by simpa using rv⟩) (fun b u z => by have z' : (none : Option HO) = some u := z; cases z') (fun b z => absurd rfl z) fun z => absurd rfl z
  | none =>
    refine core (fun b => if b = a then some (.frz { cls := .type "list",data := .seq vs.toArray } (.lst (ns.map V.int))) else none) (fun b => ?_) (.inl (.inr ⟨{ cls := .type "list",data := .seq vs.toArray },if_pos rfl⟩)) (fun b u z => ?_) (fun b z => ?_) fun _ => hk
    · by_cases hb : b = a
      · exact .inr ⟨_,_,if_pos hb⟩
      · exact .inl (if_neg hb)
    · by_cases hb : b = a
      · have z' := (if_pos hb).symm.trans z
        cases z'
        subst hb
        exact ⟨ha,by rw [List.length_map]; exact hl,vs,_,rv,ha⟩
      · have z' := (if_neg hb).symm.trans z
        cases z'
    · by_cases hb : b = a
      · exact hb
      · exact absurd (if_neg hb) z
end L2
namespace L2
open PySem PySem.Spec PyProof.Rows
noncomputable abbrev KOf {K : PySem.W.Frag} {h : Heap} (_ : K.In h) : PySem.W.Frag := K
theorem walk_of {l : PySem.W.OpenLaw} {n k : Nat} {q : Program} {loose : List Str} {XP : (Str→Option Value)→Heap→Prop} {YP : World→Heap→Prop} {d : DefRec} {K : Params→PySem.W.Frag} {CX : World→CXT} {sp : World→Sp} {x : Str}
    (hn : l.most = some n) (hn2 : n≤sizeLine) (hdf : d.params.defaults = []) (hr : Room k callerA)
    (hY : ∀ (w : World) (h : Heap),YP w h→(K w.params).In h)
    (F : ∀ (w : World) (mg : Str→Option Value) (fa : Addr) (h : Heap),(K w.params).In h→h.Ns mainGlobals mg→mg d.name = some (.ref fa) →
      ∃ fd : FuncData,(∀ (s : Shared) (u : Value),BindsTo s fd ⟨[u],[]⟩ [(x,u)]) ∧
        ∀ base : Heap,(K w.params).In base→base.Ns mainGlobals mg→FnOk l.prog w (K w.params) mg base (CX w) k fa fd [x] (sp w))
    (hsp : ∀ (w : World) (H : Hp) (a : Addr) (ns : List Int),ns.length≤n→Only H→SqL (K w.params) H a (ns.map V.int)→sp w [.ref a] H (fun v _ => v = .bl true) fun _ _ _ => False)
    (hCX : ∀ (w : World) (H : Hp) (s : Shared) (e : Value) (s' : Shared),CX w [] H s (fun _ _ _ => False) e s'→False) :
    PySem.W.WalkO q loose XP YP l.row.toRowW d [] (fun f vs => PySem.call f vs) := by
  refine Att.attach_call hn hdf fun w s₀ s₁ mg mb fa o pm cd doc a vs ns G Y ho hd hcd hmg hobj hints hlen hg => ?_
  have KX := hY w _ Y
  obtain ⟨fd,hb,hF⟩ := F w mg fa _ KX G.T.g hmg
  exact zkP KX G.T.g G.T.b G.T.builtins G.T.nolimit hg hobj hints (Nat.le_trans hlen hn2) hr hF hb (fun H hO hS => hsp w H a ns hlen hO hS) fun H e s' => hCX w H s₁ e s'
end L2
namespace L2
open PySem PySem.Spec PyProof.Rows
noncomputable def zdc (s : Stmt) : Arguments := match s with
  | .FunctionDef _ a _ _ _ _ _ _ _ _ => a
  | _ => { posonlyargs := [],args := [],vararg := none,kwonlyargs := [],kw_defaults := [],kwarg := none,defaults := [] }
noncomputable def zci (s : Stmt) : List Stmt := match s with
  | .FunctionDef _ _ b _ _ _ _ _ _ _ => b
  | _ => []
noncomputable def zae (s : Stmt) : Scope := match s with
  | .FunctionDef _ _ _ _ _ _ sc _ _ _ => sc
  | _ => { kind := .function,names := [],isGenerator := false,isCoroutine := false }
noncomputable abbrev CX0 : CXT := fun _ _ _ _ _ _ => False
noncomputable abbrev E0 : XK := fun _ _ _ => False
theorem zpx {X : Cx} : zkc CX0 X E0 := fun _ _ _ _ _ _ _ h => h.elim
structure Fun (K : PySem.W.Frag) (x qual : Str) (st : Stmt) (f : Addr) (fd : FuncData) : Prop where
  ex : ∃ (oc : Value) (od : Option Addr) (kV doc pm : Value) (an : Option Addr) (cdv ct : Value) (osl : Array (Option Value)),
    fd = PySem.W.fnOf x qual (zdc st) (zci st) (zae st) .none kV doc pm an cdv ct∧K.lookup f = some ⟨oc,od,.func fd,osl⟩∧PySem.W.codeIn K cdv qual = true
  kp : PySem.W.keepIn K (.ref f) = true
section
variable {P : Program} {w : World} {K : PySem.W.Frag} {mg : Str → Option Value} {base : Heap}
theorem Fun.ok {x qual : Str} {st : Stmt} {f : Addr} {fd : FuncData} {N ps : List Str} {k : Nat} {sp : Sp} (F : Fun K x qual st f fd) (S : FnScope N ps (zae st)) (len : ∀ vs H Q E,sp vs H Q E→vs.length = ps.length)
    (hbody : ∀ (cdv : Value) (A : Around) (outer : List Env) (s : Shared) (H : Hp) (vs : List V) (Q : VK) (E : XK),Room k (A.deeper (envOfC qual (zae st) s.heap.objs.size f cdv))→sp vs H Q E →
      ∃ t,PSs (cxOf CX0 P w K mg base N qual (zae st) f cdv A outer s H E).nox (zci st) t∧t { nx := fun _ H' => Q .non H',rt := Q } (start N vs) H) : FnOk P w K mg base CX0 (k + 1) f fd ps sp := by
  obtain ⟨oc,od,kV,doc,pm,an,cdv,ct,osl,rfl,lk,hcd⟩ := F.ex
  refine zpR lk hcd S len fun A outer s H vs Q E hr hsp => ?_
  obtain ⟨t,h,q⟩ := hbody cdv A outer s H vs Q E hr hsp
  exact ⟨t,h.nox,q⟩
theorem Fun.binds {x qual : Str} {st : Stmt} {f : Addr} {fd : FuncData} {ps : List Str} (F : Fun K x qual st f fd)
    (h : ∀ (kV doc pm : Value) (an : Option Addr) (cdv ct : Value) (us : List Value),us.length = ps.length→bindArgs (PySem.W.fnOf x qual (zdc st) (zci st) (zae st) .none kV doc pm an cdv ct) ⟨us,[]⟩ = pure (ps.zip us)) : zhm K fd ps [] := by
  obtain ⟨oc,od,kV,doc,pm,an,cdv,ct,osl,rfl,lk,hcd⟩ := F.ex
  exact .all (h kV doc pm an cdv ct)
theorem zoC {x qual : Str} {st : Stmt} {f : Addr} {oc : Value} {od an : Option Addr} {osl : Array (Option Value)} {kV doc pm cdv ct : Value} (l : K.lookup f = some ⟨oc,od,.func (PySem.W.fnOf x qual (zdc st) (zci st) (zae st) .none kV doc pm an cdv ct),osl⟩)
    (c : PySem.W.codeIn K cdv qual = true) (k : PySem.W.keepIn K (.ref f) = true) : Fun K x qual st f (PySem.W.fnOf x qual (zdc st) (zci st) (zae st) .none kV doc pm an cdv ct) := ⟨⟨oc,od,kV,doc,pm,an,cdv,ct,osl,rfl,l,c⟩,k⟩
end
theorem zb0 {A : Around} {k : Nat} (hr : Room k A) : A.units + 1 < cLine := Nat.lt_of_le_of_lt (Nat.add_le_add_left (by decide : 1≤64) _) hr.units
section
variable {X : Cx}
theorem zj1 : zc4 X (.builtin "len") (fun xs H Q => ∃ a kvs,xs = [V.ref a]∧Rd H a (.dK kvs)∧Q (.int kvs.length) H) := by
  intro pins s σ H xs us Q I r h
  obtain ⟨a,kvs,rfl,ha,q⟩ := h
  obtain ⟨u,rfl,ru⟩ := zd3 r
  cases ru
  exact zpZ I ha fun t s' I' => ⟨.int kvs.length,H,I',⟨t,rfl⟩,q⟩
end
noncomputable def Same (H H' : Hp) : Prop := ∀ b o,H b = some o→H' b = some o
theorem Same.trans {H H1 H2 : Hp} (a : Same H H1) (b : Same H1 H2) : Same H H2 := fun c o h => b c o (a c o h)
theorem Same.free {H H' : Hp} (e : Same H H') {l : Addr} (h : H' l = Option.none) : H l = Option.none := by
  cases q : H l with
  | none => rfl
  | some o =>
    rw [e l o q] at h
    cases h
theorem Same.seq {K : PySem.W.Frag} {H H' : Hp} {a : Addr} {xs : List V} (e : Same H H') (h : SqL K H a xs) : SqL K H' a xs := by
  rcases h with (h | ⟨o,h⟩) | h
  · exact .inl (.inl (e _ _ h))
  · exact .inl (.inr ⟨o,e _ _ h⟩)
  · exact .inr h
section
variable {κ : Type} [DecidableEq κ]
end
end L2
end
section
namespace DL
open PySem
open PySem.SeqAt
open PySem.AutoSeq1 (wpAny_loadPart')
open PySem.MeetsSeq PySem.MeetsSeq2 PySem.MeetsSeq3
noncomputable def zjr (items : Array Value) (x : Value) : Nat→Option Fin × Unit→Sem (ForInStep (Option Fin × Unit)) := fun i _ => match items[i]? with
  | some y => do
    let c ← eqBool y x
    if c = true then do
        let r ← retInt i
        pure (ForInStep.done (some r,()))
      else pure (ForInStep.yield (none,()))
  | _ => pure (ForInStep.yield (none,()))
theorem zmE {prog : Program} {w : World} {A : Around} {E : Value→Shared→Prop} {s : Shared} {items : Array Value} {x : Value} {e : Value→Bool} {j : Nat} (hj : j < items.size) (hit : e items[j] = true) (he : ∀ y,y∈items→EqAt A s y x (e y))
    {Q : Option Fin × Unit→Shared→Prop} (hq : Q (some (.done (.ret (.int j s.toks))),()) { s with toks := s.toks + 1 }) :
    ∀ (k i : Nat),j = i + k→(∀ m (hm : m < items.size),i≤m→m < j→e items[m] = false)→wpAny (model prog w) A (forIn (List.range' i (items.size - i)) (none,()) (zjr items x)) Q E s := by
  intro k
  induction k with
  | zero =>
    intro i hk _
    obtain rfl : j = i := by omega
    obtain ⟨r,hr⟩ : ∃ r,items.size - j = r + 1 := ⟨items.size - j - 1,by omega⟩
    rw [hr,List.range'_succ,List.forIn_cons]
    refine wpAny_bind ?_
    unfold zjr
    rw [show items[j]? = some items[j] by simp [hj]]
    refine wpAny_bind (he _ (Array.getElem_mem hj) prog w _ _ ?_)
    rw [hit,if_pos rfl]
    refine wpAny_bind (m := retInt j) ?_
    unfold retInt
    wp_walk
    exact hq
  | succ k ih =>
    intro i hk hno
    have hi : i < items.size := by omega
    obtain ⟨r,hr⟩ : ∃ r,items.size - i = r + 1 := ⟨items.size - i - 1,by omega⟩
    rw [hr,List.range'_succ,List.forIn_cons]
    refine wpAny_bind ?_
    unfold zjr
    rw [show items[i]? = some items[i] by simp [hi]]
    refine wpAny_bind (he _ (Array.getElem_mem hi) prog w _ _ ?_)
    rw [hno i hi (Nat.le_refl _) (by omega),if_neg Bool.false_ne_true]
    refine wpAny_pure ?_
    have := ih (i + 1) (by omega) (fun m hm h1 h2 => hno m hm (by omega) h2)
    rw [show items.size - (i + 1) = r by omega] at this
    exact this
theorem zfC (l : Addr) (items : Array Value) (n : Nat) (dd : Option Addr) (sl : Array (Option Value)) (x : Value) (e : Value→Bool) (j : Nat) (hj : j < items.size)
    (hit : e items[j] = true) (hno : ∀ m (hm : m < items.size),m < j→e items[m] = false) :
    Meets (Builtin.«tuple.index» ⟨[.ref l,x],[]⟩)
      (fun A R s => s.heap.get? l = some { cls := .type "tuple",dict := dd,data := .seq items n,slots := sl }∧(∀ y,y∈items→EqAt A.in1 s y x (e y))∧R (.ok (.ret (.int j s.toks))) { s with toks := s.toks + 1 }) := by
  intro prog w A R s h
  obtain ⟨hp,g,d,tk,os⟩ := s; obtain ⟨hl,he,h⟩ := h
  unfold Builtin.«tuple.index»
  simp only [Std.Legacy.Range.forIn_eq_forIn_range']
  generalize hF : @forIn Sem (List Nat) Nat _ (Option Fin × Unit) = F
  wp_walk using wpAny_loadPart' hl
  subst hF
  rw [show ([:min items.size items.size] : Std.Legacy.Range).size = items.size - 0 by simp [Std.Legacy.Range.size]]
  refine zmE hj hit he ?_ j 0 (by omega) (fun m hm _ h2 => hno m hm h2)
  exact wpAny_pure h
end DL
end
section
namespace DL
open PySem PyProof.Rows
theorem zgP : isSubtype (.type "tuple") (.type "set") = pure false := by rw [isSubtype_type]; kernel_rfl
theorem zf5 : isSubtype (.type "tuple") (.type "frozenset") = pure false := by rw [isSubtype_type]; kernel_rfl
section
variable {prog : Program} {w : World} {A : Around} {E : Value → Shared → Prop} {s : Shared}
noncomputable abbrev set0 (led : Bool) : Obj := { cls := .type "set",dict := none,data := .set #[] 0 (.fresh 0 0 led) }
noncomputable def zka (prog : Program) (w : World) (s : Shared) (ns : List Int) (n : Nat) (h' : Heap) : Prop :=
  h'.SetOf (intKind prog w) s.heap.objs.size (fun k => (firstMet (fun i => ns.getD i 0) n).any (· == k)) (firstMet (fun i => ns.getD i 0) n).length∧∀ b o,b < s.heap.objs.size→s.heap.get? b = some o→h'.get? b = some o
set_option maxHeartbeats 3200000 in
theorem zgv {t : Addr} {items : Array Value} {ns : List Int} {led : Bool} {R : Result→Shared→Prop} (hh : A.handled = none) (ht : s.heap.IsTuple t items) (hi : IntsAre items.toList ns) (hb : items.size + 1 < scanBound)
    (hR : ∀ h' tk,zka prog w s ns items.size h'→R (.ok (.ret .none)) { s with heap := h',toks := tk }) :
    wpAny (model prog w) A.in1 (Builtin.«set.__init__» ⟨[.ref s.heap.objs.size,.ref t],[]⟩) (fun fin s' => match fin with | .done f => R (.ok f) s' | .again c' => c'.quiet = true∧codeAny (model prog w) A c' R s') (fun e s' => R (.error e) s') { s with heap := s.heap.push (set0 led) } := by
  obtain ⟨⟨ocls,odict,odata,oslots⟩,hol,hcl,nl,hdl⟩ := ht
  simp only at hcl hdl
  subst hcl; subst hdl
  have hol1 := Heap.get?_push_of_some (set0 led) hol
  have g1 := zgP
  have g2 := zf5
  have g3 : (Value.type "tuple" == Value.type "dict") = false := by decide
  have hT1 : (s.heap.push (set0 led)).IsTuple t items := ⟨_,hol1,rfl,nl,rfl⟩
  have hS : (s.heap.push (set0 led)).get? s.heap.objs.size = some (set0 led) := Heap.get?_push_size _ rfl
  unfold Builtin.«set.__init__» noKeywords Builtin.Frozenset.updateFrom
  generalize hPI : pyIter = PI
  wp_walk
  subst hPI
  refine wpAny_pyIter_tuple hT1 (wpAny_bind (wpAny_runValue ?_))
  have ltT : t < s.heap.objs.size := Heap.lt_size hol
  have z1 : (s.heap.push (set0 led)).objs.size = s.heap.objs.size + 1 := Heap.size_push ..
  have neI : t≠(s.heap.push (set0 led)).objs.size := by rw [z1]; exact Nat.ne_of_lt (Nat.lt_succ_of_lt ltT)
  have hout : s.heap.objs.size∉[(s.heap.push (set0 led)).objs.size,t] := by
    rw [z1]
    simp only [List.mem_cons,List.not_mem_nil,or_false,not_or]
    exact ⟨Nat.ne_of_lt (Nat.lt_succ_self _),Nat.ne_of_gt ltT⟩
  have hval : ∀ (i : Nat) (v : Value),items[i]? = some v→∃ tk,v = .int ((fun i => ns.getD i 0) i) tk := fun i v hv => IntsAre.int_at hi i v (by rw [Array.getElem?_toList]; exact hv)
  refine codeAny_set_update_loopS ((Walks.tuple (A := A.in1.in1) hh _ t neI items).toS) s.heap.objs.size hout (fun i => ns.getD i 0) hval hb (items.size - 0) 0 _ (by omega) (Nat.zero_le _) ⟨⟨_,Heap.get?_push_size _ rfl,rfl,rfl⟩,hT1.push _⟩ ?_ fun s' hm hS' => ?_
  · exact SetOf_congr ((setObjOf_fresh (knd := intKind prog w) led).setOf (Heap.get?_push_of_some _ hS) (by unfold scanBound; omega)) (fun _ => rfl) rfl
  · obtain ⟨h',g',d',tk',os'⟩ := s'
    obtain rfl : g' = s.gens := hm.gens
    obtain rfl : d' = s.drawn := hm.drawn
    obtain rfl : os' = s.os := hm.os
    show wpAny _ _ _ _ _ _
    refine wpAny_pure ?_
    show wpAny _ _ (ret Value.none) _ _ _
    refine wpAny_pure (hR h' tk' ⟨hS',fun b o hb2 e => ?_⟩)
    refine hm.heap b o ?_ (Heap.get?_push_of_some _ (Heap.get?_push_of_some _ e))
    rw [z1]
    simp only [List.mem_cons,List.not_mem_nil,or_false,not_or]
    exact ⟨Nat.ne_of_lt hb2,Nat.ne_of_lt (Nat.lt_succ_of_lt hb2)⟩
set_option maxHeartbeats 3200000 in
theorem zgD {t : Addr} {items : Array Value} {ns : List Int} {Q : Value→Shared→Prop} (hh : A.handled = none) (ht : s.heap.IsTuple t items) (hi : IntsAre items.toList ns) (hb : items.size + 1 < scanBound)
    (h : ∀ h' tk,zka prog w s ns items.size h'→Q (.ref s.heap.objs.size) { s with heap := h',toks := tk }) : wpAny (model prog w) A (call (.type "set") [.ref t]) Q E s := by
  obtain ⟨c,tl,hmro⟩ := F.called_set.mro
  have a1 := F.called_set.made
  have a2 := F.called_set.sub
  refine wpAny_call (codeAny_of_tree ?_)
  show wpAny _ _ (callAny (.type "set") _) _ _ _
  refine wpAny_pure ⟨Code.quiet_builtin _ (by decide +kernel),codeAny_builtin F.entry_type_call ?_⟩
  rw [Around.under_plain (weight_type_call_type "set" [.ref t] []) rfl]
  have a3 := F.called_set.notType
  have a4 := F.called_set.canCreate
  have a5 := F.typeCall_set_1 (.ref t)
  repeat (any_goals (first | assumption | wp_step))
  refine codeAny_mono (code_set_new_1 (.ref t) (E := E) (Q₁ := fun obj s₁ => ∃ led : Bool,obj = .ref s.heap.objs.size∧s₁ = { s with heap := s.heap.push (set0 led) }) fun led => ⟨led,rfl,rfl⟩) fun r s₁ hr => ?_
  cases r with
  | error e => exact hr
  | ok fl =>
    cases fl with
    | ret obj =>
      obtain ⟨led,rfl,rfl⟩ := hr
      have hT : Shared.TypeIs { s with heap := s.heap.push (set0 led) } (.ref s.heap.objs.size) "set" := ⟨_,Heap.get?_push_size _ rfl,rfl⟩
      have b1 := F.called_set.init.lookup
      have b2 := F.called_set.init.bind (.ref s.heap.objs.size)
      repeat (any_goals (first | assumption | wp_step))
      refine codeAny_mono (codeAny_call_builtin (R := wants (fun r s₂ => r = .none∧∃ h' tk,s₂ = { s with heap := h',toks := tk }∧zka prog w s ns items.size h') E) F.called_set.init.plain F.entry_set_init (check_set_init_1 hT ?_)) fun r₂ s₂ hr₂ => ?_
      · refine zgv (A := A.in1) (led := led) hh ht hi hb fun h2 tk he => ?_
        exact ⟨rfl,h2,tk,rfl,he⟩
      · cases r₂ with
        | error e => exact hr₂
        | ok fl₂ =>
          cases fl₂ with
          | ret r =>
            obtain ⟨rfl,h',tk,rfl,he⟩ := hr₂
            repeat (any_goals (first | assumption | wp_step))
            exact h _ _ he
          | _ => exact hr₂.elim
    | _ => exact hr.elim
end
end DL
end
section
namespace DL
open PySem PyProof.Rows PySem.W
noncomputable def zlE {α : Type} (c : Nat→Nat→Bool) : KasT α→α
  | .ret a => a
  | .ask i j k => zlE c (k (c i j))
inductive Asks (n : Nat) {α : Type} (P : α→Prop) : KasT α→Prop where
  | ret {a : α} : P a→Asks n P (.ret a)
  | ask {i j : Nat} {k : Bool→KasT α} : i < n→j < n→(∀ b,Asks n P (k b))→Asks n P (.ask i j k)
theorem Asks.bind {n : Nat} {α β : Type} {P : α→Prop} {P' : β→Prop} {t : KasT α} {f : α→KasT β} (h : Asks n P t) (hf : ∀ a,P a→Asks n P' (f a)) : Asks n P' (t.bind f) := by
  induction h with
  | ret h => exact hf _ h
  | ask h1 h2 _ ih => exact .ask h1 h2 ih
theorem Asks.run {n : Nat} {α : Type} {P : α→Prop} {t : KasT α} (h : Asks n P t) (c : Nat→Nat→Bool) : P (zlE c t) := by
  induction h with
  | ret h => exact h
  | ask _ _ _ ih => exact ih _
section
variable {n : Nat} (hn : 0 < n)
include hn
end
end DL
end
section
namespace DL
open PySem PyProof.Rows PySem.W PySem.Calls
section
variable {prog : Program} {w : World} {A : Around} {E : Value → Shared → Prop} {s : Shared}
end
end DL
end
section
namespace DL
open PySem PySem.Spec PyProof.Rows L2
inductive D where
  | non | bl (b : Bool) | int (i : Int) | str (x : Str)
  | tup (ds : List D) | lst (ds : List D)
  | dic (kvs : List (Key × D))
  | obj (c : Nat) (fs : List (Str × D))
instance : Inhabited D := ⟨.non⟩
inductive Res (α : Type) where
  | ok (a : α) | exc (x : D) | stuck
noncomputable def Res.bind {α β : Type} (r : Res α) (f : α→Res β) : Res β := match r with
  | .ok a => f a
  | .exc x => .exc x
  | .stuck => .stuck
@[simp] theorem bind_ok {α β : Type} (a : α) (f : α→Res β) : (Res.ok a).bind f = f a := rfl
@[simp] theorem bind_exc {α β : Type} (x : D) (f : α→Res β) : (Res.exc x : Res α).bind f = .exc x := rfl
@[simp] theorem bind_stuck {α β : Type} (f : α→Res β) : (Res.stuck : Res α).bind f = .stuck := rfl
noncomputable def fin {α : Type} (r : Res α) (q : α→Prop) (x : D→Prop) : Prop := match r with
  | .ok a => q a
  | .exc e => x e
  | .stuck => False
theorem zah {α : Type} {r : Res α} {q q' : α→Prop} {x : D→Prop} (h : fin r q x) (hq : ∀ a,q a→q' a) : fin r q' x := by
  cases r with
  | ok a => exact hq a h
  | exc e => exact h
  | stuck => exact h
theorem zag {α β : Type} {r : Res α} {f : α→Res β} {q : β→Prop} {x : D→Prop} (h : fin (r.bind f) q x) : fin r (fun a => fin (f a) q x) x := by
  cases r with
  | ok a => exact h
  | exc e => exact h
  | stuck => exact h
noncomputable abbrev GH := Addr→Option D
inductive Scl : V→D→Prop where
  | non : Scl .non .non
  | bl (b : Bool) : Scl (.bl b) (.bl b)
  | int (i : Int) : Scl (.int i) (.int i)
  | str (x : Str) : Scl (.str x) (.str x)
inductive KC (K : PySem.W.Frag) (a : Addr) : D→Prop where
  | lst {xs : List V} {ds : List D} : SqL K (fun _ => none) a xs→Paired Scl xs ds→KC K a (.lst ds)
  | tup {xs : List V} {ds : List D} : SqT K (fun _ => none) a xs→Paired Scl xs ds→(∃ o,K.lookup a = some o∧o.cls = .type "tuple"∧o.dict = none)→KC K a (.tup ds)
inductive RG (K : PySem.W.Frag) (G : GH) : V→D→Prop where
  | scl {v : V} {d : D} : Scl v d→RG K G v d
  | ref {a : Addr} {d : D} : G a = some d→RG K G (.ref a) d
  | kc {a : Addr} {d : D} : KC K a d→RG K G (.ref a) d
noncomputable abbrev RGs (K : PySem.W.Frag) (G : GH) : List V→List D→Prop := Paired (RG K G)
noncomputable abbrev RKs (K : PySem.W.Frag) (G : GH) : List (Key × V)→List (Key × D)→Prop := Paired fun p q => p.1 = q.1∧RG K G p.2 q.2
inductive OB (K : PySem.W.Frag) (G : GH) (H : Hp) (a : Addr) : D→Prop where
  | lst {xs : List V} {ds : List D} : Rd H a (.lst xs)→RGs K G xs ds→OB K G H a (.lst ds)
  | tup {xs : List V} {ds : List D} : Rd H a (.tup xs)→RGs K G xs ds→OB K G H a (.tup ds)
  | dic {ob : Obj} {ps : List (Key × V)} {kvs : List (Key × D)} : H a = some (.frz ob (.dK ps))→RKs K G ps kvs→OB K G H a (.dic kvs)
noncomputable def GOk (K : PySem.W.Frag) (G : GH) (H : Hp) : Prop := ∀ a d,G a = some d→OB K G H a d
inductive OwnO (K : PySem.W.Frag) (G : GH) (H : Hp) (a : Addr) : D→Prop where
  | lst {xs : List V} {ds : List D} : H a = some (.lst xs)→RGs K G xs ds→OwnO K G H a (.lst ds)
  | dic {ps : List (Key × V)} {kvs : List (Key × D)} : H a = some (.dK ps)→RKs K G ps kvs→OwnO K G H a (.dic kvs)
structure Own (K : PySem.W.Frag) (G : GH) (H : Hp) (a : Addr) (d : D) : Prop where
  un : G a = none
  ob : OwnO K G H a d
structure Grow (K : PySem.W.Frag) (G : GH) (H : Hp) (G' : GH) (H' : Hp) : Prop where
  ok : GOk K G' H'
  he : ∀ a o,H a = some o→H' a = some o
  ge : ∀ a d,G a = some d→G' a = some d
  gf : ∀ a,H a≠none→G' a = G a
section
variable {K : PySem.W.Frag} {G G' G1 G2 : GH} {H H' H1 H2 : Hp} {a p : Addr} {d : D} {v : V}
theorem Rd.isS {u : HO} (h : Rd H a u) : H a≠none := by
  rcases h with h | ⟨o,h⟩ <;> rw [h] <;> simp
theorem RG.mono (h : RG K G v d) (ge : ∀ a d,G a = some d→G' a = some d) : RG K G' v d := by
  cases h with
  | scl s => exact .scl s
  | ref e => exact .ref (ge _ _ e)
  | kc k => exact .kc k
theorem RGs.mono {xs : List V} {ds : List D} (h : RGs K G xs ds) (ge : ∀ a d,G a = some d→G' a = some d) : RGs K G' xs ds := Paired.mono (fun _ _ r => r.mono ge) h
theorem RKs.mono {xs : List (Key × V)} {ds : List (Key × D)} (h : RKs K G xs ds) (ge : ∀ a d,G a = some d→G' a = some d) : RKs K G' xs ds := Paired.mono (fun _ _ r => ⟨r.1,r.2.mono ge⟩) h
theorem OB.mono (h : OB K G H a d) (ge : ∀ a d,G a = some d→G' a = some d) (he : ∀ o,H a = some o→H' a = some o) : OB K G' H' a d := by
  have rd : ∀ {u : HO},Rd H a u→Rd H' a u := fun r => by
    rcases r with r | ⟨o,r⟩
    · exact .inl (he _ r)
    · exact .inr ⟨o,he _ r⟩
  cases h with
  | lst r s => exact .lst (rd r) (s.mono ge)
  | tup r s => exact .tup (rd r) (s.mono ge)
  | dic r s => exact .dic (he _ r) (RKs.mono s ge)
theorem OB.isS (h : OB K G H a d) : H a≠none := by
  cases h with
  | lst r s => exact Rd.isS r
  | tup r s => exact Rd.isS r
  | dic r s => rw [r]; simp
theorem GOk.isN (g : GOk K G H) (h : H p = none) : G p = none := by
  cases e : G p with
  | none => rfl
  | some d => exact absurd h (g p d e).isS
theorem OwnO.isS (h : OwnO K G H a d) : H a≠none := by
  cases h with
  | lst r s => rw [r]; simp
  | dic r s => rw [r]; simp
theorem OwnO.mono (h : OwnO K G H a d) (ge : ∀ a d,G a = some d→G' a = some d) (he : ∀ o,H a = some o→H' a = some o) : OwnO K G' H' a d := by
  cases h with
  | lst r s => exact .lst (he _ r) (s.mono ge)
  | dic r s => exact .dic (he _ r) (RKs.mono s ge)
theorem Own.mono (h : Own K G H a d) (w : Grow K G H G' H') : Own K G' H' a d :=
  ⟨by rw [w.gf a h.ob.isS]; exact h.un,h.ob.mono w.ge fun o e => w.he _ _ e⟩
noncomputable def fz (H : Hp) (a : Addr) (ob : Obj) : Hp := match H a with
  | some (.dK ps) => upd H a (.frz ob (.dK ps))
  | _ => H
theorem zjD {b : Addr} {ob : Obj} (h : b≠a) : fz H a ob b = H b := by
  unfold fz
  cases e : H a with
  | none => rfl
  | some u => cases u <;> first | rfl | exact zaC h
theorem zoA {xs : List V} {ob : Obj} (h : H a = some (.lst xs)) : fz H a ob = H := by
  unfold fz
  rw [h]
theorem zoB {ps : List (Key × V)} {ob : Obj} (h : H a = some (.dK ps)) : fz H a ob a = some (.frz ob (.dK ps)) := by
  unfold fz
  rw [h]; exact zar
theorem OwnO.fast (h : OwnO K G H a d) (ob : Obj) : OB K G (fz H a ob) a d := by
  cases h with
  | lst r s => rw [zoA r]; exact .lst (.inl r) s
  | dic r s => exact .dic (zoB r) s
theorem GOk.fast (g : GOk K G H) (hn : G a = none) (ob : Obj) : GOk K G (fz H a ob) := fun b d e => by
  have hb : b≠a := by rintro rfl; rw [hn] at e; cases e
  exact (g b d e).mono (fun _ _ z => z) fun o z => by rw [zjD hb]; exact z
theorem Grow.refl (g : GOk K G H) : Grow K G H G H := ⟨g,fun _ _ e => e,fun _ _ e => e,fun _ _ => rfl⟩
theorem Grow.trans (x : Grow K G H G1 H1) (y : Grow K G1 H1 G2 H2) : Grow K G H G2 H2 :=
  ⟨y.ok,fun a o e => y.he _ _ (x.he _ _ e),fun a d e => y.ge _ _ (x.ge _ _ e),fun a h => by
    have h1 : H1 a≠Option.none := by
      cases e : H a with
      | none => exact absurd e h
      | some o => rw [x.he _ _ e]; simp
    rw [y.gf a h1,x.gf a h]⟩
noncomputable def gset (G : GH) (a : Addr) (d : D) : GH := fun b => if b = a then some d else G b
theorem za7 : gset G a d a = some d := if_pos rfl
theorem zdG {b : Addr} (h : b≠a) : gset G a d b = G b := if_neg h
theorem zcw (hn : G a = none) : ∀ b e,G b = some e→gset G a d b = some e := fun b e h => by
  have : b≠a := by rintro rfl; rw [hn] at h; cases h
  rw [zdG this]; exact h
theorem GOk.gset (g : GOk K G H) (hn : G a = none) (o : OB K G H a d) : GOk K (gset G a d) H := fun b e h => by
  by_cases hb : b = a
  · subst hb; rw [za7] at h; cases h
    exact o.mono (zcw hn) fun _ q => q
  · rw [zdG hb] at h
    exact (g b e h).mono (zcw hn) fun _ q => q
theorem zli (hn : H p = none) {o : HO} : ∀ a u,H a = some u→upd H p o a = some u := fun a u e => by
  rw [zaC (zbC e hn)]; exact e
theorem Grow.new (g : GOk K G H) (hn : H p = none) (o : HO) : Grow K G H G (upd H p o) :=
  ⟨fun a d e => (g a d e).mono (fun _ _ q => q) fun u q => zli hn _ _ q,fun a u e => zli hn _ _ e,fun _ _ e => e,fun _ _ => rfl⟩
theorem Grow.newF (g : GOk K G H) (hn : H p = none) {o : HO} (ob : OB K G (upd H p o) p d) : Grow K G H (gset G p d) (upd H p o) := by
  have w := Grow.new g hn o
  have gn := g.isN hn
  exact ⟨w.ok.gset gn ob,w.he,fun a e h => zcw gn a e h,fun a h => zdG (by rintro rfl; exact h hn)⟩
theorem Grow.frz (w : Grow K G H G' H') (hn : H a = none) (o : Own K G' H' a d) (ob : Obj) : Grow K G H (gset G' a d) (fz H' a ob) :=
  ⟨(w.ok.fast o.un ob).gset o.un (o.ob.fast ob),fun b u e => by rw [zjD (by rintro rfl; rw [hn] at e; cases e)]; exact w.he b u e,fun b e h => zcw o.un b e (w.ge b e h),fun b h => by rw [zdG (by rintro rfl; exact h hn)]; exact w.gf b h⟩
theorem RG.lst {ds : List D} (g : GOk K G H) (h : RG K G v (.lst ds)) : ∃ a xs,v = .ref a∧SqL K H a xs∧RGs K G xs ds := by
  cases h with
  | scl s => cases s
  | ref e =>
    cases g _ _ e with
    | lst r s => exact ⟨_,_,rfl,.inl r,s⟩
  | kc k =>
    cases k with
    | lst r s =>
      refine ⟨_,_,rfl,?_,Paired.mono (fun _ _ z => .scl z) s⟩
      rcases r with (r | ⟨o,r⟩) | r
      · cases r
      · cases r
      · exact .inr r
theorem RG.tup {ds : List D} (g : GOk K G H) (h : RG K G v (.tup ds)) : ∃ a xs,v = .ref a∧SqT K H a xs∧RGs K G xs ds := by
  cases h with
  | scl s => cases s
  | ref e =>
    cases g _ _ e with
    | tup r s => exact ⟨_,_,rfl,.inl r,s⟩
  | kc k =>
    cases k with
    | tup r s _ =>
      refine ⟨_,_,rfl,?_,Paired.mono (fun _ _ z => .scl z) s⟩
      rcases r with (r | ⟨o,r⟩) | r
      · cases r
      · cases r
      · exact .inr r
theorem RG.dic {kvs : List (Key × D)} (g : GOk K G H) (h : RG K G v (.dic kvs)) : ∃ a ps,v = .ref a∧Rd H a (.dK ps)∧RKs K G ps kvs := by
  cases h with
  | scl s => cases s
  | ref e =>
    cases g _ _ e with
    | dic r s => exact ⟨_,_,rfl,.inr ⟨_,r⟩,s⟩
  | kc k => cases k
theorem RG.int {i : Int} (g : GOk K G H) (h : RG K G v (.int i)) : v = .int i := by
  cases h with
  | scl s => cases s; rfl
  | ref e => cases g _ _ e
  | kc k => cases k
theorem RG.str {x : Str} (g : GOk K G H) (h : RG K G v (.str x)) : v = .str x := by
  cases h with
  | scl s => cases s; rfl
  | ref e => cases g _ _ e
  | kc k => cases k
theorem RG.bl {b : Bool} (g : GOk K G H) (h : RG K G v (.bl b)) : v = .bl b := by
  cases h with
  | scl s => cases s; rfl
  | ref e => cases g _ _ e
  | kc k => cases k
theorem RG.non (g : GOk K G H) (h : RG K G v .non) : v = .non := by
  cases h with
  | scl s => cases s; rfl
  | ref e => cases g _ _ e
  | kc k => cases k
noncomputable def RB (K : PySem.W.Frag) (G : GH) (H : Hp) (v : V) (d : D) : Prop := RG K G v d∨∃ a,v = .ref a∧Own K G H a d
theorem RG.rb (h : RG K G v d) : RB K G H v d := .inl h
theorem RB.mono (h : RB K G H v d) (w : Grow K G H G' H') : RB K G' H' v d := by
  rcases h with h | ⟨a,e,h⟩
  · exact .inl (h.mono w.ge)
  · exact .inr ⟨a,e,h.mono w⟩
theorem RB.lst {ds : List D} (g : GOk K G H) (h : RB K G H v (.lst ds)) : ∃ a xs,v = .ref a∧SqL K H a xs∧RGs K G xs ds := by
  rcases h with h | ⟨a,e,h⟩
  · exact h.lst g
  · cases h.ob with
    | lst r s => exact ⟨a,_,e,SqL.of r,s⟩
theorem RB.tup {ds : List D} (g : GOk K G H) (h : RB K G H v (.tup ds)) : ∃ a xs,v = .ref a∧SqT K H a xs∧RGs K G xs ds := by
  rcases h with h | ⟨a,e,h⟩
  · exact h.tup g
  · cases h.ob
theorem RB.dic {kvs : List (Key × D)} (g : GOk K G H) (h : RB K G H v (.dic kvs)) : ∃ a ps,v = .ref a∧Rd H a (.dK ps)∧RKs K G ps kvs := by
  rcases h with h | ⟨a,e,h⟩
  · exact h.dic g
  · cases h.ob with
    | dic r s => exact ⟨a,_,e,.inl r,s⟩
theorem RB.int {i : Int} (g : GOk K G H) (h : RB K G H v (.int i)) : v = .int i := by
  rcases h with h | ⟨a,e,h⟩
  · exact h.int g
  · cases h.ob
theorem RB.str {x : Str} (g : GOk K G H) (h : RB K G H v (.str x)) : v = .str x := by
  rcases h with h | ⟨a,e,h⟩
  · exact h.str g
  · cases h.ob
theorem RB.bl {b : Bool} (g : GOk K G H) (h : RB K G H v (.bl b)) : v = .bl b := by
  rcases h with h | ⟨a,e,h⟩
  · exact h.bl g
  · cases h.ob
theorem RB.non (g : GOk K G H) (h : RB K G H v .non) : v = .non := by
  rcases h with h | ⟨a,e,h⟩
  · exact h.non g
  · cases h.ob
theorem Paired.get {α β : Type} {F : α→β→Prop} : ∀ {l : List α} {r : List β} {i : Nat} {b : β},Paired F l r→r[i]? = some b→∃ a,l[i]? = some a∧F a b
  | _,_,_,_,.nil,e => by simp at e
  | _,_,0,_,.cons h _,e => by simp at e; subst e; exact ⟨_,rfl,h⟩
  | _,_,i + 1,b,.cons _ t,e => by
    obtain ⟨a,h1,h2⟩ := Paired.get (i := i) t (by simpa using e)
    exact ⟨a,by simpa using h1,h2⟩
theorem Paired.app {α β : Type} {F : α→β→Prop} : ∀ {l l' : List α} {r r' : List β},Paired F l r→Paired F l' r'→Paired F (l++l') (r++r')
  | _,_,_,_,.nil,h => h
  | _,_,_,_,.cons h t,q => .cons h (Paired.app t q)
theorem Paired.tk {α β : Type} {F : α→β→Prop} : ∀ {l : List α} {r : List β} (n : Nat),Paired F l r→Paired F (l.take n) (r.take n)
  | _,_,0,_ => .nil
  | _,_,_ + 1,.nil => .nil
  | _,_,n + 1,.cons h t => .cons h (Paired.tk n t)
theorem Paired.dr {α β : Type} {F : α→β→Prop} : ∀ {l : List α} {r : List β} (n : Nat),Paired F l r→Paired F (l.drop n) (r.drop n)
  | _,_,0,h => h
  | _,_,_ + 1,.nil => .nil
  | _,_,n + 1,.cons _ t => Paired.dr n t
theorem Paired.st {α β : Type} {F : α→β→Prop} {a : α} {b : β} (h : F a b) : ∀ {l : List α} {r : List β} (n : Nat),Paired F l r→Paired F (l.set n a) (r.set n b)
  | _,_,_,.nil => .nil
  | _,_,0,.cons _ t => .cons h t
  | _,_,n + 1,.cons q t => .cons q (Paired.st h n t)
theorem Paired.er {α β : Type} {F : α→β→Prop} : ∀ {l : List α} {r : List β} (n : Nat),Paired F l r→Paired F (l.eraseIdx n) (r.eraseIdx n)
  | _,_,_,.nil => .nil
  | _,_,0,.cons _ t => t
  | _,_,n + 1,.cons q t => .cons q (Paired.er n t)
end
inductive Md where
  | sh | ow | bw
  deriving DecidableEq
noncomputable abbrev Rho := List (Option D)
structure GE where
  gh : GH
  h0 : Hp
  hd : Nat→Option (Option V × Option D)
noncomputable def Bw (K : PySem.W.Frag) (h0 : Hp) (G : GH) (H : Hp) (v : V) (d : D) : Prop := RG K G v d∨∃ a,v = V.ref a∧Own K G H a d∧h0 a≠none
theorem Bw.grow {K : PySem.W.Frag} {h0 : Hp} {G G' : GH} {H H' : Hp} {v : V} {d : D} (h : Bw K h0 G H v d) (w : Grow K G H G' H') : Bw K h0 G' H' v d := by
  rcases h with h | ⟨a,e,h1,h2⟩
  · exact .inl (h.mono w.ge)
  · exact .inr ⟨a,e,h1.mono w,h2⟩
theorem Bw.rb {K : PySem.W.Frag} {h0 : Hp} {G : GH} {H : Hp} {v : V} {d : D} (h : Bw K h0 G H v d) : RB K G H v d := by
  rcases h with h | ⟨a,e,h1,h2⟩
  · exact .inl h
  · exact .inr ⟨a,e,h1⟩
noncomputable def Lk (r : Rho) (st : L2.St) (i : Nat) (o : Option V × Option D) : Prop := st[i]? = some o.1∧∀ d,r[i]? = some (some d)→o.2 = some d
structure SI (X : Cx) (g : GE) (m : List Md) (r : Rho) (G : GH) (st : L2.St) (H : Hp) : Prop where
  gok : GOk X.K G H
  old : ∀ a o,g.h0 a = some o→H a = some o
  ge : ∀ a d,g.gh a = some d→G a = some d
  gf : ∀ a,g.h0 a≠none→G a = g.gh a
  lm : m.length = st.length
  lr : r.length = st.length
  sh : ∀ (i : Nat) d,r[i]? = some (some d)→m[i]? = some .sh→∃ v,st[i]? = some (some v)∧RG X.K G v d
  ow : ∀ (i : Nat) d,r[i]? = some (some d)→m[i]? = some .ow→∃ a,st[i]? = some (some (V.ref a))∧Own X.K G H a d∧g.h0 a = none
  bw : ∀ (i : Nat) d,r[i]? = some (some d)→m[i]? = some .bw→∃ v,st[i]? = some (some v)∧Bw X.K g.h0 G H v d
  dis : ∀ (i j : Nat) a d e,i≠j→r[i]? = some (some d)→r[j]? = some (some e)→m[i]? = some .ow→m[j]? = some .ow→st[i]? = some (some (V.ref a))→st[j]? = some (some (V.ref a))→False
  lk : ∀ (i : Nat) o,g.hd i = some o→m[i]? = some .bw→Lk r st i o
section
variable {X : Cx} {g : GE} {m : List Md} {r : Rho} {G G' : GH} {st : L2.St} {H H' : Hp}
theorem SI.grow (s : SI X g m r G st H) (w : Grow X.K G H G' H') : SI X g m r G' st H' where
  gok := w.ok
  old := fun a o e => w.he _ _ (s.old a o e)
  ge := fun a d e => w.ge _ _ (s.ge a d e)
  gf := fun a h => by
    have h1 : H a≠none := by
      cases e : g.h0 a with
      | none => exact absurd e h
      | some o => rw [s.old _ _ e]; simp
    rw [w.gf a h1,s.gf a h]
  lm := s.lm
  lr := s.lr
  sh := fun i d h1 h2 => by obtain ⟨v,h3,h4⟩ := s.sh i d h1 h2; exact ⟨v,h3,h4.mono w.ge⟩
  ow := fun i d h1 h2 => by obtain ⟨a,h3,h4,h5⟩ := s.ow i d h1 h2; exact ⟨a,h3,h4.mono w,h5⟩
  bw := fun i d h1 h2 => by obtain ⟨v,h3,h4⟩ := s.bw i d h1 h2; exact ⟨v,h3,h4.grow w⟩
  dis := s.dis
  lk := s.lk
theorem SI.grown (s : SI X g m r G st H) : Grow X.K g.gh g.h0 G H := ⟨s.gok,s.old,s.ge,s.gf⟩
theorem SI.frz (s : SI X g m r G st H) (i : Nat) (hi : m[i]? = some .ow) : (∃ G',(∀ a d,G a = some d→G' a = some d)∧SI X g (m.set i .sh) r G' st H)∨∃ a,∀ ob,∃ G',(∀ a d,G a = some d→G' a = some d)∧SI X g (m.set i .sh) r G' st (fz H a ob) := by
  have hlt : i < m.length := (List.getElem?_eq_some_iff.mp hi).1
  by_cases hb : ∃ d,r[i]? = some (some d)
  · obtain ⟨d,hd⟩ := hb
    obtain ⟨a,h1,h2,h3⟩ := s.ow i d hd hi
    refine .inr ⟨a,fun ob => ⟨gset G a d,zcw h2.un,(s.gok.fast h2.un ob).gset h2.un (h2.ob.fast ob),fun b o e => by rw [zjD (by rintro rfl; rw [h3] at e; cases e)]; exact s.old b o e,fun b e h => zcw h2.un b e (s.ge b e h),fun b h => ?_,by simpa using s.lm,s.lr,?_,?_,?_,?_,fun j o hj hm => ?_⟩⟩
    · rw [zdG (by rintro rfl; exact h h3)]; exact s.gf b h
    · intro j e hj hm
      by_cases hij : i = j
      · subst hij
        rw [hd] at hj; cases hj
        exact ⟨_,h1,.ref za7⟩
      · rw [List.getElem?_set_ne hij] at hm
        obtain ⟨v,q1,q2⟩ := s.sh j e hj hm
        exact ⟨v,q1,q2.mono (zcw h2.un)⟩
    · intro j e hj hm
      by_cases hij : i = j
      · subst hij
        rw [List.getElem?_set_self hlt] at hm; cases hm
      · rw [List.getElem?_set_ne hij] at hm
        obtain ⟨b,q1,q2,q3⟩ := s.ow j e hj hm
        have hba : b≠a := by
          rintro rfl
          exact s.dis i j b d e hij hd hj hi hm h1 q1
        exact ⟨b,q1,⟨by rw [zdG hba]; exact q2.un,q2.ob.mono (zcw h2.un) fun _ z => by rw [zjD hba]; exact z⟩,q3⟩
    · intro j e hj hm
      by_cases hij : i = j
      · subst hij
        rw [List.getElem?_set_self hlt] at hm; cases hm
      · rw [List.getElem?_set_ne hij] at hm
        obtain ⟨v,q1,q2⟩ := s.bw j e hj hm
        refine ⟨v,q1,?_⟩
        rcases q2 with q2 | ⟨b,rfl,q2,q3⟩
        · exact .inl (q2.mono (zcw h2.un))
        · have hba : b≠a := by rintro rfl; exact q3 h3
          exact .inr ⟨b,rfl,⟨by rw [zdG hba]; exact q2.un,q2.ob.mono (zcw h2.un) fun _ z => by rw [zjD hba]; exact z⟩,q3⟩
    · intro j k b e e' hjk hj hk hm hm' q1 q2
      have hij : i≠j := by
        rintro rfl
        rw [List.getElem?_set_self hlt] at hm; cases hm
      have hik : i≠k := by
        rintro rfl
        rw [List.getElem?_set_self hlt] at hm'; cases hm'
      rw [List.getElem?_set_ne hij] at hm
      rw [List.getElem?_set_ne hik] at hm'
      exact s.dis j k b e e' hjk hj hk hm hm' q1 q2
    · refine s.lk j o hj ?_
      by_cases hij : i = j
      · subst hij; rw [List.getElem?_set_self hlt] at hm; cases hm
      · rw [List.getElem?_set_ne hij] at hm; exact hm
  · refine .inl ⟨G,fun _ _ z => z,s.gok,s.old,s.ge,s.gf,by simpa using s.lm,s.lr,?_,?_,?_,?_,fun j o hj hm => ?_⟩
    · intro j e hj hm
      have hij : i≠j := by rintro rfl; exact hb ⟨e,hj⟩
      rw [List.getElem?_set_ne hij] at hm
      exact s.sh j e hj hm
    · intro j e hj hm
      have hij : i≠j := by rintro rfl; exact hb ⟨e,hj⟩
      rw [List.getElem?_set_ne hij] at hm
      exact s.ow j e hj hm
    · intro j e hj hm
      have hij : i≠j := by rintro rfl; exact hb ⟨e,hj⟩
      rw [List.getElem?_set_ne hij] at hm
      exact s.bw j e hj hm
    · intro j k b e e' hjk hj hk hm hm' q1 q2
      have hij : i≠j := by rintro rfl; exact hb ⟨e,hj⟩
      have hik : i≠k := by rintro rfl; exact hb ⟨e',hk⟩
      rw [List.getElem?_set_ne hij] at hm
      rw [List.getElem?_set_ne hik] at hm'
      exact s.dis j k b e e' hjk hj hk hm hm' q1 q2
    · refine s.lk j o hj ?_
      by_cases hij : i = j
      · subst hij; rw [List.getElem?_set_self hlt] at hm; cases hm
      · rw [List.getElem?_set_ne hij] at hm; exact hm
end
end DL
end
section
namespace DL
open PySem PySem.Spec PyProof.Rows L2
theorem PE.imp {X : Cx} {e : Expr} {t t' : TE} (h : PE X e t) (i : ∀ σ H Q,t' σ H Q→t σ H Q) : PE X e t' := fun pins s σ H Q I q => h pins s σ H Q I (i σ H Q q)
theorem PT.imp {X : Cx} {e : Expr} {t t' : TT} (h : PT X e t) (i : ∀ σ H Q,t' σ H Q→t σ H Q) : PT X e t' := fun pins s σ H Q I q => h pins s σ H Q I (i σ H Q q)
theorem PW.imp {X : Cx} {e : Expr} {t t' : TT} (h : PW X e t) (i : ∀ σ H Q,t' σ H Q→t σ H Q) : PW X e t' := fun whole pins s σ H Q I q => h whole pins s σ H Q I (i σ H Q q)
theorem PA.imp {X : Cx} {e : List Expr} {t t' : TA} (h : PA X e t) (i : ∀ σ H Q,t' σ H Q→t σ H Q) : PA X e t' := fun pos pins s σ H Q I q => h pos pins s σ H Q I (i σ H Q q)
theorem PS.imp {X : Cx} {e : Stmt} {t t' : TS} (h : PS X e t) (i : ∀ D σ H,t' D σ H→t D σ H) : PS X e t' := fun pins s σ H D I q => h pins s σ H D I (i D σ H q)
theorem PSs.imp {X : Cx} {e : List Stmt} {t t' : TS} (h : PSs X e t) (i : ∀ D σ H,t' D σ H→t D σ H) : PSs X e t' := fun pins s σ H D I q => h pins s σ H D I (i D σ H q)
noncomputable def ExV (_X : Cx) (_G : GH) (_H : Hp) (_e : Value) (_x : D) : Prop := False
noncomputable def XW (X : Cx) (σ : L2.St) (G : GH) (H : Hp) (x : D) : Prop := ∀ pins e s' G' H',Grow X.K G H G' H'→Inv X pins σ H' s'→ExV X G' H' e x→X.xe e s'
theorem XW.grow {X : Cx} {σ : L2.St} {G G1 : GH} {H H1 : Hp} {x : D} (h : XW X σ G H x) (w : Grow X.K G H G1 H1) : XW X σ G1 H1 x := fun pins e s' G' H' w' I q => h pins e s' G' H' (w.trans w') I q
noncomputable abbrev FE := Rho→Res D
noncomputable def tE (X : Cx) (g : GE) (m : List Md) (f : FE) : TE := fun σ H Q => ∃ r G,SI X g m r G σ H∧fin (f r) (fun d => ∀ v G' H',Grow X.K G H G' H'→RG X.K G' v d→Q v H') (XW X σ G H)
noncomputable def tB (X : Cx) (g : GE) (m : List Md) (f : FE) : TE := fun σ H Q => ∃ r G,SI X g m r G σ H∧fin (f r) (fun d => ∀ v G' H',Grow X.K G H G' H'→RB X.K G' H' v d→Q v H') (XW X σ G H)
noncomputable def tO (X : Cx) (g : GE) (m : List Md) (f : FE) : TE := fun σ H Q => ∃ r G,SI X g m r G σ H∧fin (f r) (fun d => ∀ a G' H',Grow X.K G H G' H'→H a = none→Own X.K G' H' a d→Q (.ref a) H') (XW X σ G H)
noncomputable def tQ (X : Cx) (g : GE) (m : List Md) (f : Rho→Res Bool) : TT := fun σ H Q => ∃ r G,SI X g m r G σ H∧fin (f r) (fun b => ∀ G' H',Grow X.K G H G' H'→Q b H') (XW X σ G H)
noncomputable def tL (X : Cx) (g : GE) (m : List Md) (f : Rho→Res (List D)) : TA := fun σ H Q => ∃ r G,SI X g m r G σ H∧fin (f r) (fun ds => ∀ vs G' H',Grow X.K G H G' H'→RGs X.K G' vs ds→Q vs H') (XW X σ G H)
noncomputable def tLB (X : Cx) (g : GE) (m : List Md) (f : Rho→Res (List D)) : TA := fun σ H Q => ∃ r G,SI X g m r G σ H∧fin (f r) (fun ds => ∀ vs G' H',Grow X.K G H G' H'→Paired (RB X.K G' H') vs ds→Q vs H') (XW X σ G H)
noncomputable def SE (X : Cx) (g : GE) (m : List Md) (e : Expr) (f : FE) : Prop := PE X e (tE X g m f)
noncomputable def SB (X : Cx) (g : GE) (m : List Md) (e : Expr) (f : FE) : Prop := PE X e (tB X g m f)
noncomputable def SO (X : Cx) (g : GE) (m : List Md) (e : Expr) (f : FE) : Prop := PE X e (tO X g m f)
noncomputable def SQ (X : Cx) (g : GE) (m : List Md) (e : Expr) (f : Rho→Res Bool) : Prop := PT X e (tQ X g m f)
noncomputable def SW (X : Cx) (g : GE) (m : List Md) (e : Expr) (f : Rho→Res Bool) : Prop := PW X e (tQ X g m f)
noncomputable def SA (X : Cx) (g : GE) (m : List Md) (es : List Expr) (f : Rho→Res (List D)) : Prop := PA X es (tL X g m f)
noncomputable def SAB (X : Cx) (g : GE) (m : List Md) (es : List Expr) (f : Rho→Res (List D)) : Prop := PA X es (tLB X g m f)
section
variable {X : Cx} {g : GE} {m : List Md} {e a b c : Expr} {f fa fb fc : FE} {pos : Pos}
theorem SE.toB (h : SE X g m e f) : SB X g m e f := PE.imp h fun σ H Q ⟨r,G,si,q⟩ => ⟨r,G,si,zah q fun d k v G' H' w z => k v G' H' w z.rb⟩
theorem Inv.fast {pins : List (Addr × Obj)} {σ : L2.St} {H : Hp} {s : Shared} (I : Inv X pins σ H s) (a : Addr) : ∃ ob,Inv X pins σ (fz H a ob) s := by
  cases e : H a with
  | none => exact ⟨{ cls := .none,data := .fields #[] },by unfold fz; rw [e]; exact I⟩
  | some u =>
    cases u with
    | dK ps =>
      obtain ⟨z1,z2,vs,z3,o,es,ep,z4,z5⟩ := (show zbe X.prog X.w H s.heap a (.dK ps) from I.hok a _ e)
      have ef : fz H a o = upd H a (.frz o (.dK ps)) := by unfold fz; rw [e]
      refine ⟨o,?_⟩
      rw [ef]
      exact I.write (t' := s.toks) (h' := s.heap) (x := a) (e := a) (by rw [e]; exact trivial) (.inl rfl) (fun b u _ q => q) ⟨o,z4⟩ (show zbe X.prog X.w _ s.heap a (.frz o (.dK ps)) from ⟨z4,z1,z2,vs,z3,o,es,ep,z4,z5⟩)
    | _ => exact ⟨{ cls := .none,data := .fields #[] },by unfold fz; rw [e]; exact I⟩
theorem SO.toE (h : SO X g m e f) : SE X g m e f := by
  intro pins s σ H Q I ⟨r,G,si,q⟩
  refine thn (h pins s σ H (fun v H' => ∃ a,v = .ref a∧∀ ob,Q v (fz H' a ob)) I ⟨r,G,si,zah q fun d k a G' H' w hn o => ⟨a,rfl,fun ob => k _ _ _ (w.frz hn o ob) (.ref za7)⟩⟩) fun u s' ⟨v,H',I',rv,a,_,z⟩ => ?_
  obtain ⟨ob,I2⟩ := Inv.fast I' a
  exact ⟨v,_,I2,rv,z ob⟩
theorem SO.toB (h : SO X g m e f) : SB X g m e f := h.toE.toB
theorem zfI {v : V} {d : D} (h : PE X e (tC v)) (s : Scl v d) : SE X g m e fun _ => .ok d :=
  PE.imp h fun σ H Q ⟨r,G,si,q⟩ => q v G H (Grow.refl si.gok) (.scl s)
theorem zap {i : Int} {j} : SE X g m (.Constant (.int i) j pos) fun _ => .ok (.int i) := zfI znT (.int i)
theorem s_bl {i : Bool} {j} : SE X g m (.Constant (.bool i) j pos) fun _ => .ok (.bl i) := zfI zpw (.bl i)
theorem zep {j} : SE X g m (.Constant .none j pos) fun _ => .ok .non := zfI znR .non
theorem zfG {i : Str} {j} : SE X g m (.Constant (.str i) j pos) fun _ => .ok (.str i) := zfI znO (.str i)
noncomputable def getV (r : Rho) (i : Nat) : Res D := match r[i]? with
  | some (some d) => .ok d
  | _ => .stuck
theorem zfS {r : Rho} {i : Nat} {q : D→Prop} {x : D→Prop} (h : fin (getV r i) q x) : ∃ d,r[i]? = some (some d)∧q d := by
  unfold getV at h
  split at h
  · rename_i d e; exact ⟨d,e,h⟩
  · exact h.elim
theorem zpg (i : Nat) {x : Str} (hm : m[i]? = some .sh) (hN : X.N[i]? = some x) (hv : Vis X.env.scope x) (hd : (x == ("__debug__" : Str)) = false := by decide) (hcd : (x == ("__classdict__" : Str)) = false := by decide) :
    SE X g m (.Name x pos) fun r => getV r i := by
  refine PE.imp (zgk hN hv hd hcd) fun σ H Q ⟨r,G,si,q⟩ => ?_
  obtain ⟨d,e,k⟩ := zfS q
  obtain ⟨v,e1,e2⟩ := si.sh i d e hm
  exact ⟨v,e1,k v G H (Grow.refl si.gok) e2⟩
theorem znp (i : Nat) {x : Str} (hm : i < m.length) (hN : X.N[i]? = some x) (hv : Vis X.env.scope x) (hd : (x == ("__debug__" : Str)) = false := by decide) (hcd : (x == ("__classdict__" : Str)) = false := by decide) :
    SB X g m (.Name x pos) fun r => getV r i := by
  refine PE.imp (zgk hN hv hd hcd) fun σ H Q ⟨r,G,si,q⟩ => ?_
  obtain ⟨d,e,k⟩ := zfS q
  have hm' : m[i]? = some m[i] := List.getElem?_eq_getElem hm
  cases h : m[i] with
  | sh =>
    obtain ⟨v,e1,e2⟩ := si.sh i d e (hm'.trans (by rw [h]))
    exact ⟨v,e1,k v G H (Grow.refl si.gok) e2.rb⟩
  | ow =>
    obtain ⟨v,e1,e2,_⟩ := si.ow i d e (hm'.trans (by rw [h]))
    exact ⟨_,e1,k _ G H (Grow.refl si.gok) (.inr ⟨v,rfl,e2⟩)⟩
  | bw =>
    obtain ⟨v,e1,e2⟩ := si.bw i d e (hm'.trans (by rw [h]))
    exact ⟨_,e1,k _ G H (Grow.refl si.gok) e2.rb⟩
theorem seq2 {β : Type} {k : D→D→Res β} {q : β→Prop} {R : V→V→Hp→Prop} {r : Rho} {G : GH} {σ : L2.St} {H : Hp} (si : SI X g m r G σ H)
    (h : fin ((fa r).bind fun d1 => (fb r).bind fun d2 => k d1 d2) q (XW X σ G H))
    (hk : ∀ d1 d2 v1 v2 G2 H2,Grow X.K G H G2 H2→RB X.K G2 H2 v1 d1→RB X.K G2 H2 v2 d2→fin (k d1 d2) q (XW X σ G H)→R v1 v2 H2) :
    tB X g m fa σ H fun v1 H1 => tB X g m fb σ H1 fun v2 H2 => R v1 v2 H2 := by
  refine ⟨r,G,si,zah (zag h) fun d1 h1 v1 G1 H1 w1 r1 => ⟨r,G1,si.grow w1,?_⟩⟩
  cases e : fb r with
  | ok d2 =>
    rw [e] at h1
    exact fun v2 G2 H2 w2 r2 => hk d1 d2 v1 v2 G2 H2 (w1.trans w2) (r1.mono w2) r2 h1
  | exc x =>
    rw [e] at h1
    exact (show XW X σ G H x from h1).grow w1
  | stuck =>
    rw [e] at h1
    exact h1
noncomputable def opt {α : Type} : Option α→Res α
  | some a => .ok a
  | none => .stuck
@[simp] theorem opt_some {α : Type} (a : α) : opt (some a) = .ok a := rfl
@[simp] theorem opt_none {α : Type} : opt (none : Option α) = .stuck := rfl
theorem zav {α : Type} {o : Option α} {q : α→Prop} {x : D→Prop} (h : fin (opt o) q x) : ∃ a,o = some a∧q a := by
  cases o with
  | none => exact h.elim
  | some a => exact ⟨a,rfl,h⟩
noncomputable def OpD (K : PySem.W.Frag) (r : R2) (k : D→D→Option D) : Prop := ∀ (G : GH) (H : Hp) (v1 v2 : V) (d1 d2 d : D) (Q : VK),GOk K G H→RB K G H v1 d1→RB K G H v2 d2→k d1 d2 = some d →
  (∀ v G' H',Grow K G H G' H'→RG K G' v d→Q v H')→r v1 v2 H Q
noncomputable def f2 (fa fb : FE) (k : D→D→Option D) : FE := fun r => (fa r).bind fun d1 => (fb r).bind fun d2 => opt (k d1 d2)
theorem zl2 {R : R2} {k : D→D→Option D} (ho : OpD X.K R k) (h : PE X e (tOp R (tB X g m fa) (tB X g m fb))) : SE X g m e (f2 fa fb k) := by
  refine PE.imp h fun σ H Q ⟨r,G,si,q⟩ => ?_
  refine seq2 si q fun d1 d2 v1 v2 G2 H2 w r1 r2 q2 => ?_
  obtain ⟨d,e,q2⟩ := zav q2
  exact ho G2 H2 v1 v2 d1 d2 d Q w.ok r1 r2 e fun v G' H' w' z => q2 v G' H' (w.trans w') z
theorem zgT {op : Operator} {R : R2} {k : D→D→Option D} (hr : OpR X (binaryOp op) R) (ho : OpD X.K R k) (ha : SB X g m a fa) (hb : SB X g m b fb) : SE X g m (.BinOp a op b pos) (f2 fa fb k) := zl2 ho (zpu hr ha hb)
theorem zl3 {op : CmpOp} {R : R2} {k : D→D→Option D} (hr : OpR X (compareOp op) R) (ho : OpD X.K R k) (ha : SB X g m a fa) (hb : SB X g m b fb) (hm : behindInMarks op b = false) : SE X g m (.Compare a [op] [b] pos) (f2 fa fb k) := zl2 ho (zmh hr ha hb hm)
noncomputable def asB : D→Option Bool
  | .bl b => some b
  | _ => none
noncomputable def zaq (f : FE) : Rho→Res Bool := fun r => (f r).bind fun d => opt (asB d)
theorem zgh {op : CmpOp} {R : R2} {k : D→D→Option D} (hr : OpR X (compareOp op) R) (ho : OpD X.K R k) (ha : SB X g m a fa) (hb : SB X g m b fb) (hm : behindInMarks op b = false) : SQ X g m (.Compare a [op] [b] pos) (zaq (f2 fa fb k)) := by
  refine PT.imp (zl9 hr ha hb hm) fun σ H Q ⟨r,G,si,q⟩ => ?_
  have e : zaq (f2 fa fb k) r = (fa r).bind fun d1 => (fb r).bind fun d2 => (opt (k d1 d2)).bind fun d => opt (asB d) := by
    unfold zaq f2
    cases fa r with
    | ok d1 => cases fb r <;> rfl
    | exc _ => rfl
    | stuck => rfl
  rw [e] at q
  refine seq2 (R := fun x y H2 => R x y H2 fun x H' => ∃ k,x = V.bl k∧Q k H') si q fun d1 d2 v1 v2 G2 H2 w r1 r2 q3 => ?_
  obtain ⟨d,e,q3⟩ := zav (zag q3)
  obtain ⟨b,eb,q3⟩ := zav q3
  cases d with
  | bl b' =>
    cases eb
    exact ho G2 H2 v1 v2 d1 d2 _ _ w.ok r1 r2 e fun v G' H' w' z => ⟨_,z.bl w'.ok,q3 G' H' (w.trans w')⟩
  | _ => cases eb
end
end DL
end
section
namespace DL
open PySem PySem.Spec PyProof.Rows L2
instance decMul (i j : Int) : Decidable (CMul i j) := by unfold CMul; infer_instance
instance decDiv (i j : Int) : Decidable (CDiv i j) := by unfold CDiv; infer_instance
instance decPow (i j : Int) : Decidable (CPow i j) := by unfold CPow; infer_instance
noncomputable def zg1 (k : Int→Int→D) : D→D→Option D
  | .int a,.int b => some (k a b)
  | _,_ => none
noncomputable def zgu (C : Int→Int→Prop) [∀ a b,Decidable (C a b)] (k : Int→Int→D) : D→D→Option D
  | .int a,.int b => if C a b then some (k a b) else none
  | _,_ => none
@[simp] theorem ints2_int (k : Int→Int→D) (a b : Int) : zg1 k (.int a) (.int b) = some (k a b) := rfl
@[simp] theorem intsC_int (C : Int→Int→Prop) [∀ a b,Decidable (C a b)] (k : Int→Int→D) (a b : Int) : zgu C k (.int a) (.int b) = if C a b then some (k a b) else none := rfl
section
variable {K : PySem.W.Frag}
theorem zd6 {gv : Int→Int→V} {gd : Int→Int→D} (hs : ∀ i j,Scl (gv i j) (gd i j)) : OpD K (rI0 gv) (zg1 gd) := by
  intro G H v1 v2 d1 d2 d Q g r1 r2 e q
  unfold zg1 at e
  split at e
  · cases e
    exact ⟨_,_,r1.int g,r2.int g,q _ G H (Grow.refl g) (.scl (hs _ _))⟩
  · cases e
theorem zeA {C : Int→Int→Prop} [∀ a b,Decidable (C a b)] {gv : Int→Int→V} {gd : Int→Int→D} (hs : ∀ i j,Scl (gv i j) (gd i j)) : OpD K (rI C gv) (zgu C gd) := by
  intro G H v1 v2 d1 d2 d Q g r1 r2 e q
  unfold zgu at e
  split at e
  · split at e
    · rename_i hc
      cases e
      exact ⟨_,_,r1.int g,r2.int g,hc,q _ G H (Grow.refl g) (.scl (hs _ _))⟩
    · cases e
  · cases e
end
noncomputable abbrev subI : D→D→Option D := zg1 fun a b => .int (a - b)
noncomputable abbrev mulI : D→D→Option D := zgu CMul fun a b => .int (a * b)
noncomputable abbrev zha : D→D→Option D := zgu CDiv fun a b => .int (a / b)
noncomputable abbrev modI : D→D→Option D := zgu (fun _ b => 0 < b) fun a b => .int (a % b)
noncomputable abbrev powI : D→D→Option D := zgu CPow fun a b => .int (a ^ b.toNat)
noncomputable abbrev ltI : D→D→Option D := zg1 fun a b => .bl (decide (a < b))
noncomputable abbrev leI : D→D→Option D := zg1 fun a b => .bl (decide (a≤b))
noncomputable abbrev gtI : D→D→Option D := zg1 fun a b => .bl (decide (b < a))
section
variable {X : Cx} {g : GE} {m : List Md} {e a b c : Expr} {f fa fb fc : FE} {pos : Pos}
theorem zph (ha : SB X g m a fa) (hb : SB X g m b fb) : SE X g m (.BinOp a .Sub b pos) (f2 fa fb subI) := zgT znX (zd6 fun _ _ => .int _) ha hb
theorem zgd (ha : SB X g m a fa) (hb : SB X g m b fb) : SE X g m (.BinOp a .Mult b pos) (f2 fa fb mulI) := zgT znZ (zeA fun _ _ => .int _) ha hb
theorem ziA (ha : SB X g m a fa) (hb : SB X g m b fb) : SE X g m (.BinOp a .FloorDiv b pos) (f2 fa fb zha) := zgT zmp (zeA fun _ _ => .int _) ha hb
theorem zeM (ha : SB X g m a fa) (hb : SB X g m b fb) : SE X g m (.BinOp a .Mod b pos) (f2 fa fb modI) := zgT zn0 (zeA fun _ _ => .int _) ha hb
theorem zpi (ha : SB X g m a fa) (hb : SB X g m b fb) : SE X g m (.BinOp a .Pow b pos) (f2 fa fb powI) := zgT znY (zeA fun _ _ => .int _) ha hb
theorem s_lt (ha : SB X g m a fa) (hb : SB X g m b fb) : SE X g m (.Compare a [.Lt] [b] pos) (f2 fa fb ltI) := zl3 zmo (zd6 fun _ _ => .bl _) ha hb (zdV _)
theorem q_lt (ha : SB X g m a fa) (hb : SB X g m b fb) : SQ X g m (.Compare a [.Lt] [b] pos) (zaq (f2 fa fb ltI)) := zgh zmo (zd6 fun _ _ => .bl _) ha hb (zdV _)
theorem q_gt (ha : SB X g m a fa) (hb : SB X g m b fb) : SQ X g m (.Compare a [.Gt] [b] pos) (zaq (f2 fa fb gtI)) := zgh zpA (zd6 fun _ _ => .bl _) ha hb (zdV _)
noncomputable def f1 (fa : FE) (k : D→Option D) : FE := fun r => (fa r).bind fun d => opt (k d)
noncomputable def negI : D→Option D
  | .int a => some (.int (-a))
  | _ => none
@[simp] theorem negI_int (a : Int) : negI (.int a) = some (.int (-a)) := rfl
theorem zpl (ha : SB X g m a fa) : SE X g m (.UnaryOp .USub a pos) (f1 fa negI) := by
  refine PE.imp (zpt zm8 ha) fun σ H Q ⟨r,G,si,q⟩ => ⟨r,G,si,zah (zag q) fun d q1 v G1 H1 w1 r1 => ?_⟩
  obtain ⟨d',e,q2⟩ := zav q1
  cases d with
  | int i =>
    cases e
    exact ⟨i,r1.int w1.ok,q2 _ G1 H1 w1 (.scl (.int _))⟩
  | _ => cases e
noncomputable def truD : D→Option Bool
  | .non => some false
  | .bl b => some b
  | .int i => some (i != 0)
  | .str y => if y.length≤sizeLine then some ((y.length : Int) != 0) else none
  | .lst ds => some (!ds.isEmpty)
  | .tup ds => some (!ds.isEmpty)
  | .dic kvs => some (!kvs.isEmpty)
  | .obj _ _ => none
theorem zeY {α β : Type} {F : α→β→Prop} {l : List α} {r : List β} (h : Paired F l r) : l.isEmpty = r.isEmpty := by cases h <;> rfl
theorem zlT {K : PySem.W.Frag} {G : GH} {H : Hp} {v : V} {d : D} {b : Bool} (gk : GOk K G H) (h : RB K G H v d) (e : truD d = some b) : TruV K v H b := by
  cases d with
  | non => cases e; rw [h.non gk]; rfl
  | bl b' => cases e; rw [h.bl gk]; rfl
  | int i => cases e; rw [h.int gk]; rfl
  | str y =>
    rw [h.str gk]
    have e' : (if y.length≤sizeLine then some ((y.length : Int) != 0) else none) = some b := e
    by_cases hy : y.length≤sizeLine
    · rw [if_pos hy] at e'; cases e'; exact ⟨hy,rfl⟩
    · rw [if_neg hy] at e'; cases e'
  | lst ds =>
    cases e
    obtain ⟨a,xs,rfl,s,r⟩ := h.lst gk
    exact .inl ⟨xs,s,by rw [zeY r]⟩
  | tup ds =>
    cases e
    obtain ⟨a,xs,rfl,s,r⟩ := h.tup gk
    exact .inr (.inl ⟨xs,s,by rw [zeY r]⟩)
  | dic kvs =>
    cases e
    obtain ⟨a,xs,rfl,s,r⟩ := h.dic gk
    exact .inr (.inr ⟨xs,s,by rw [zeY r]⟩)
  | obj _ _ => cases e
noncomputable def fTru (f : FE) : Rho→Res Bool := fun r => (f r).bind fun d => opt (truD d)
theorem zeQ (ha : SB X g m a fa) (he : ∀ whole,isTrue a X.env whole = (do let v ← whole; standAt a.pos; holding [v] (truthy v)) := by intro _; rfl) : SQ X g m a (fTru fa) := by
  refine PT.imp (zkv ha he) fun σ H Q ⟨r,G,si,q⟩ => ⟨r,G,si,zah (zag q) fun d q1 v G1 H1 w1 r1 => ?_⟩
  obtain ⟨b,e,q2⟩ := zav q1
  exact ⟨b,zlT w1.ok r1 e,q2 G1 H1 w1⟩
noncomputable abbrev FQ := Rho→Res Bool
noncomputable def fAnd (p q : FQ) : FQ := fun r => (p r).bind fun c => if c = true then q r else .ok false
noncomputable def fOr (p q : FQ) : FQ := fun r => (p r).bind fun c => if c = true then .ok true else q r
noncomputable def fNot (p : FQ) : FQ := fun r => (p r).bind fun c => .ok (!c)
variable {p q : FQ} {rest : List Expr}
theorem zpS {α : Type} {r : Res α} {q : α→Prop} {x x' : D→Prop} (h : fin r q x) (hx : ∀ e,x e→x' e) : fin r q x' := by
  cases r with
  | ok a => exact h
  | exc e => exact hx e h
  | stuck => exact h
theorem zaO {α : Type} {r : Res α} {σ : L2.St} {G G1 : GH} {H H1 : Hp} {P P' : α→Prop} (h : fin r P (XW X σ G H)) (w : Grow X.K G H G1 H1) (hp : ∀ a,P a→P' a) : fin r P' (XW X σ G1 H1) := zpS (zah h hp) fun _ x => x.grow w
theorem zfp (ha : SQ X g m a p) : SW X g m (.BoolOp .And [a] pos) p := zl8 ha
theorem zh3 (ha : SQ X g m a p) : SW X g m (.BoolOp .Or [a] pos) p := znE ha
theorem zh4 (ha : SQ X g m a p) (hb : SW X g m (.BoolOp .And (b::rest) pos) q) : SW X g m (.BoolOp .And (a::b::rest) pos) (fAnd p q) := by
  refine PW.imp (znF ha hb) fun σ H Q ⟨r,G,si,k⟩ => ⟨r,G,si,zah (zag k) fun c k1 G1 H1 w1 => ?_⟩
  cases c with
  | true => rw [if_pos rfl] at k1 ⊢; exact ⟨r,G1,si.grow w1,zaO k1 w1 fun b z G' H' w' => z G' H' (w1.trans w')⟩
  | false => rw [if_neg Bool.false_ne_true] at k1 ⊢; exact k1 G1 H1 w1
theorem q_or (ha : SQ X g m a p) (hb : SW X g m (.BoolOp .Or (b::rest) pos) q) : SW X g m (.BoolOp .Or (a::b::rest) pos) (fOr p q) := by
  refine PW.imp (zpq ha hb) fun σ H Q ⟨r,G,si,k⟩ => ⟨r,G,si,zah (zag k) fun c k1 G1 H1 w1 => ?_⟩
  cases c with
  | true => rw [if_pos rfl] at k1 ⊢; exact k1 G1 H1 w1
  | false => rw [if_neg Bool.false_ne_true] at k1 ⊢; exact ⟨r,G1,si.grow w1,zaO k1 w1 fun b z G' H' w' => z G' H' (w1.trans w')⟩
theorem SW.toQ (h : SW X g m e p) : SQ X g m e p := PW.pt h
theorem zgg (ha : SQ X g m a p) : SQ X g m (.UnaryOp .Not a pos) (fNot p) :=
  PT.imp (znH ha) fun σ H Q ⟨r,G,si,k⟩ => ⟨r,G,si,zah (zag k) fun c k1 G1 H1 w1 => k1 G1 H1 w1⟩
noncomputable def vAnd (fa fb : FE) : FE := fun r => (fa r).bind fun d => (opt (asB d)).bind fun c => if c = true then fb r else .ok (.bl false)
noncomputable def vOr (fa fb : FE) : FE := fun r => (fa r).bind fun d => (opt (asB d)).bind fun c => if c = true then .ok (.bl true) else fb r
noncomputable def vNot (fa : FE) : FE := fun r => (fa r).bind fun d => (opt (asB d)).bind fun c => .ok (.bl (!c))
theorem zpj {op} (h : SE X g m a fa) : SE X g m (.BoolOp op [a] pos) fa := znP h
theorem znu (ha : SE X g m a fa) (hb : SE X g m (.BoolOp .And (b::rest) pos) fb) : SE X g m (.BoolOp .And (a::b::rest) pos) (vAnd fa fb) := by
  refine PE.imp (znV ha hb) fun σ H Q ⟨r,G,si,k⟩ => ⟨r,G,si,zah (zag k) fun d k1 v G1 H1 w1 r1 => ?_⟩
  obtain ⟨c,e,k2⟩ := zav (zag k1)
  cases d with
  | bl c' =>
    cases e
    refine ⟨_,r1.bl w1.ok,?_⟩
    cases c with
    | true => rw [if_pos rfl] at k2 ⊢; exact ⟨r,G1,si.grow w1,zaO k2 w1 fun b z v G' H' w' => z v G' H' (w1.trans w')⟩
    | false => rw [if_neg Bool.false_ne_true] at k2 ⊢; exact k2 _ G1 H1 w1 (.scl (.bl _))
  | _ => cases e
theorem zpk (ha : SE X g m a fa) : SE X g m (.UnaryOp .Not a pos) (vNot fa) := by
  refine PE.imp (znQ ha) fun σ H Q ⟨r,G,si,k⟩ => ⟨r,G,si,zah (zag k) fun d k1 v G1 H1 w1 r1 => ?_⟩
  obtain ⟨c,e,k2⟩ := zav (zag k1)
  cases d with
  | bl c' => cases e; exact ⟨_,r1.bl w1.ok,k2 _ G1 H1 w1 (.scl (.bl _))⟩
  | _ => cases e
noncomputable def fIf (p : FQ) (fa fb : FE) : FE := fun r => (p r).bind fun c => if c = true then fa r else fb r
theorem znq (hc : SQ X g m c p) (ha : SE X g m a fa) (hb : SE X g m b fb) : SE X g m (.IfExp c a b pos) (fIf p fa fb) := by
  refine PE.imp (zkB hc ha hb) fun σ H Q ⟨r,G,si,k⟩ => ⟨r,G,si,zah (zag k) fun c k1 G1 H1 w1 => ?_⟩
  cases c with
  | true => rw [if_pos rfl] at k1 ⊢; exact ⟨r,G1,si.grow w1,zaO k1 w1 fun b z v G' H' w' => z v G' H' (w1.trans w')⟩
  | false => rw [if_neg Bool.false_ne_true] at k1 ⊢; exact ⟨r,G1,si.grow w1,zaO k1 w1 fun b z v G' H' w' => z v G' H' (w1.trans w')⟩
variable {es : List Expr} {fl fr : Rho → Res (List D)}
noncomputable def lNil : Rho→Res (List D) := fun _ => .ok []
noncomputable def zab (fa : FE) (fl : Rho→Res (List D)) : Rho→Res (List D) := fun r => (fa r).bind fun d => (fl r).bind fun ds => .ok (d::ds)
theorem zbA : SA X g m [] lNil := PA.imp zdy fun σ H Q ⟨r,G,si,k⟩ => k [] G H (Grow.refl si.gok) .nil
theorem zaJ (ha : SE X g m e fa) (hr : SA X g m es fl) (hs : starEach (e::es) X.env = (false,eval e X.env)::starEach es X.env := by rfl) : SA X g m (e::es) (zab fa fl) := by
  refine PA.imp (zbB ha hr hs) fun σ H Q ⟨r,G,si,k⟩ => ⟨r,G,si,zah (zag k) fun d k1 v G1 H1 w1 r1 => ⟨r,G1,si.grow w1,?_⟩⟩
  exact zaO (zag k1) w1 fun ds z vs G2 H2 w2 r2 => z (v::vs) G2 H2 (w1.trans w2) (.cons (r1.mono w2.ge) r2)
theorem zaE : SAB X g m [] lNil := PA.imp zdy fun σ H Q ⟨r,G,si,k⟩ => k [] G H (Grow.refl si.gok) .nil
theorem zao (ha : SB X g m e fa) (hr : SAB X g m es fl) (hs : starEach (e::es) X.env = (false,eval e X.env)::starEach es X.env := by rfl) : SAB X g m (e::es) (zab fa fl) := by
  refine PA.imp (zbB ha hr hs) fun σ H Q ⟨r,G,si,k⟩ => ⟨r,G,si,zah (zag k) fun d k1 v G1 H1 w1 r1 => ⟨r,G1,si.grow w1,?_⟩⟩
  exact zaO (zag k1) w1 fun ds z vs G2 H2 w2 r2 => z (v::vs) G2 H2 (w1.trans w2) (.cons (r1.mono w2) r2)
noncomputable def sz (ds : List D) : Option (List D) := if ds.length≤sizeLine then some ds else none
theorem zlV {ds ds' : List D} (h : sz ds = some ds') : ds' = ds∧ds.length≤sizeLine := by
  unfold sz at h; split at h
  · rename_i hl; cases h; exact ⟨rfl,hl⟩
  · cases h
theorem zpe {ds : List D} (h : ds.length≤sizeLine) : sz ds = some ds := if_pos h
noncomputable def mkT (fl : Rho→Res (List D)) : FE := fun r => (fl r).bind fun ds => (opt (sz ds)).bind fun ds => .ok (.tup ds)
noncomputable def mkL (fl : Rho→Res (List D)) : FE := fun r => (fl r).bind fun ds => (opt (sz ds)).bind fun ds => .ok (.lst ds)
theorem zfF {x1} (h : SA X g m es fl) : SE X g m (.Tuple es x1 pos) (mkT fl) := by
  refine PE.imp (znN h) fun σ H Q ⟨r,G,si,k⟩ => ⟨r,G,si,zah (zag k) fun ds k1 vs G1 H1 w1 r1 => ?_⟩
  obtain ⟨ds',e,k2⟩ := zav (zag k1)
  obtain ⟨rfl,hl⟩ := zlV e
  have hlen := Paired.length r1
  refine ⟨by omega,fun p hp => ?_⟩
  exact k2 _ _ _ (w1.trans (Grow.newF (d := .tup ds') w1.ok hp (.tup (.inl zar) r1))) (.ref za7)
theorem zfh (h : SA X g m es fl) : SO X g m (.List es pos) (mkL fl) := by
  refine PE.imp (znS h) fun σ H Q ⟨r,G,si,k⟩ => ⟨r,G,si,zah (zag k) fun ds k1 vs G1 H1 w1 r1 => ?_⟩
  obtain ⟨ds',e,k2⟩ := zav (zag k1)
  obtain ⟨rfl,hl⟩ := zlV e
  have hlen := Paired.length r1
  refine ⟨by omega,fun p hp => ?_⟩
  have hn : H p = none := by
    cases q : H p with
    | none => rfl
    | some o => rw [w1.he _ _ q] at hp; cases hp
  exact k2 p G1 _ (w1.trans (Grow.new w1.ok hp _)) hn ⟨w1.ok.isN hp,.lst zar r1⟩
end
end DL
end
section
namespace DL
open PySem PySem.Spec PyProof.Rows L2
noncomputable def zle (K : PySem.W.Frag) (r : List V→Hp→VK→Prop) (k : List D→Option D) : Prop := ∀ (G : GH) (H : Hp) (vs : List V) (ds : List D) (d : D) (Q : VK),GOk K G H→Paired (RB K G H) vs ds→k ds = some d →
  (∀ v G' H',Grow K G H G' H'→RG K G' v d→Q v H')→r vs H Q
noncomputable def zo0 (K : PySem.W.Frag) (r : List V→Hp→VK→Prop) (k : List D→Option D) : Prop := ∀ (G : GH) (H : Hp) (vs : List V) (ds : List D) (d : D) (Q : VK),GOk K G H→Paired (RB K G H) vs ds→k ds = some d →
  (∀ a G' H',Grow K G H G' H'→H a = none→Own K G' H' a d→Q (.ref a) H')→r vs H Q
noncomputable def fC (fl : Rho→Res (List D)) (k : List D→Option D) : FE := fun r => (fl r).bind fun ds => opt (k ds)
theorem Grow.back {K : PySem.W.Frag} {G G1 : GH} {H H1 : Hp} (w : Grow K G H G1 H1) {a : Addr} (hn : H1 a = none) : H a = none := by
  cases q : H a with
  | none => rfl
  | some o => rw [w.he _ _ q] at hn; cases hn
section
variable {X : Cx} {g : GE} {m : List Md} {e a b c : Expr} {f fa fb fc : FE} {pos p p2 : Pos} {es : List Expr} {fl : Rho → Res (List D)} {x : Str} {id T : String} {R : List V → Hp → VK → Prop} {k : List D → Option D}
theorem s_cb (hk : zle X.K R k) (h : PE X e (tCB R (tLB X g m fl))) : SE X g m e (fC fl k) := by
  refine PE.imp h fun σ H Q ⟨r,G,si,q⟩ => ⟨r,G,si,zah (zag q) fun ds q1 vs G1 H1 w1 r1 => ?_⟩
  obtain ⟨d,e,q2⟩ := zav q1
  exact hk G1 H1 vs ds d Q w1.ok r1 e fun v G' H' w' z => q2 v G' H' (w1.trans w') z
theorem zpn (hk : zo0 X.K R k) (h : PE X e (tCB R (tLB X g m fl))) : SO X g m e (fC fl k) := by
  refine PE.imp h fun σ H Q ⟨r,G,si,q⟩ => ⟨r,G,si,zah (zag q) fun ds q1 vs G1 H1 w1 r1 => ?_⟩
  obtain ⟨d,e,q2⟩ := zav q1
  exact hk G1 H1 vs ds d Q w1.ok r1 e fun v G' H' w' hn z => q2 v G' H' (w1.trans w') (w1.back hn) z
noncomputable def lenD : List D→Option D
  | [.str y] => if y.length≤sizeLine then some (.int y.length) else none
  | [.lst ds] => some (.int ds.length)
  | [.tup ds] => some (.int ds.length)
  | [.dic kvs] => some (.int kvs.length)
  | _ => none
theorem zoe {K : PySem.W.Frag} : zle K (fun xs H Q => (∃ x n,xs = [x]∧LenV K x H n∧Q (.int n) H)∨∃ a kvs,xs = [V.ref a]∧Rd H a (.dK kvs)∧Q (.int kvs.length) H) lenD := by
  intro G H vs ds d Q gk rs e q
  unfold lenD at e
  split at e
  · split at e
    · cases e
      cases rs with
      | cons r t => cases t; exact .inl ⟨_,_,rfl,by rw [r.str gk]; exact ⟨by assumption,rfl⟩,q _ G H (Grow.refl gk) (.scl (.int _))⟩
    · cases e
  · cases e
    cases rs with
    | cons r t =>
      cases t
      obtain ⟨a,xs,rfl,s,r⟩ := r.lst gk
      have := Paired.length r
      exact .inl ⟨_,_,rfl,.inl ⟨xs,s,rfl⟩,q _ G H (Grow.refl gk) (.scl (by rw [this]; exact .int _))⟩
  · cases e
    cases rs with
    | cons r t =>
      cases t
      obtain ⟨a,xs,rfl,s,r⟩ := r.tup gk
      have := Paired.length r
      exact .inl ⟨_,_,rfl,.inr ⟨xs,s,rfl⟩,q _ G H (Grow.refl gk) (.scl (by rw [this]; exact .int _))⟩
  · cases e
    cases rs with
    | cons r t =>
      cases t
      obtain ⟨a,xs,rfl,s,r⟩ := r.dic gk
      have := Paired.length r
      exact .inr ⟨_,_,rfl,s,q _ G H (Grow.refl gk) (.scl (by rw [this]; exact .int _))⟩
  · cases e
theorem zb3 (hg : Gl X "len") (hm : X.mg "len" = none) (ha : SAB X g m (e::es) fl) (he : starEach (e::es) X.env = (false,eval e X.env)::starEach es X.env := by rfl) (hpl : (backTo pos (starEach es X.env)).any (·.1) = false := by rfl) :
    SE X g m (.Call (.Name "len" p) (e::es) [] pos) (fC fl lenD) := s_cb zoe (zez (zc4.or zk8 zj1) hg hm PySem.boot_len ha (by decide) (by decide) he hpl)
noncomputable def zgr : List D→Option D
  | [.lst ds] => some (.lst ds)
  | [.tup ds] => some (.lst ds)
  | _ => none
theorem zmy {K : PySem.W.Frag} : zo0 K (fun xs H Q => ∃ p ys,xs = [.ref p]∧(SqL K H p ys∨SqT K H p ys)∧∀ l,H l = none→Q (.ref l) (upd H l (.lst ys))) zgr := by
  intro G H vs ds d Q gk rs e q
  have fin : ∀ {ys : List V} {zs : List D},RGs K G ys zs→(∀ (a : Addr) (G' : GH) (H' : Hp),Grow K G H G' H'→H a = none→Own K G' H' a (.lst zs)→Q (.ref a) H')→∀ l,H l = none→Q (.ref l) (upd H l (.lst ys)) :=
    fun r q l hl => q l G _ (Grow.new gk hl _) hl ⟨gk.isN hl,.lst zar r⟩
  unfold zgr at e
  split at e
  · cases e
    cases rs with
    | cons r t =>
      cases t
      obtain ⟨a,xs,rfl,s,r⟩ := r.lst gk
      exact ⟨a,xs,rfl,.inl s,fin r q⟩
  · cases e
    cases rs with
    | cons r t =>
      cases t
      obtain ⟨a,xs,rfl,s,r⟩ := r.tup gk
      exact ⟨a,xs,rfl,.inr s,fin r q⟩
  · cases e
theorem zi5 (hg : Gl X "list") (hm : X.mg "list" = none) (ha : SAB X g m (e::es) fl) (he : starEach (e::es) X.env = (false,eval e X.env)::starEach es X.env := by rfl) (hpl : (backTo pos (starEach es X.env)).any (·.1) = false := by rfl) :
    SO X g m (.Call (.Name "list" p) (e::es) [] pos) (fC fl zgr) := zpn zmy (zcC zgE hg hm rfl ha (by decide) (by decide) he hpl)
noncomputable def tupD : List D→Option D
  | [.lst ds] => some (.tup ds)
  | [.tup ds] => some (.tup ds)
  | _ => none
theorem znd {K : PySem.W.Frag} : zle K (fun xs H Q => ∃ p ys,xs = [.ref p]∧((SqL K H p ys∧∀ l,H l = none→Q (.ref l) (upd H l (.tup ys)))∨(SqT K H p ys∧Q (.ref p) H))) tupD := by
  intro G H vs ds d Q gk rs e q
  unfold tupD at e
  split at e
  · cases e
    cases rs with
    | cons r t =>
      cases t
      obtain ⟨a,xs,rfl,s,r⟩ := r.lst gk
      exact ⟨a,xs,rfl,.inl ⟨s,fun l hl => q _ _ _ (Grow.newF gk hl (.tup (.inl zar) r)) (.ref za7)⟩⟩
  · cases e
    cases rs with
    | cons r t =>
      cases t
      rcases r with r | ⟨a,_,o⟩
      · obtain ⟨a,xs,rfl,s,r'⟩ := r.tup gk
        exact ⟨a,xs,rfl,.inr ⟨s,q _ G H (Grow.refl gk) r⟩⟩
      · cases o.ob
  · cases e
theorem zd4 (hg : Gl X "tuple") (hm : X.mg "tuple" = none) (ha : SAB X g m (e::es) fl) (he : starEach (e::es) X.env = (false,eval e X.env)::starEach es X.env := by rfl) (hpl : (backTo pos (starEach es X.env)).any (·.1) = false := by rfl) :
    SE X g m (.Call (.Name "tuple" p) (e::es) [] pos) (fC fl tupD) := s_cb znd (zcC zfW hg hm rfl ha (by decide) (by decide) he hpl)
noncomputable def ixD : D→D→Option D
  | .lst ds,.int i => atI ds i
  | .tup ds,.int i => atI ds i
  | .str z,.int i => if z.length≤sizeLine then (atI z.cps.toList i).map fun c => .str ⟨#[c]⟩ else none
  | _,_ => none
theorem zoU {K : PySem.W.Frag} {G : GH} {xs : List V} {ds : List D} {i : Int} {d : D} (r : RGs K G xs ds) (h : atI ds i = some d) : ∃ v,atI xs i = some v∧RG K G v d := by
  unfold atI at h ⊢
  rw [Paired.length r]
  cases e : ixN ds.length i with
  | none => rw [e] at h; cases h
  | some j =>
    rw [e] at h
    exact Paired.get r h
theorem zmD {K : PySem.W.Frag} : OpD K (rIx K) ixD := by
  intro G H v1 v2 d1 d2 d Q gk r1 r2 e q
  unfold ixD at e
  split at e
  · obtain ⟨a,xs,rfl,s,r⟩ := r1.lst gk
    obtain ⟨v,ev,rv⟩ := zoU r e
    exact .inl ⟨a,xs,_,v,rfl,r2.int gk,s,ev,q v G H (Grow.refl gk) rv⟩
  · obtain ⟨a,xs,rfl,s,r⟩ := r1.tup gk
    obtain ⟨v,ev,rv⟩ := zoU r e
    exact .inr (.inl ⟨a,xs,_,v,rfl,r2.int gk,s,ev,q v G H (Grow.refl gk) rv⟩)
  · split at e
    · rename_i z i hz
      cases ec : atI z.cps.toList i with
      | none => rw [ec] at e; cases e
      | some c =>
        rw [ec] at e; cases e
        exact .inr (.inr ⟨z,i,c,r1.str gk,r2.int gk,hz,ec,q _ G H (Grow.refl gk) (.scl (.str _))⟩)
    · cases e
  · cases e
noncomputable def cutL {α : Type} (xs : List α) (lo hi : Option Int) : List α := (xs.drop (HT.sIx xs.length 0 lo)).take (HT.sIx xs.length xs.length hi - HT.sIx xs.length 0 lo)
theorem zoR {α β : Type} {F : α→β→Prop} {xs : List α} {ds : List β} (r : Paired F xs ds) (lo hi : Option Int) : Paired F (cutL xs lo hi) (cutL ds lo hi) := by
  unfold cutL
  rw [Paired.length r]
  exact Paired.tk _ (Paired.dr _ r)
noncomputable abbrev FP := Rho→Res (Option Int)
noncomputable def tP (X : Cx) (g : GE) (m : List Md) (f : FP) : TO := fun σ H Q => ∃ r G,SI X g m r G σ H∧fin (f r) (fun o => ∀ G' H',Grow X.K G H G' H'→Q o H') (XW X σ G H)
noncomputable def SP1 (X : Cx) (g : GE) (m : List Md) (e : Option Expr) (f : FP) : Prop := PO X e (tP X g m f)
theorem PO.imp {X : Cx} {e : Option Expr} {t t' : TO} (h : PO X e t) (i : ∀ σ H Q,t' σ H Q→t σ H Q) : PO X e t' := fun pins s σ H Q I q => h pins s σ H Q I (i σ H Q q)
noncomputable def asI : D→Option Int
  | .int i => some i
  | _ => none
noncomputable def zeu (f : FE) : FP := fun r => (f r).bind fun d => (opt (asI d)).bind fun i => .ok (some i)
theorem zeS : SP1 X g m none fun _ => .ok none := PO.imp zmd fun σ H Q ⟨r,G,si,q⟩ => q G H (Grow.refl si.gok)
theorem zeR (h : SB X g m e f) : SP1 X g m (some e) (zeu f) := by
  refine PO.imp (zmc h) fun σ H Q ⟨r,G,si,q⟩ => ⟨r,G,si,zah (zag q) fun d q1 v G1 H1 w1 r1 => ?_⟩
  obtain ⟨i,e,q2⟩ := zav (zag q1)
  cases d with
  | int j => cases e; exact ⟨_,r1.int w1.ok,q2 G1 H1 w1⟩
  | _ => cases e
end
end DL
end
section
namespace DL
open PySem PySem.Spec PyProof.Rows L2
inductive Out where
  | nx (r : Rho) | rt (d : D) | bk (r : Rho) | ct (r : Rho) | exc (x : D) (r : Rho) | stuck
noncomputable abbrev FS := Rho→Out
noncomputable def Gle (G G' : GH) : Prop := ∀ a d,G a = some d→G' a = some d
theorem Gle.refl (G : GH) : Gle G G := fun _ _ e => e
theorem Gle.trans {G G1 G2 : GH} (a : Gle G G1) (b : Gle G1 G2) : Gle G G2 := fun x d e => b x d (a x d e)
noncomputable def forget (m : List Md) (r : Rho) : Rho := List.zipWith (fun md o => if md = Md.sh then o else none) m r
noncomputable def zfk (m : List Md) : List Md := m.map fun _ => Md.sh
theorem zcF {m : List Md} {r : Rho} {i : Nat} {d : D} (h : (forget m r)[i]? = some (some d)) : r[i]? = some (some d)∧m[i]? = some .sh := by
  unfold forget at h
  rw [List.getElem?_zipWith] at h
  cases e1 : m[i]? with
  | none => rw [e1] at h; cases h
  | some md =>
    cases e2 : r[i]? with
    | none => rw [e1,e2] at h; cases h
    | some o =>
      rw [e1,e2] at h
      have h' : (if md = Md.sh then o else none) = some d := Option.some.inj h
      split at h'
      · rename_i hm; subst hm; rw [h']; exact ⟨rfl,rfl⟩
      · cases h'
section
variable {X : Cx} {g : GE} {m : List Md} {r : Rho} {G : GH} {st : L2.St} {H : Hp}
theorem SI.forget (s : SI X g m r G st H) : SI X g (zfk m) (forget m r) G st H where
  gok := s.gok
  old := s.old
  ge := s.ge
  gf := s.gf
  lm := by rw [zfk,List.length_map]; exact s.lm
  lr := by rw [DL.forget,List.length_zipWith,s.lm,s.lr,Nat.min_self]
  sh := fun i d h _ => s.sh i d (zcF h).1 (zcF h).2
  ow := fun i d h hm => by rw [zfk,List.getElem?_map,(zcF h).2] at hm; cases hm
  bw := fun i d h hm => by rw [zfk,List.getElem?_map,(zcF h).2] at hm; cases hm
  dis := fun i j a d e _ h _ hm => by rw [zfk,List.getElem?_map,(zcF h).2] at hm; cases hm
  lk := fun i o _ hm => by rw [zfk,List.getElem?_map] at hm; cases q : m[i]? <;> rw [q] at hm <;> cases hm
theorem SI.set (s : SI X g m r G st H) (i : Nat) {v : V} {d : D} (hv : RG X.K G v d) : SI X g (m.set i .sh) (r.set i (some d)) G (st.set i (some v)) H where
  gok := s.gok
  old := s.old
  ge := s.ge
  gf := s.gf
  lm := by simp [s.lm]
  lr := by simp [s.lr]
  sh := fun j e h hm => by
    by_cases hij : i = j
    · subst hij
      have hl : i < r.length := by
        have := (List.getElem?_eq_some_iff.mp h).1
        simpa using this
      rw [List.getElem?_set_self hl] at h
      cases h
      exact ⟨v,by rw [List.getElem?_set_self (by rw [← s.lr]; exact hl)],hv⟩
    · rw [List.getElem?_set_ne hij] at h hm
      rw [List.getElem?_set_ne hij]
      exact s.sh j e h hm
  ow := fun j e h hm => by
    by_cases hij : i = j
    · subst hij
      have hl : i < m.length := by
        have := (List.getElem?_eq_some_iff.mp hm).1
        simpa using this
      rw [List.getElem?_set_self hl] at hm; cases hm
    · rw [List.getElem?_set_ne hij] at h hm
      rw [List.getElem?_set_ne hij]
      exact s.ow j e h hm
  bw := fun j e h hm => by
    by_cases hij : i = j
    · subst hij
      have hl : i < m.length := by
        have := (List.getElem?_eq_some_iff.mp hm).1
        simpa using this
      rw [List.getElem?_set_self hl] at hm; cases hm
    · rw [List.getElem?_set_ne hij] at h hm
      rw [List.getElem?_set_ne hij]
      exact s.bw j e h hm
  dis := fun j k a d1 d2 hjk h1 h2 hm hm' q1 q2 => by
    have hij : i≠j := by
      rintro rfl
      have hl : i < m.length := by
        have := (List.getElem?_eq_some_iff.mp hm).1
        simpa using this
      rw [List.getElem?_set_self hl] at hm; cases hm
    have hik : i≠k := by
      rintro rfl
      have hl : i < m.length := by
        have := (List.getElem?_eq_some_iff.mp h2).1
        rw [List.length_set,s.lr,← s.lm] at this; exact this
      rw [List.getElem?_set_self hl] at hm'; cases hm'
    rw [List.getElem?_set_ne hij] at h1 hm q1
    rw [List.getElem?_set_ne hik] at h2 hm' q2
    exact s.dis j k a d1 d2 hjk h1 h2 hm hm' q1 q2
  lk := fun j o hj hm => by
    have hij : i≠j := by
      rintro rfl
      have hl : i < m.length := by
        have := (List.getElem?_eq_some_iff.mp hm).1
        simpa using this
      rw [List.getElem?_set_self hl] at hm; cases hm
    rw [List.getElem?_set_ne hij] at hm
    have := s.lk j o hj hm
    exact ⟨by rw [List.getElem?_set_ne hij]; exact this.1,fun d h => this.2 d (by rw [List.getElem?_set_ne hij] at h; exact h)⟩
theorem SI.setO (s : SI X g m r G st H) (i : Nat) {a : Addr} {d : D} (ho : Own X.K G H a d) (h0 : g.h0 a = none) (hx : ∀ (j : Nat) (b : Addr) (e : D),r[j]? = some (some e)→m[j]? = some Md.ow→st[j]? = some (some (V.ref b))→b≠a) :
    SI X g (m.set i .ow) (r.set i (some d)) G (st.set i (some (V.ref a))) H where
  gok := s.gok
  old := s.old
  ge := s.ge
  gf := s.gf
  lm := by simp [s.lm]
  lr := by simp [s.lr]
  sh := fun j e h hm => by
    by_cases hij : i = j
    · subst hij
      have hl : i < m.length := by
        have := (List.getElem?_eq_some_iff.mp hm).1
        simpa using this
      rw [List.getElem?_set_self hl] at hm; cases hm
    · rw [List.getElem?_set_ne hij] at h hm
      rw [List.getElem?_set_ne hij]
      exact s.sh j e h hm
  ow := fun j e h hm => by
    by_cases hij : i = j
    · subst hij
      have hl : i < r.length := by
        have := (List.getElem?_eq_some_iff.mp h).1
        simpa using this
      rw [List.getElem?_set_self hl] at h
      cases h
      exact ⟨a,by rw [List.getElem?_set_self (by rw [← s.lr]; exact hl)],ho,h0⟩
    · rw [List.getElem?_set_ne hij] at h hm
      rw [List.getElem?_set_ne hij]
      exact s.ow j e h hm
  bw := fun j e h hm => by
    by_cases hij : i = j
    · subst hij
      have hl : i < m.length := by
        have := (List.getElem?_eq_some_iff.mp hm).1
        simpa using this
      rw [List.getElem?_set_self hl] at hm; cases hm
    · rw [List.getElem?_set_ne hij] at h hm
      rw [List.getElem?_set_ne hij]
      exact s.bw j e h hm
  dis := fun j k b d1 d2 hjk h1 h2 hm hm' q1 q2 => by
    by_cases hij : i = j
    · subst hij
      rw [List.getElem?_set_ne hjk] at h2 hm' q2
      have hl : i < st.length := by
        have := (List.getElem?_eq_some_iff.mp q1).1
        simpa using this
      rw [List.getElem?_set_self hl] at q1
      have e : a = b := by injection q1 with q1; injection q1 with q1; injection q1
      exact hx k b d2 h2 hm' q2 e.symm
    · by_cases hik : i = k
      · subst hik
        rw [List.getElem?_set_ne hij] at h1 hm q1
        have hl : i < st.length := by
          have := (List.getElem?_eq_some_iff.mp q2).1
          simpa using this
        rw [List.getElem?_set_self hl] at q2
        have e : a = b := by injection q2 with q2; injection q2 with q2; injection q2
        exact hx j b d1 h1 hm q1 e.symm
      · rw [List.getElem?_set_ne hij] at h1 hm q1
        rw [List.getElem?_set_ne hik] at h2 hm' q2
        exact s.dis j k b d1 d2 hjk h1 h2 hm hm' q1 q2
  lk := fun j o hj hm => by
    have hij : i≠j := by
      rintro rfl
      have hl : i < m.length := by
        have := (List.getElem?_eq_some_iff.mp hm).1
        simpa using this
      rw [List.getElem?_set_self hl] at hm; cases hm
    rw [List.getElem?_set_ne hij] at hm
    have := s.lk j o hj hm
    exact ⟨by rw [List.getElem?_set_ne hij]; exact this.1,fun d h => this.2 d (by rw [List.getElem?_set_ne hij] at h; exact h)⟩
theorem SI.other (s : SI X g m r G st H) {p : Addr} (hp : G p = none) (h0 : g.h0 p = none) (hm : ∀ (i : Nat),m[i]?≠some Md.ow) (o : HO) : SI X g m r G st (upd H p o) where
  gok := fun b e h => (s.gok b e h).mono (fun _ _ z => z) fun o' q => by rw [zaC (by rintro rfl; rw [hp] at h; cases h)]; exact q
  old := fun b o' h => by rw [zaC (by rintro rfl; rw [h0] at h; cases h)]; exact s.old b o' h
  ge := s.ge
  gf := s.gf
  lm := s.lm
  lr := s.lr
  sh := s.sh
  ow := fun i d _ h => absurd h (hm i)
  bw := fun i d h1 h2 => by
    obtain ⟨v,h3,h4⟩ := s.bw i d h1 h2
    refine ⟨v,h3,?_⟩
    rcases h4 with h4 | ⟨a,rfl,h4,h5⟩
    · exact .inl h4
    · have ha : a≠p := by rintro rfl; exact h5 h0
      exact .inr ⟨a,rfl,⟨h4.un,h4.ob.mono (fun _ _ z => z) fun o' z => by rw [zaC ha]; exact z⟩,h5⟩
  dis := fun i j a d e _ _ _ h => absurd h (hm i)
  lk := s.lk
theorem SI.less (s : SI X g m r G st H) {r' : Rho} (hl : r'.length = r.length) (h : ∀ (i : Nat) d,r'[i]? = some (some d)→r[i]? = some (some d)) : SI X g m r' G st H :=
  ⟨s.gok,s.old,s.ge,s.gf,s.lm,hl.trans s.lr,fun i d a b => s.sh i d (h i d a) b,fun i d a b => s.ow i d (h i d a) b,fun i d a b => s.bw i d (h i d a) b,fun i j a d e n p q x y => s.dis i j a d e n (h i d p) (h j e q) x y,fun i o hi hm => by
    have := s.lk i o hi hm
    exact ⟨this.1,fun d hd => this.2 d (h i d hd)⟩⟩
theorem SI.held (s : SI X g m r G st H) {j : Nat} {b : Addr} {e : D} (h : r[j]? = some (some e)) (hm : m[j]? = some .ow) (hs : st[j]? = some (some (V.ref b))) : H b≠none := by
  obtain ⟨a,h1,h2,_⟩ := s.ow j e h hm
  rw [hs] at h1
  injection h1 with h1; injection h1 with h1; injection h1 with h1
  rw [h1]; exact h2.ob.isS
theorem SI.setN (s : SI X g m r G st H) {G' : GH} {H' : Hp} (w : Grow X.K G H G' H') (i : Nat) {a : Addr} {d : D} (hn : H a = none) (ho : Own X.K G' H' a d) : SI X g (m.set i .ow) (r.set i (some d)) G' (st.set i (some (V.ref a))) H' := by
  refine (s.grow w).setO i ho ?_ fun j b e h1 h2 h3 => ?_
  · cases q : g.h0 a with
    | none => rfl
    | some o => rw [s.old _ _ q] at hn; cases hn
  · rintro rfl
    exact s.held h1 h2 h3 hn
theorem SI.mut (s : SI X g m r G st H) {i : Nat} {d : D} (hm : m[i]? = some .ow) (hd : r[i]? = some (some d)) :
    ∃ a,st[i]? = some (some (V.ref a))∧Own X.K G H a d∧∀ (o' : HO) (d' : D),OwnO X.K G (upd H a o') a d'→SI X g m (r.set i (some d')) G st (upd H a o') := by
  obtain ⟨a,h1,h2,h3⟩ := s.ow i d hd hm
  have hl : i < r.length := (List.getElem?_eq_some_iff.mp hd).1
  refine ⟨a,h1,h2,fun o' d' ob => ?_⟩
  have oth : ∀ (j : Nat) (b : Addr) (e : D),j≠i→r[j]? = some (some e)→m[j]? = some .ow→st[j]? = some (some (V.ref b))→b≠a := fun j b e hj q1 q2 q3 z => by
    subst z
    exact s.dis i j b d e (Ne.symm hj) hd q1 hm q2 h1 q3
  refine ⟨fun b e h => ?_,fun b o h => ?_,s.ge,s.gf,s.lm,by simp [s.lr],?_,?_,?_,?_,fun j o hj hm' => ?_⟩
  · have hb : b≠a := by rintro rfl; rw [h2.un] at h; cases h
    exact (s.gok b e h).mono (fun _ _ z => z) fun o q => by rw [zaC hb]; exact q
  · have hb : b≠a := by rintro rfl; rw [h3] at h; cases h
    rw [zaC hb]; exact s.old b o h
  · intro j e h hm'
    have hij : i≠j := by rintro rfl; rw [hm] at hm'; cases hm'
    rw [List.getElem?_set_ne hij] at h
    exact s.sh j e h hm'
  · intro j e h hm'
    by_cases hij : i = j
    · subst hij
      rw [List.getElem?_set_self hl] at h; cases h
      exact ⟨a,h1,⟨h2.un,ob⟩,h3⟩
    · rw [List.getElem?_set_ne hij] at h
      obtain ⟨b,q1,q2,q3⟩ := s.ow j e h hm'
      have hb := oth j b e (Ne.symm hij) h hm' q1
      exact ⟨b,q1,⟨q2.un,q2.ob.mono (fun _ _ z => z) fun o z => by rw [zaC hb]; exact z⟩,q3⟩
  · intro j e h hm'
    have hij : i≠j := by rintro rfl; rw [hm] at hm'; cases hm'
    rw [List.getElem?_set_ne hij] at h
    obtain ⟨v,q1,q2⟩ := s.bw j e h hm'
    refine ⟨v,q1,?_⟩
    rcases q2 with q2 | ⟨b,rfl,q2,q3⟩
    · exact .inl q2
    · have hb : b≠a := by rintro rfl; exact q3 h3
      exact .inr ⟨b,rfl,⟨q2.un,q2.ob.mono (fun _ _ z => z) fun o z => by rw [zaC hb]; exact z⟩,q3⟩
  · have bound : ∀ (j : Nat) e,(r.set i (some d'))[j]? = some (some e)→∃ e',r[j]? = some (some e') := fun j e h => by
      by_cases hij : i = j
      · subst hij; exact ⟨d,hd⟩
      · rw [List.getElem?_set_ne hij] at h; exact ⟨e,h⟩
    intro j k b d1 d2 hjk q1 q2 p1 p2 z1 z2
    obtain ⟨e1,q1⟩ := bound j d1 q1
    obtain ⟨e2,q2⟩ := bound k d2 q2
    exact s.dis j k b e1 e2 hjk q1 q2 p1 p2 z1 z2
  · have hij : i≠j := by rintro rfl; rw [hm] at hm'; cases hm'
    have := s.lk j o hj hm'
    exact ⟨this.1,fun d'' h => this.2 d'' (by rw [List.getElem?_set_ne hij] at h; exact h)⟩
end
noncomputable def RV (ro : Bool) (K : PySem.W.Frag) (H0 : Hp) (G : GH) (H : Hp) (v : V) (d : D) : Prop := match ro with
  | false => RG K G v d
  | true => (∃ a,v = .ref a∧H0 a = none∧Own K G H a d)∨(d = .non∧v = .non)
noncomputable def oTo (X : Cx) (g : GE) (ro : Bool) (m' mb : List Md) (G : GH) (D : Ends) : Out→Prop
  | .nx r' => ∀ σ' G' H',Gle G G'→SI X g m' r' G' σ' H'→D.nx σ' H'
  | .rt d => ∀ v G' H',Grow X.K g.gh g.h0 G' H'→RV ro X.K g.h0 G' H' v d→D.rt v H'
  | .bk r' => ∀ σ' G' H',Gle G G'→SI X g mb r' G' σ' H'→D.bk σ' H'
  | .ct r' => ∀ σ' G' H',Gle G G'→SI X g mb r' G' σ' H'→D.ct σ' H'
  | .exc x r' => ∀ pins e s' σ' G' H',Gle G G'→SI X g (zfk m') r' G' σ' H'→Inv X pins σ' H' s'→ExV X G' H' e x→X.xe e s'
  | .stuck => False
noncomputable def tS (X : Cx) (g : GE) (ro : Bool) (m m' mb : List Md) (f : FS) : TS := fun D σ H => ∃ r G,SI X g m r G σ H∧oTo X g ro m' mb G D (f r)
noncomputable def SS (X : Cx) (g : GE) (ro : Bool) (mb m : List Md) (st : Stmt) (f : FS) (m' : List Md) : Prop := m'.length = m.length∧PS X st (tS X g ro m m' mb f)
noncomputable def SSs (X : Cx) (g : GE) (ro : Bool) (mb m : List Md) (st : List Stmt) (f : FS) (m' : List Md) : Prop := m'.length = m.length∧PSs X st (tS X g ro m m' mb f)
theorem ze7 {m m' : List Md} (h : m'.length = m.length) : zfk m' = zfk m := by
  unfold zfk
  rw [List.map_const',List.map_const',h]
theorem oTo.x {X : Cx} {g : GE} {ro : Bool} {m m' mb : List Md} {r : Rho} {G : GH} {D : Ends} {σ : L2.St} {H : Hp} {x : DL.D} (h : oTo X g ro m' mb G D (.exc x (forget m r))) (si : SI X g m r G σ H) (hl : m'.length = m.length) : XW X σ G H x :=
  fun pins e s' G' H' w I ex => h pins e s' σ G' H' w.ge (by rw [ze7 hl]; exact (si.grow w).forget) I ex
section
variable {X : Cx} {g : GE} {ro : Bool} {m m' m1 mb : List Md} {e a b c tg : Expr} {f fa fb fc : FE} {p : FQ} {pos pos' : Pos} {st : Stmt} {sts sts' : List Stmt} {s1 s2 : FS}
theorem oTo.gle {G G1 : GH} {D : Ends} {o : Out} (h : oTo X g ro m' mb G D o) (w : Gle G G1) : oTo X g ro m' mb G1 D o := by
  cases o with
  | nx r' => exact fun σ' G' H' q si => h σ' G' H' (w.trans q) si
  | rt d => exact h
  | bk r' => exact fun σ' G' H' q si => h σ' G' H' (w.trans q) si
  | ct r' => exact fun σ' G' H' q si => h σ' G' H' (w.trans q) si
  | exc x r' => exact fun pins e s' σ' G' H' q => h pins e s' σ' G' H' (w.trans q)
  | stuck => exact h
noncomputable def seqF (s1 s2 : FS) : FS := fun r => match s1 r with
  | .nx r' => s2 r'
  | o => o
noncomputable def zak : FS := fun r => .nx r
theorem zaf : SSs X g ro mb m [] zak m := ⟨rfl,PSs.imp zma fun D σ H ⟨r,G,si,q⟩ => q σ G H (Gle.refl G) si⟩
theorem zaa (h1 : SS X g ro mb m st s1 m1) (h2 : SSs X g ro mb m1 sts s2 m') : SSs X g ro mb m (st::sts) (seqF s1 s2) m' := by
  refine ⟨h2.1.trans h1.1,PSs.imp (zkw h1.2 h2.2) fun D σ H ⟨r,G,si,q⟩ => ⟨r,G,si,?_⟩⟩
  unfold seqF at q
  cases e : s1 r with
  | nx r' =>
    rw [e] at q
    exact fun σ' G' H' w si' => ⟨r',G',si',oTo.gle q w⟩
  | rt d => rw [e] at q; exact q
  | bk r' => rw [e] at q; exact q
  | ct r' => rw [e] at q; exact q
  | exc x r' => rw [e] at q; exact fun pins e s' σ' G' H' w si' => q pins e s' σ' G' H' w (by rw [ze7 h2.1]; exact si')
  | stuck => rw [e] at q; exact q
theorem znr (i : Nat) (hi : m[i]? = some .ow) (h : SS X g ro mb (m.set i .sh) st s1 m') : SS X g ro mb m st s1 m' := by
  refine ⟨h.1.trans (by simp),fun pins s σ H D I ⟨r,G,si,q⟩ => ?_⟩
  rcases si.frz i hi with ⟨G',le,si'⟩ | ⟨a,z⟩
  · exact h.2 pins s σ H D I ⟨r,G',si',oTo.gle q le⟩
  · obtain ⟨ob,I2⟩ := Inv.fast I a
    obtain ⟨G',le,si'⟩ := z ob
    exact h.2 pins s σ _ D I2 ⟨r,G',si',oTo.gle q le⟩
noncomputable def onE {α : Type} (m : List Md) (r : Rho) (x : Res α) (k : α→Out) : Out := match x with
  | .ok a => k a
  | .exc e => .exc e (forget m r)
  | .stuck => .stuck
@[simp] theorem onE_ok {α : Type} (m : List Md) (r : Rho) (a : α) (k : α→Out) : onE m r (.ok a) k = k a := rfl
theorem zbZ {α : Type} {x : Res α} {k : α→Out} {r : Rho} {G : GH} {D : Ends} {σ : L2.St} {H : Hp} (si : SI X g m r G σ H) (hl : m'.length = m.length) (h : oTo X g ro m' mb G D (onE m r x k)) : fin x (fun a => oTo X g ro m' mb G D (k a)) (XW X σ G H) := by
  cases x with
  | ok a => exact h
  | exc e => exact oTo.x h si hl
  | stuck => exact h
noncomputable def setF (m : List Md) (i : Nat) (f : FE) : FS := fun r => onE m r (f r) fun d => .nx (r.set i (some d))
theorem zbw (i : Nat) {x : Str} (hN : X.N.Nodup) (hi : X.N[i]? = some x) (hx : Loc X.env.scope x) (he : SE X g m e f) (hs : swapsWith e (some (.Name x pos')) pos.line X.env = pure false := by rfl)
    (hf : X.fn x = true∨X.env.scope.names.lookup x = some .local := by first | exact .inl rfl | exact .inr rfl | assumption) : SS X g ro mb m (.Assign [.Name x pos'] e pos) (setF m i f) (m.set i .sh) := by
  have hl : (m.set i .sh).length = m.length := by simp
  refine ⟨hl,PS.imp (zls hN hi hx he hs hf) fun D σ H ⟨r,G,si,q⟩ => ⟨r,G,si,?_⟩⟩
  exact zah (zbZ si hl q) fun d q v G' H' w rv => q _ G' H' w.ge ((si.grow w).set i rv)
theorem zc9 (i : Nat) {x : Str} (hN : X.N.Nodup) (hi : X.N[i]? = some x) (hx : Loc X.env.scope x) (he : SO X g m e f) (hs : swapsWith e (some (.Name x pos')) pos.line X.env = pure false := by rfl)
    (hf : X.fn x = true∨X.env.scope.names.lookup x = some .local := by first | exact .inl rfl | exact .inr rfl | assumption) : SS X g ro mb m (.Assign [.Name x pos'] e pos) (setF m i f) (m.set i .ow) := by
  have hl : (m.set i .ow).length = m.length := by simp
  refine ⟨hl,PS.imp (zls hN hi hx he hs hf) fun D σ H ⟨r,G,si,q⟩ => ⟨r,G,si,?_⟩⟩
  exact zah (zbZ si hl q) fun d q a G' H' w hn ho => q _ G' H' w.ge (si.setN w i hn ho)
noncomputable def retF (m : List Md) (f : FE) : FS := fun r => onE m r (f r) fun d => .rt d
theorem zaN (he : SE X g m e f) : SS X g false mb m (.Return (some e) pos) (retF m f) m :=
  ⟨rfl,PS.imp (znI he) fun D σ H ⟨r,G,si,q⟩ => ⟨r,G,si,zah (zbZ si rfl q) fun d q v G' H' w rv => q v G' H' (si.grow w).grown rv⟩⟩
noncomputable def ifF (m : List Md) (p : FQ) (s1 s2 : FS) : FS := fun r => onE m r (p r) fun c => if c = true then s1 r else s2 r
theorem s_if (hc : SQ X g m c p) (h1 : SSs X g ro mb m sts s1 m') (h2 : SSs X g ro mb m sts' s2 m') : SS X g ro mb m (.If c sts sts' pos) (ifF m p s1 s2) m' := by
  refine ⟨h1.1,PS.imp (zps hc h1.2 h2.2) fun D σ H ⟨r,G,si,q⟩ => ⟨r,G,si,zah (zbZ si h1.1 q) fun c q G' H' w => ?_⟩⟩
  cases c with
  | true => rw [if_pos rfl] at q ⊢; exact ⟨r,G',si.grow w,oTo.gle q w.ge⟩
  | false => rw [if_neg Bool.false_ne_true] at q ⊢; exact ⟨r,G',si.grow w,oTo.gle q w.ge⟩
theorem zf7 (i : Nat) (h : SSs X g ro mb m sts s1 m') (hi : m'[i]? = some .ow) : SSs X g ro mb m sts s1 (m'.set i .sh) := by
  refine ⟨by simp [h.1],fun pins s σ H D I ⟨r,G,si,q⟩ => ?_⟩
  refine thn (h.2 pins s σ H ⟨fun σ' H' => D.nx σ' H'∨∃ a,∀ ob,D.nx σ' (fz H' a ob),D.rt,D.bk,D.ct⟩ I ⟨r,G,si,?_⟩) fun f s' p => ?_
  · cases e : s1 r with
    | nx r' =>
      rw [e] at q
      intro σ' G' H' w si'
      rcases si'.frz i hi with ⟨G2,le,si2⟩ | ⟨a,z⟩
      · exact .inl (q σ' G2 H' (w.trans le) si2)
      · refine .inr ⟨a,fun ob => ?_⟩
        obtain ⟨G2,le,si2⟩ := z ob
        exact q σ' G2 _ (w.trans le) si2
    | rt d => rw [e] at q; exact q
    | bk r' => rw [e] at q; exact q
    | ct r' => rw [e] at q; exact q
    | exc x r' => rw [e] at q; exact fun pins e s' σ' G' H' w si' => q pins e s' σ' G' H' w (by rw [ze7 (m := m') (by simp)]; exact si')
    | stuck => rw [e] at q; exact q
  · cases f with
    | next =>
      obtain ⟨σ',H',I',z | ⟨a,z⟩⟩ := p
      · exact ⟨σ',H',I',z⟩
      · obtain ⟨ob,I2⟩ := Inv.fast I' a
        exact ⟨σ',_,I2,z ob⟩
    | brk => exact p
    | cont => exact p
    | ret u => exact p
end
end DL
end
section
namespace DL
open PySem PySem.Spec PyProof.Rows L2
noncomputable abbrev FT := D→Rho→Option Rho
noncomputable abbrev FTs := List D→Rho→Option Rho
noncomputable def tG (X : Cx) (g : GE) (m m' : List Md) (ft : FT) : TG := fun v σ H Q => ∃ r G d,SI X g m r G σ H∧RG X.K G v d∧∃ r',ft d r = some r'∧∀ σ',SI X g m' r' G σ' H→Q σ' H
noncomputable def tGs (X : Cx) (g : GE) (m m' : List Md) (ft : FTs) : TGs := fun vs σ H Q => ∃ r G ds,SI X g m r G σ H∧RGs X.K G vs ds∧∃ r',ft ds r = some r'∧∀ σ',SI X g m' r' G σ' H→Q σ' H
theorem PG.imp {X : Cx} {e : Expr} {t t' : TG} (h : PG X e t) (i : ∀ v σ H Q,t' v σ H Q→t v σ H Q) : PG X e t' := fun pins s σ H v u Q I r q => h pins s σ H v u Q I r (i v σ H Q q)
theorem PGs.imp {X : Cx} {e : List Expr} {t t' : TGs} (h : PGs X e t) (i : ∀ v σ H Q,t' v σ H Q→t v σ H Q) : PGs X e t' := fun pins s σ H v u Q I r q => h pins s σ H v u Q I r (i v σ H Q q)
noncomputable def SG (X : Cx) (g : GE) (m : List Md) (tg : Expr) (ft : FT) (m' : List Md) : Prop := m'.length = m.length∧PG X tg (tG X g m m' ft)
structure SGs (X : Cx) (g : GE) (m : List Md) (ts : List Expr) (n : Nat) (ft : FTs) (m' : List Md) : Prop where
  ml : m'.length = m.length
  ln : ∀ ds r r',ft ds r = some r'→ds.length = n
  pg : PGs X ts (tGs X g m m' ft)
noncomputable def ftN (i : Nat) : FT := fun d r => some (r.set i (some d))
noncomputable def ftT (ft : FTs) : FT := fun d r => match d with
  | .tup ds => ft ds r
  | _ => none
noncomputable def zdH : FTs := fun ds r => match ds with
  | [] => some r
  | _ => none
noncomputable def zaS (ft : FT) (fts : FTs) : FTs := fun ds r => match ds with
  | [] => none
  | d::ds => (ft d r).bind fun r' => fts ds r'
section
variable {X : Cx} {g : GE} {m m' m1 : List Md} {tg : Expr} {ts : List Expr} {ft : FT} {fts : FTs} {pos : Pos} {n : Nat}
theorem zaL (i : Nat) {x : Str} (hN : X.N.Nodup) (hi : X.N[i]? = some x) (hx : Loc X.env.scope x) (hf : X.fn x = true∨X.env.scope.names.lookup x = some .local := by first | exact .inl rfl | exact .inr rfl | assumption) :
    SG X g m (.Name x pos) (ftN i) (m.set i .sh) :=
  ⟨by simp,PG.imp (zmg hN hi hx hf) fun v σ H Q ⟨r,G,d,si,rv,r',e,k⟩ => by cases e; exact k _ (si.set i rv)⟩
theorem zjC : SGs X g m [] 0 zdH m := by
  refine ⟨rfl,fun ds r r' e => ?_,PGs.imp zmf fun v σ H Q ⟨r,G,ds,si,rv,r',e,k⟩ => ?_⟩
  · cases ds with
    | nil => rfl
    | cons _ _ => cases e
  · cases rv with
    | nil => cases e; exact ⟨rfl,k σ si⟩
    | cons _ _ => cases e
theorem zdC (h1 : SG X g m tg ft m1) (h2 : SGs X g m1 ts n fts m') (hs : (assignEach (tg::ts) X.env).map (·.2) = assign tg X.env::(assignEach ts X.env).map (·.2) := by rfl) : SGs X g m (tg::ts) (n + 1) (zaS ft fts) m' := by
  refine ⟨h2.ml.trans h1.1,fun ds r r' e => ?_,PGs.imp (zkz h1.2 h2.pg hs) fun v σ H Q ⟨r,G,ds,si,rv,r',e,k⟩ => ?_⟩
  · cases ds with
    | nil => cases e
    | cons d ds =>
      have e' : ((ft d r).bind fun r' => fts ds r') = some r' := e
      cases q : ft d r with
      | none => rw [q] at e'; cases e'
      | some r1 =>
        rw [q] at e'
        have := h2.ln ds r1 r' e'
        simp [this]
  · cases rv with
    | nil => cases e
    | @cons v0 d vs ds rv rs =>
      have e' : ((ft d r).bind fun r' => fts ds r') = some r' := e
      cases q : ft d r with
      | none => rw [q] at e'; cases e'
      | some r1 =>
        rw [q] at e'
        exact ⟨_,_,rfl,r,G,d,si,rv,r1,q,fun σ' si' => ⟨r1,G,ds,si',rs,r',e',k⟩⟩
theorem zjB {k : Nat} (hc : X.calm = true) (h : SGs X g m ts n fts m') (hn : (assignEach ts X.env).length = n := by rfl) (hst : (assignEach ts X.env).findIdx? (·.1) = none := by rfl) : SG X g m (.Tuple ts k pos) (ftT fts) m' := by
  refine ⟨h.ml,PG.imp (znL hc h.pg hn hst) fun v σ H Q ⟨r,G,d,si,rv,r',e,k⟩ => ?_⟩
  cases d with
  | tup ds =>
    obtain ⟨a,xs,rfl,s,rs⟩ := rv.tup si.gok
    exact ⟨a,xs,rfl,s,(Paired.length rs).trans (h.ln ds r r' e),r,G,ds,si,rs,r',e,k⟩
  | _ => cases e
end
structure Yields (K : PySem.W.Frag) (J : It) (ds : List D) (G0 : GH) : Prop where
  go : ∀ G H (i : Nat),Gle G0 G→GOk K G H→i < ds.length→J.go i H
  yld : ∀ G H (i : Nat) x H' d,Gle G0 G→GOk K G H→J.yld i H x H'→ds[i]? = some d→∃ G',Grow K G H G' H'∧RG K G' x d
  stop : ∀ G H,Gle G0 G→GOk K G H→J.stop ds.length H
noncomputable abbrev FI := Rho→Res (List D)
noncomputable def tI (X : Cx) (g : GE) (m : List Md) (f : FI) : TI := fun σ H R => ∃ r G,SI X g m r G σ H∧fin (f r) (fun ds => ∀ J G' H',Grow X.K G H G' H'→Yields X.K J ds G'→R J H') (XW X σ G H)
noncomputable def SIt (X : Cx) (g : GE) (m : List Md) (tg iter : Expr) (f : FI) : Prop := PI X tg iter (tI X g m f)
theorem PI.imp {X : Cx} {tg e : Expr} {t t' : TI} (h : PI X tg e t) (i : ∀ σ H Q,t' σ H Q→t σ H Q) : PI X tg e t' := fun pins s σ H R I q => h pins s σ H R I (i σ H R q)
theorem zgM {K : PySem.W.Frag} {a : Addr} {ds : List D} {G0 : GH} (h0 : RG K G0 (.ref a) (.lst ds)) : Yields K (Itl K a) ds G0 := by
  have at_ : ∀ G H,Gle G0 G→GOk K G H→∃ xs,SqL K H a xs∧RGs K G xs ds := fun G H w gk => by
    obtain ⟨b,xs,e,s,r⟩ := (h0.mono w).lst gk
    cases e
    exact ⟨xs,s,r⟩
  refine ⟨fun G H i w gk hi => ?_,fun G H i x H' d w gk y e => ?_,fun G H w gk => ?_⟩
  · obtain ⟨xs,s,r⟩ := at_ G H w gk
    have hl := Paired.length r
    exact ⟨xs,xs[i],s,List.getElem?_eq_getElem (by omega)⟩
  · obtain ⟨xs,s,r⟩ := at_ G H w gk
    obtain ⟨rfl,y⟩ := y
    obtain ⟨v,e1,rv⟩ := Paired.get r e
    have := y xs s
    rw [e1] at this; cases this
    exact ⟨G,Grow.refl gk,rv⟩
  · obtain ⟨xs,s,r⟩ := at_ G H w gk
    exact ⟨xs,s,Nat.le_of_eq (Paired.length r)⟩
theorem zim {K : PySem.W.Frag} {a : Addr} {ds : List D} {G0 : GH} (h0 : RG K G0 (.ref a) (.tup ds)) : Yields K (Itt K a) ds G0 := by
  have at_ : ∀ G H,Gle G0 G→GOk K G H→∃ xs,SqT K H a xs∧RGs K G xs ds := fun G H w gk => by
    obtain ⟨b,xs,e,s,r⟩ := (h0.mono w).tup gk
    cases e
    exact ⟨xs,s,r⟩
  refine ⟨fun G H i w gk hi => ?_,fun G H i x H' d w gk y e => ?_,fun G H w gk => ?_⟩
  · obtain ⟨xs,s,r⟩ := at_ G H w gk
    have hl := Paired.length r
    exact ⟨xs,xs[i],s,List.getElem?_eq_getElem (by omega)⟩
  · obtain ⟨xs,s,r⟩ := at_ G H w gk
    obtain ⟨rfl,y⟩ := y
    obtain ⟨v,e1,rv⟩ := Paired.get r e
    have := y xs s
    rw [e1] at this; cases this
    exact ⟨G,Grow.refl gk,rv⟩
  · obtain ⟨xs,s,r⟩ := at_ G H w gk
    exact ⟨xs,s,Nat.le_of_eq (Paired.length r)⟩
noncomputable def rngD (lo : Int) (n : Nat) : List D := (List.range n).map fun (i : Nat) => D.int (lo + (i : Int))
theorem zm4 {K : PySem.W.Frag} {lo : Int} {n : Nat} {G0 : GH} : Yields K (Itr lo n) (rngD lo n) G0 := by
  have hl : (rngD lo n).length = n := by simp [rngD]
  refine ⟨fun G H i w gk hi => (by rw [hl] at hi; exact hi),fun G H i x H' d w gk y e => ?_,fun G H w gk => (by rw [hl]; exact Nat.le_refl _)⟩
  obtain ⟨rfl,rfl⟩ := y
  have hi : i < n := by
    have := (List.getElem?_eq_some_iff.mp e).1
    rw [hl] at this; exact this
  unfold rngD at e
  rw [List.getElem?_map,List.getElem?_range hi] at e
  cases e
  exact ⟨G,Grow.refl gk,.scl (.int _)⟩
noncomputable def zbk : D→Option (List D)
  | .lst ds => some ds
  | .tup ds => some ds
  | _ => none
section
variable {X : Cx} {g : GE} {m m' m1 mb : List Md} {tg e a b c iter : Expr} {f fa fb : FE} {p : FQ} {pos pos' : Pos} {ro : Bool} {fl : Rho → Res (List D)} {sts : List Stmt} {s1 : FS}
noncomputable def fSeq (k : D→Option (List D)) (f : FE) : FI := fun r => (f r).bind fun d => opt (k d)
theorem ziP {l : Expr} {tl : TE} (hl : PE X l tl) : PI X tg l (fun σ H R => tl σ H fun x H1 => (∃ a,x = .ref a∧(∃ xs,SqL X.K H1 a xs)∧R (Itl X.K a) H1)∨∃ a,x = .ref a∧(∃ xs,SqT X.K H1 a xs)∧R (Itt X.K a) H1) := by
  intro pins s σ H R I h
  refine thn (hl pins s σ H _ I h) fun v s1 ⟨x,H1,I1,r1,q1⟩ => ?_
  rcases q1 with ⟨a,e,⟨xs,hq⟩,q⟩ | ⟨a,e,⟨xs,hq⟩,q⟩
  · subst e
    cases r1
    obtain ⟨its,rv,p,hz⟩ := I1.list hq
    refine wpAny_pyIter_list p.isList ?_
    refine ⟨s1.heap.objs.size,[s1.heap.objs.size],_,_,H1,rfl,I1.kept (t' := s1.toks) fun b o e => Heap.get?_push_of_some _ e,ziq a _,⟨_,Heap.get?_push_size _ rfl,rfl,rfl⟩,fun b hb => ?_,q⟩
    have e : b = s1.heap.objs.size := by simpa using hb
    subst e
    exact I1.fpOk (Nat.le_refl _) (I1.hok.fresh (Nat.le_refl _))
  · subst e
    cases r1
    obtain ⟨its,rv,p,hz⟩ := I1.tuple hq
    refine wpAny_pyIter_tuple (show s1.heap.IsTuple a its.toArray from p) ?_
    refine ⟨s1.heap.objs.size,[s1.heap.objs.size],_,_,H1,rfl,I1.kept (t' := s1.toks) fun b o e => Heap.get?_push_of_some _ e,zhR a _,⟨_,Heap.get?_push_size _ rfl,rfl,rfl⟩,fun b hb => ?_,q⟩
    have e : b = s1.heap.objs.size := by simpa using hb
    subst e
    exact I1.fpOk (Nat.le_refl _) (I1.hok.fresh (Nat.le_refl _))
theorem zpN (h : SE X g m e f) : SIt X g m tg e (fSeq zbk f) := by
  refine PI.imp (ziP h) fun σ H R ⟨r,G,si,q⟩ => ⟨r,G,si,zah (zag q) fun d q v G' H' w rv => ?_⟩
  obtain ⟨ds,e,q⟩ := zav q
  cases d with
  | lst ds' =>
    cases e
    obtain ⟨a,xs,rfl,s,rs⟩ := rv.lst w.ok
    exact .inl ⟨a,rfl,⟨xs,s⟩,q _ G' H' w (zgM rv)⟩
  | tup ds' =>
    cases e
    obtain ⟨a,xs,rfl,s,rs⟩ := rv.tup w.ok
    exact .inr ⟨a,rfl,⟨xs,s⟩,q _ G' H' w (zim rv)⟩
  | _ => cases e
structure YieldsC (K : PySem.W.Frag) (J : It) (ds : List D) (G0 : GH) (H0 : Hp) : Prop where
  go : ∀ G H (i : Nat),Grow K G0 H0 G H→i < ds.length→J.go i H
  yld : ∀ G H (i : Nat) x H' d,Grow K G0 H0 G H→J.yld i H x H'→ds[i]? = some d→∃ G',Grow K G H G' H'∧RG K G' x d
  stop : ∀ G H,Grow K G0 H0 G H→J.stop ds.length H
theorem Yields.toC {K : PySem.W.Frag} {J : It} {ds : List D} {G0 : GH} {H0 : Hp} (y : Yields K J ds G0) : YieldsC K J ds G0 H0 :=
  ⟨fun G H i w hi => y.go G H i w.ge w.ok hi,fun G H i x H' d w q e => y.yld G H i x H' d w.ge w.ok q e,fun G H w => y.stop G H w.ge w.ok⟩
noncomputable def tIC (X : Cx) (g : GE) (m : List Md) (f : FI) : TI := fun σ H R => ∃ r G,SI X g m r G σ H∧fin (f r) (fun ds => ∀ J G' H',Grow X.K G H G' H'→YieldsC X.K J ds G' H'→R J H') (XW X σ G H)
noncomputable def SItC (X : Cx) (g : GE) (m : List Md) (tg iter : Expr) (f : FI) : Prop := PI X tg iter (tIC X g m f)
theorem SIt.toC {fi : FI} (h : SIt X g m tg iter fi) : SItC X g m tg iter fi := PI.imp h fun σ H R ⟨r,G,si,q⟩ => ⟨r,G,si,zah q fun ds k J G' H' w y => k J G' H' w y.toC⟩
theorem zm5 {K : PySem.W.Frag} {a : Addr} {ds : List D} {G0 : GH} {H0 : Hp} (o : Own K G0 H0 a (.lst ds)) : YieldsC K (Itl K a) ds G0 H0 := by
  have at_ : ∀ G H,Grow K G0 H0 G H→∃ xs,SqL K H a xs∧RGs K G xs ds := fun G H w => by
    cases (o.mono w).ob with
    | lst r s => exact ⟨_,SqL.of r,s⟩
  refine ⟨fun G H i w hi => ?_,fun G H i x H' d w y e => ?_,fun G H w => ?_⟩
  · obtain ⟨xs,s,r⟩ := at_ G H w
    have hl := Paired.length r
    exact ⟨xs,xs[i],s,List.getElem?_eq_getElem (by omega)⟩
  · obtain ⟨xs,s,r⟩ := at_ G H w
    obtain ⟨rfl,y⟩ := y
    obtain ⟨v,e1,rv⟩ := Paired.get r e
    have := y xs s
    rw [e1] at this; cases this
    exact ⟨G,Grow.refl w.ok,rv⟩
  · obtain ⟨xs,s,r⟩ := at_ G H w
    exact ⟨xs,s,Nat.le_of_eq (Paired.length r)⟩
theorem zdZ (h : SB X g m e f) : SItC X g m tg e (fSeq zbk f) := by
  refine PI.imp (ziP h) fun σ H R ⟨r,G,si,q⟩ => ⟨r,G,si,zah (zag q) fun d q v G' H' w rv => ?_⟩
  obtain ⟨ds,e,q⟩ := zav q
  cases d with
  | lst ds' =>
    cases e
    rcases rv with rv | ⟨a,rfl,o⟩
    · obtain ⟨a,xs,rfl,s,rs⟩ := rv.lst w.ok
      exact .inl ⟨a,rfl,⟨xs,s⟩,q _ G' H' w (zgM rv).toC⟩
    · cases o.ob with
      | lst r s => exact .inl ⟨a,rfl,⟨_,SqL.of r⟩,q _ G' H' w (zm5 o)⟩
  | tup ds' =>
    cases e
    rcases rv with rv | ⟨a,rfl,o⟩
    · obtain ⟨a,xs,rfl,s,rs⟩ := rv.tup w.ok
      exact .inr ⟨a,rfl,⟨xs,s⟩,q _ G' H' w (zim rv).toC⟩
    · cases o.ob
  | _ => cases e
noncomputable def rng1 : List D→Option (List D)
  | [.int j] => if -(2 ^ 62)≤j∧j < 2 ^ 62 then some (rngD 0 j.toNat) else none
  | _ => none
noncomputable def fRng (k : List D→Option (List D)) (fl : Rho→Res (List D)) : FI := fun r => (fl r).bind fun ds => opt (k ds)
theorem zb4 {pn : Pos} (hg : Gl X "range") (hm : X.mg "range" = none) (ha : SAB X g m [a] fl) (hs : starEach [a] X.env = [(false,eval a X.env)] := by rfl) : SIt X g m tg (.Call (.Name "range" pn) [a] [] pos) (fRng rng1 fl) := by
  refine PI.imp (ziQ hg hm ha hs) fun σ H R ⟨r,G,si,q⟩ => ⟨r,G,si,zah (zag q) fun ds q vs G' H' w rs => ?_⟩
  obtain ⟨zs,e,q⟩ := zav q
  unfold rng1 at e
  split at e
  · split at e
    · rename_i j hj
      cases e
      cases rs with
      | cons r1 t => cases t; exact ⟨j,by rw [r1.int w.ok],hj.1,hj.2,q _ G' H' w zm4⟩
    · cases e
  · cases e
noncomputable def forF (ft : FT) (body : FS) : List D→FS
  | [],r => .nx r
  | d::ds,r => match ft d r with
    | none => .stuck
    | some r1 => match body r1 with
      | .nx r' => forF ft body ds r'
      | .ct r' => forF ft body ds r'
      | .bk r' => .nx r'
      | o => o
noncomputable def zcf (m : List Md) (fi : FI) (ft : FT) (body : FS) : FS := fun r => onE m r (fi r) fun ds => forF ft body ds r
theorem zeN (hp : PassesOwn (model X.prog X.w) X.A X.env X.xe) (hc : X.calm = true) {ft : FT} {fi : FI} (hi : SIt X g m tg iter fi) (hg : SG X g m tg ft m) (hb : SSs X g ro m m sts s1 m)
    (hs : ∀ x,foldedSetIterable iter X.env x = pure x := by intro _; rfl) : SS X g ro mb m (.For tg iter sts [] pos) (zcf m fi ft s1) m := by
  refine ⟨rfl,PS.imp (ziL hp hc hi hg.2 hb.2 hs) fun D σ H ⟨r,G,si,q⟩ => ⟨r,G,si,zah (zbZ si rfl q) fun ds q J G0 H0 w0 Y => ?_⟩⟩
  refine ⟨fun i n σ H => ∃ r G,SI X g m r G σ H∧Gle G0 G∧i≤ds.length∧n = ds.length - i∧oTo X g ro m mb G D (forF ft s1 (ds.drop i) r),⟨ds.length,r,G0,si.grow w0,Gle.refl G0,Nat.zero_le _,rfl,oTo.gle q w0.ge⟩,?_⟩
  rintro i n σ1 H1 ⟨r1,G1,si1,le1,hi,rfl,q1⟩
  by_cases hlt : i < ds.length
  · have hd : ds.drop i = ds[i]::ds.drop (i + 1) := List.drop_eq_getElem_cons hlt
    rw [hd] at q1
    unfold forF at q1
    refine .inr ⟨Y.go G1 H1 i le1 si1.gok hlt,fun σ' H' => ∃ r G,SI X g m r G σ' H'∧Gle G0 G∧oTo X g ro m mb G D (forF ft s1 (ds.drop (i + 1)) r),fun σ' H' ⟨r',G',si',le',q'⟩ => ⟨ds.length - (i + 1),by omega,r',G',si',le',hlt,rfl,q'⟩,fun x H' y => ?_⟩
    obtain ⟨G',w',rv⟩ := Y.yld G1 H1 i x H' ds[i] le1 si1.gok y (List.getElem?_eq_getElem hlt)
    have le' : Gle G0 G' := le1.trans w'.ge
    cases eft : ft ds[i] r1 with
    | none => simp only [eft] at q1; exact q1.elim
    | some r2 =>
      simp only [eft] at q1
      refine ⟨r1,G',ds[i],si1.grow w',rv,r2,eft,fun σ2 si2 => ⟨r2,G',si2,?_⟩⟩
      cases eb : s1 r2 with
      | nx r' => simp only [eb] at q1; exact fun σ3 G3 H3 le3 si3 => ⟨r',G3,si3,le'.trans le3,oTo.gle q1 (Gle.trans w'.ge le3)⟩
      | ct r' => simp only [eb] at q1; exact fun σ3 G3 H3 le3 si3 => ⟨r',G3,si3,le'.trans le3,oTo.gle q1 (Gle.trans w'.ge le3)⟩
      | bk r' => simp only [eb] at q1; exact fun σ3 G3 H3 le3 si3 => q1 σ3 G3 H3 (Gle.trans w'.ge le3) si3
      | rt d => simp only [eb] at q1; exact q1
      | exc x r' => simp only [eb] at q1; exact fun pins e s' σ3 G3 H3 le3 => q1 pins e s' σ3 G3 H3 (Gle.trans w'.ge le3)
      | stuck => simp only [eb] at q1; exact q1
  · have e : i = ds.length := by omega
    subst e
    rw [List.drop_length] at q1
    exact .inl ⟨Y.stop G1 H1 le1 si1.gok,q1 σ1 G1 H1 (Gle.refl _) si1⟩
noncomputable def zbT (m : List Md) : List Md := m.map fun x => if x = Md.sh then Md.sh else Md.bw
noncomputable def zh9 (m : List Md) (r : Rho) (st : L2.St) (G : GH) (H : Hp) : GE := ⟨G,H,fun i => if m[i]? = some Md.ow∨m[i]? = some Md.bw then some ((st[i]?).join,(r[i]?).join) else none⟩
theorem zdb {m : List Md} {i : Nat} {x : Md} (h : m[i]? = some x) : (zbT m)[i]? = some (if x = Md.sh then Md.sh else Md.bw) := by
  unfold zbT; rw [List.getElem?_map,h]; rfl
theorem zkM {m : List Md} {i : Nat} (h : (zbT m)[i]? = some Md.sh) : m[i]? = some Md.sh := by
  cases q : m[i]? with
  | none => unfold zbT at h; rw [List.getElem?_map,q] at h; cases h
  | some x =>
    rw [zdb q] at h
    cases x <;> first | rfl | (simp at h)
theorem zhA {m : List Md} {i : Nat} (h : (zbT m)[i]? = some Md.ow) : False := by
  cases q : m[i]? with
  | none => unfold zbT at h; rw [List.getElem?_map,q] at h; cases h
  | some x =>
    rw [zdb q] at h
    cases x <;> simp at h
theorem lockM_bw {m : List Md} {i : Nat} (h : (zbT m)[i]? = some Md.bw) : m[i]? = some Md.ow∨m[i]? = some Md.bw := by
  cases q : m[i]? with
  | none => unfold zbT at h; rw [List.getElem?_map,q] at h; cases h
  | some x =>
    rw [zdb q] at h
    cases x with
    | sh => simp at h
    | ow => exact .inl rfl
    | bw => exact .inr rfl
theorem SI.lock {r : Rho} {G : GH} {st : L2.St} {H : Hp} (s : SI X g m r G st H) : SI X (zh9 m r st G H) (zbT m) r G st H where
  gok := s.gok
  old := fun _ _ e => e
  ge := fun _ _ e => e
  gf := fun _ _ => rfl
  lm := by unfold zbT; rw [List.length_map]; exact s.lm
  lr := s.lr
  sh := fun i d h hm => s.sh i d h (zkM hm)
  ow := fun i d h hm => (zhA hm).elim
  bw := fun i d h hm => by
    rcases lockM_bw hm with z | z
    · obtain ⟨a,h1,h2,_⟩ := s.ow i d h z
      exact ⟨_,h1,.inr ⟨a,rfl,h2,h2.ob.isS⟩⟩
    · obtain ⟨v,h1,h2⟩ := s.bw i d h z
      refine ⟨v,h1,?_⟩
      rcases h2 with h2 | ⟨a,e,h2,_⟩
      · exact .inl h2
      · exact .inr ⟨a,e,h2,h2.ob.isS⟩
  dis := fun i j a d e _ _ _ hm => (zhA hm).elim
  lk := fun i o h hm => by
    have h' : (if m[i]? = some Md.ow∨m[i]? = some Md.bw then some ((st[i]?).join,(r[i]?).join) else none) = some o := h
    rw [if_pos (lockM_bw hm)] at h'
    cases h'
    have hi : i < st.length := by
      have := (List.getElem?_eq_some_iff.mp hm).1
      unfold zbT at this
      rw [List.length_map,s.lm] at this; exact this
    refine ⟨?_,fun d hd => by rw [hd]; rfl⟩
    rw [List.getElem?_eq_getElem hi]; rfl
theorem SI.unlock {r r' : Rho} {G G' : GH} {st st' : L2.St} {H H' : Hp} (s : SI X g m r G st H) (s' : SI X (zh9 m r st G H) (zbT m) r' G' st' H') : SI X g m r' G' st' H' := by
  have w : Grow X.K G H G' H' := s'.grown
  have hlk : ∀ (i : Nat),(m[i]? = some Md.ow∨m[i]? = some Md.bw)→st'[i]? = some (st[i]?).join∧∀ d,r'[i]? = some (some d)→r[i]? = some (some d) := fun i hi => by
    have hm : (zbT m)[i]? = some Md.bw := by
      rcases hi with z | z <;> rw [zdb z] <;> simp
    obtain ⟨h1,h2⟩ := s'.lk i ((st[i]?).join,(r[i]?).join) (if_pos hi) hm
    refine ⟨h1,fun d hd => ?_⟩
    have := h2 d hd
    cases q : r[i]? with
    | none => rw [q] at this; cases this
    | some o => rw [q] at this; rw [show o = some d from this]
  have hst : ∀ (i : Nat) v,(m[i]? = some Md.ow∨m[i]? = some Md.bw)→st[i]? = some (some v)→st'[i]? = some (some v) := fun i v hi h => by
    rw [(hlk i hi).1,h]; rfl
  refine ⟨s'.gok,fun a o e => s'.old a o (s.old a o e),fun a d e => s'.ge a d (s.ge a d e),fun a h => ?_,?_,s'.lr,fun i d h hm => ?_,fun i d h hm => ?_,fun i d h hm => ?_,fun i j a d e hij h1 h2 m1 m2 q1 q2 => ?_,fun i o hi hm => ?_⟩
  · have h1 : H a≠none := by
      cases e : g.h0 a with
      | none => exact absurd e h
      | some o => rw [s.old _ _ e]; simp
    rw [w.gf a h1,s.gf a h]
  · have := s'.lm
    unfold zbT at this
    rw [List.length_map] at this; exact this
  · exact s'.sh i d h (by rw [zdb hm]; simp)
  · obtain ⟨a,h1,h2,h3⟩ := s.ow i d ((hlk i (.inl hm)).2 d h) hm
    exact ⟨a,hst i _ (.inl hm) h1,h2.mono w,h3⟩
  · obtain ⟨v,h1,h2⟩ := s.bw i d ((hlk i (.inr hm)).2 d h) hm
    exact ⟨v,hst i _ (.inr hm) h1,h2.grow w⟩
  · have e1 := (hlk i (.inl m1)).2 d h1
    have e2 := (hlk j (.inl m2)).2 e h2
    obtain ⟨b,z1,_,_⟩ := s.ow i d e1 m1
    obtain ⟨c,z2,_,_⟩ := s.ow j e e2 m2
    have y1 := hst i _ (.inl m1) z1
    have y2 := hst j _ (.inl m2) z2
    rw [q1] at y1
    rw [q2] at y2
    cases y1
    cases y2
    exact s.dis i j a d e hij e1 e2 m1 m2 z1 z2
  · obtain ⟨h1,h2⟩ := s.lk i o hi hm
    refine ⟨?_,fun d hd => h2 d ((hlk i (.inr hm)).2 d hd)⟩
    rw [(hlk i (.inr hm)).1,h1]; rfl
theorem zlo (hp : PassesOwn (model X.prog X.w) X.A X.env X.xe) (hc : X.calm = true) {ft : FT} {fi : FI} (hi : SItC X g m tg iter fi) (hg : ∀ g',SG X g' (zbT m) tg ft (zbT m)) (hb : ∀ g',SSs X g' ro (zbT m) (zbT m) sts s1 (zbT m))
    (hs : ∀ x,foldedSetIterable iter X.env x = pure x := by intro _; rfl) : SS X g ro mb m (.For tg iter sts [] pos) (zcf m fi ft s1) m := by
  have hgA : PG X tg (fun v σ H Q => ∃ g',tG X g' (zbT m) (zbT m) ft v σ H Q) := fun pins s σ H v u Q I r ⟨g',q⟩ => (hg g').2 pins s σ H v u Q I r q
  have hbA : PSs X sts (fun D σ H => ∃ g',tS X g' ro (zbT m) (zbT m) (zbT m) s1 D σ H) := fun pins s σ H D I ⟨g',q⟩ => (hb g').2 pins s σ H D I q
  refine ⟨rfl,PS.imp (ziL hp hc hi hgA hbA hs) fun D σ H ⟨r,G,si,q⟩ => ⟨r,G,si,zah (zbZ si rfl q) fun ds q J G0 H0 w0 Y => ?_⟩⟩
  have si0 := si.grow w0
  refine ⟨fun i n σ1 H1 => ∃ r1 G1,SI X (zh9 m r σ G0 H0) (zbT m) r1 G1 σ1 H1∧i≤ds.length∧n = ds.length - i∧oTo X g ro m mb G1 D (forF ft s1 (ds.drop i) r1),⟨ds.length,r,G0,si0.lock,Nat.zero_le _,rfl,oTo.gle q w0.ge⟩,?_⟩
  rintro i n σ1 H1 ⟨r1,G1,si1,hi,rfl,q1⟩
  have wg : Grow X.K G0 H0 G1 H1 := si1.grown
  by_cases hlt : i < ds.length
  · have hd : ds.drop i = ds[i]::ds.drop (i + 1) := List.drop_eq_getElem_cons hlt
    rw [hd] at q1
    unfold forF at q1
    refine .inr ⟨Y.go G1 H1 i wg hlt,fun σ' H' => ∃ r' G',SI X (zh9 m r σ G0 H0) (zbT m) r' G' σ' H'∧oTo X g ro m mb G' D (forF ft s1 (ds.drop (i + 1)) r'),fun σ' H' ⟨r',G',si',q'⟩ => ⟨ds.length - (i + 1),by omega,r',G',si',hlt,rfl,q'⟩,fun x H' y => ?_⟩
    obtain ⟨G',w',rv⟩ := Y.yld G1 H1 i x H' ds[i] wg y (List.getElem?_eq_getElem hlt)
    cases eft : ft ds[i] r1 with
    | none => simp only [eft] at q1; exact q1.elim
    | some r2 =>
      simp only [eft] at q1
      refine ⟨zh9 m r σ G0 H0,r1,G',ds[i],si1.grow w',rv,r2,eft,fun σ2 si2 => ⟨zh9 m r σ G0 H0,r2,G',si2,?_⟩⟩
      cases eb : s1 r2 with
      | nx r' => simp only [eb] at q1; exact fun σ3 G3 H3 le3 si3 => ⟨r',G3,si3,oTo.gle q1 (Gle.trans w'.ge le3)⟩
      | ct r' => simp only [eb] at q1; exact fun σ3 G3 H3 le3 si3 => ⟨r',G3,si3,oTo.gle q1 (Gle.trans w'.ge le3)⟩
      | bk r' => simp only [eb] at q1; exact fun σ3 G3 H3 le3 si3 => q1 σ3 G3 H3 (Gle.trans w'.ge le3) (si0.unlock si3)
      | rt d =>
        simp only [eb] at q1
        intro v G2 H2 wr rv2
        refine q1 v G2 H2 (si0.grown.trans wr) ?_
        cases ro with
        | false => exact rv2
        | true =>
          rcases rv2 with ⟨a,e1,e2,e3⟩ | z
          · exact .inl ⟨a,e1,si0.grown.back e2,e3⟩
          · exact .inr z
      | exc x r' => exact fun pins e s' σ3 G3 H3 le3 _ _ ex => (show False from ex).elim
      | stuck => simp only [eb] at q1; exact q1
  · have e : i = ds.length := by omega
    subst e
    rw [List.drop_length] at q1
    exact .inl ⟨Y.stop G1 H1 wg,q1 σ1 G1 H1 (Gle.refl _) (si0.unlock si1)⟩
noncomputable def zbp (m : List Md) (p : FQ) (body : FS) : Nat→FS
  | 0,_ => .stuck
  | n + 1,r => onE m r (p r) fun c => if c = true then (match body r with
      | .nx r' => zbp m p body n r'
      | .ct r' => zbp m p body n r'
      | .bk r' => .nx r'
      | o => o) else .nx r
theorem zgR (n : Nat) (hp : PassesOwn (model X.prog X.w) X.A X.env X.xe) (hc : SQ X g m c p) (hb : SSs X g ro m m sts s1 m) : SS X g ro mb m (.While c sts [] pos) (zbp m p s1 n) m := by
  refine ⟨rfl,PS.imp (zkx hp hc hb.2) fun D σ H ⟨r,G,si,q⟩ => ?_⟩
  refine ⟨fun n σ H => ∃ r G,SI X g m r G σ H∧oTo X g ro m mb G D (zbp m p s1 n r),⟨n,r,G,si,q⟩,?_⟩
  rintro n σ1 H1 ⟨r1,G1,si1,q1⟩
  cases n with
  | zero => exact q1.elim
  | succ n =>
    unfold zbp at q1
    refine ⟨r1,G1,si1,zah (zbZ si1 rfl q1) fun c q2 G2 H2 w2 => ?_⟩
    cases c with
    | false => rw [if_neg Bool.false_ne_true] at q2 ⊢; exact q2 σ1 G2 H2 w2.ge (si1.grow w2)
    | true =>
      rw [if_pos rfl] at q2 ⊢
      refine ⟨fun σ' H' => ∃ r G,SI X g m r G σ' H'∧oTo X g ro m mb G D (zbp m p s1 n r),fun σ' H' h => ⟨n,Nat.lt_succ_self _,h⟩,r1,G2,si1.grow w2,?_⟩
      cases eb : s1 r1 with
      | nx r' => simp only [eb] at q2; exact fun σ3 G3 H3 le3 si3 => ⟨r',G3,si3,oTo.gle q2 (Gle.trans w2.ge le3)⟩
      | ct r' => simp only [eb] at q2; exact fun σ3 G3 H3 le3 si3 => ⟨r',G3,si3,oTo.gle q2 (Gle.trans w2.ge le3)⟩
      | bk r' => simp only [eb] at q2; exact fun σ3 G3 H3 le3 si3 => q2 σ3 G3 H3 (Gle.trans w2.ge le3) si3
      | rt d => simp only [eb] at q2; exact q2
      | exc x r' => simp only [eb] at q2; exact fun pins e s' σ3 G3 H3 le3 => q2 pins e s' σ3 G3 H3 (Gle.trans w2.ge le3)
      | stuck => simp only [eb] at q2; exact q2
end
noncomputable def noX : Res D→Res D
  | .ok d => .ok d
  | _ => .stuck
@[simp] theorem noX_ok (d : D) : noX (.ok d) = .ok d := rfl
inductive ArgsOk (K : PySem.W.Frag) (G : GH) (H : Hp) : List Md→List V→List D→Prop where
  | nil : ArgsOk K G H [] [] []
  | sh {v : V} {d : D} {ms : List Md} {vs : List V} {ds : List D} : RG K G v d→ArgsOk K G H ms vs ds→ArgsOk K G H (.sh::ms) (v::vs) (d::ds)
  | bw {v : V} {d : D} {ms : List Md} {vs : List V} {ds : List D} : RB K G H v d→ArgsOk K G H ms vs ds→ArgsOk K G H (.bw::ms) (v::vs) (d::ds)
section
variable {K : PySem.W.Frag} {G G' : GH} {H H' : Hp}
theorem ArgsOk.len : ∀ {ms : List Md} {vs : List V} {ds : List D},ArgsOk K G H ms vs ds→vs.length = ms.length∧ds.length = ms.length
  | _,_,_,.nil => ⟨rfl,rfl⟩
  | _,_,_,.sh h t => ⟨congrArg (· + 1) t.len.1,congrArg (· + 1) t.len.2⟩
  | _,_,_,.bw h t => ⟨congrArg (· + 1) t.len.1,congrArg (· + 1) t.len.2⟩
theorem ArgsOk.app {dvs : List V} {dds : List D} (hs : Paired Scl dvs dds) : ∀ {ms : List Md} {vs : List V} {ds : List D},ArgsOk K G H ms vs ds→ArgsOk K G H (ms++List.replicate dds.length .sh) (vs++dvs) (ds++dds)
  | _,_,_,.nil => by
    induction hs with
    | nil => exact .nil
    | cons h t ih => exact .sh (.scl h) ih
  | _,_,_,.sh h t => .sh h (t.app hs)
  | _,_,_,.bw h t => .bw h (t.app hs)
theorem ArgsOk.get : ∀ {ms : List Md} {vs : List V} {ds : List D} {i : Nat} {d : D},ArgsOk K G H ms vs ds→ds[i]? = some d→∃ v,vs[i]? = some v∧((ms[i]? = some .sh∧RG K G v d)∨(ms[i]? = some .bw∧RB K G H v d))
  | _,_,_,_,_,.nil,e => by simp at e
  | _,_,_,0,_,.sh h t,e => by simp at e; subst e; exact ⟨_,rfl,.inl ⟨rfl,h⟩⟩
  | _,_,_,0,_,.bw h t,e => by simp at e; subst e; exact ⟨_,rfl,.inr ⟨rfl,h⟩⟩
  | _,_,_,i + 1,d,.sh h t,e => by
    obtain ⟨v,h1,h2⟩ := t.get (i := i) (d := d) (by simpa using e)
    exact ⟨v,by simpa using h1,by simpa using h2⟩
  | _,_,_,i + 1,d,.bw h t,e => by
    obtain ⟨v,h1,h2⟩ := t.get (i := i) (d := d) (by simpa using e)
    exact ⟨v,by simpa using h1,by simpa using h2⟩
end
noncomputable def spM (K : PySem.W.Frag) (ro : Bool) (ms : List Md) (F : List D→Res D) : Sp := fun vs H Q _ => ∃ G ds,GOk K G H∧ArgsOk K G H ms vs ds∧fin (F ds) (fun d => ∀ v G' H',Grow K G H G' H'→RV ro K H G' H' v d→Q v H') fun _ => False
noncomputable def outR (ro : Bool) : Out→Res D
  | .nx _ => if ro = true then .stuck else .ok .non
  | .rt d => .ok d
  | .exc x _ => .exc x
  | _ => .stuck
noncomputable def zaw (n : Nat) (ds : List D) : Rho := ds.map some++List.replicate (n - ds.length) none
noncomputable def zeG (n : Nat) (ms : List Md) : List Md := ms++List.replicate (n - ms.length) .sh
section
variable {P : Program} {w : World} {K : PySem.W.Frag} {mg : Str → Option Value} {base : Heap}
theorem zkl {X : Cx} {N : List Str} {ms : List Md} {vs : List V} {ds : List D} {G : GH} {H : Hp} (gk : GOk X.K G H) (rs : ArgsOk X.K G H ms vs ds) (hn : ms.length≤N.length) : SI X ⟨G,H,fun _ => none⟩ (zeG N.length ms) (zaw N.length ds) G (L2.start N vs) H := by
  obtain ⟨l1,l2⟩ := rs.len
  have e1 : (L2.start N vs).length = N.length := by unfold L2.start; rw [List.length_append,List.length_map,List.length_replicate]; omega
  have e2 : (zaw N.length ds).length = N.length := by unfold zaw; rw [List.length_append,List.length_map,List.length_replicate]; omega
  have e3 : (zeG N.length ms).length = N.length := by unfold zeG; rw [List.length_append,List.length_replicate]; omega
  have at_ : ∀ (i : Nat) d,(zaw N.length ds)[i]? = some (some d)→i < ms.length∧(zeG N.length ms)[i]? = ms[i]?∧∃ v,(L2.start N vs)[i]? = some (some v)∧((ms[i]? = some .sh∧RG X.K G v d)∨(ms[i]? = some .bw∧RB X.K G H v d)) := fun i d h => by
    unfold zaw at h
    by_cases hi : i < ds.length
    · rw [List.getElem?_append_left (by simpa using hi),List.getElem?_map] at h
      have hd : ds[i]? = some d := by
        cases z : ds[i]? with
        | none => rw [z] at h; cases h
        | some d' => rw [z] at h; cases h; rfl
      obtain ⟨v,hv,rv⟩ := rs.get hd
      refine ⟨by omega,?_,v,?_,rv⟩
      · unfold zeG
        rw [List.getElem?_append_left (by omega)]
      · unfold L2.start
        rw [List.getElem?_append_left (by rw [List.length_map]; omega),List.getElem?_map,hv]
        rfl
    · rw [List.getElem?_append_right (by simpa using hi),List.getElem?_replicate] at h
      split at h <;> cases h
  refine ⟨gk,fun _ _ e => e,fun _ _ e => e,fun _ _ => rfl,by rw [e3,e1],by rw [e1,e2],fun i d h hm => ?_,fun i d h hm => ?_,fun i d h hm => ?_,fun i j a d e _ h _ hm => ?_,fun i o h => nomatch h⟩
  · obtain ⟨_,hq,v,h1,h2⟩ := at_ i d h
    rw [hq] at hm
    rcases h2 with ⟨_,h2⟩ | ⟨h3,h2⟩
    · exact ⟨v,h1,h2⟩
    · rw [hm] at h3; cases h3
  · obtain ⟨_,hq,v,h1,h2⟩ := at_ i d h
    rw [hq] at hm
    rcases h2 with ⟨h3,h2⟩ | ⟨h3,h2⟩ <;> rw [hm] at h3 <;> cases h3
  · obtain ⟨_,hq,v,h1,h2⟩ := at_ i d h
    rw [hq] at hm
    rcases h2 with ⟨h3,h2⟩ | ⟨h3,h2⟩
    · rw [hm] at h3; cases h3
    · refine ⟨v,h1,?_⟩
      rcases h2 with h2 | ⟨a,rfl,h2⟩
      · exact .inl h2
      · exact .inr ⟨a,rfl,h2,h2.ob.isS⟩
  · obtain ⟨_,hq,v,h1,h2⟩ := at_ i d h
    rw [hq] at hm
    rcases h2 with ⟨h3,h2⟩ | ⟨h3,h2⟩ <;> rw [hm] at h3 <;> cases h3
theorem zlb {X : Cx} {ro : Bool} {fs : FS} {m' : List Md} {G : GH} {H : Hp} {r : Rho} {Q : VK} (q : fin (outR ro (fs r)) (fun d => ∀ v G' H',Grow X.K G H G' H'→RV ro X.K H G' H' v d→Q v H') fun _ => False) :
    oTo X ⟨G,H,fun _ => none⟩ ro m' [] G { nx := fun _ H' => Q .non H',rt := Q } (fs r) := by
  cases e : fs r with
  | nx r' =>
    rw [e] at q
    cases ro with
    | false => exact fun σ' G' H' _ si => q .non G' H' si.grown (.scl .non)
    | true => exact q.elim
  | rt d => rw [e] at q; exact fun v G' H' wg rv => q v G' H' wg rv
  | bk r' => rw [e] at q; exact q.elim
  | ct r' => rw [e] at q; exact q.elim
  | exc x r' => rw [e] at q; exact q.elim
  | stuck => rw [e] at q; exact q
theorem zlL {x qual : Str} {st : Stmt} {f : Addr} {fd : FuncData} {N ps : List Str} {k : Nat} {ro : Bool} {ms : List Md} {fs : FS} {m' : List Md} (F : Fun K x qual st f fd) (S : FnScope N ps (zae st)) (hms : ms.length = ps.length)
    (hbody : ∀ (cdv : Value) (A : Around) (outer : List Env) (s : Shared) (H : Hp) (g : GE) (E : XK),Room k (A.deeper (envOfC qual (zae st) s.heap.objs.size f cdv)) →
      SSs (cxOf CX0 P w K mg base N qual (zae st) f cdv A outer s H E).nox g ro [] (zeG N.length ms) (zci st) fs m') :
    FnOk P w K mg base CX0 (k + 1) f fd ps (spM K ro ms fun ds => outR ro (fs (zaw N.length ds))) := by
  refine F.ok S (fun vs H Q E ⟨G,ds,gk,rs,q⟩ => rs.len.1.trans hms) fun cdv A outer s H vs Q E hr h => ?_
  obtain ⟨G,ds,gk,rs,q⟩ := h
  have hpl : ps.length≤N.length := by have := congrArg List.length S.pre; rw [List.length_take] at this; omega
  exact ⟨_,(hbody cdv A outer s H ⟨G,H,fun _ => none⟩ E hr).2,zaw N.length ds,G,zkl gk rs (by omega),zlb q⟩
end
section
variable {X : Cx} {g : GE} {m : List Md} {e : Expr} {f : FE} {es : List Expr} {fl : Rho → Res (List D)} {k : Nat} {fa : Addr} {fd : FuncData} {ps : List Str} {F : List D → Res D} {dvs : List V} {ds : List Value} {dds : List D} {x : Str} {p pos : Pos} {ms : List Md}
noncomputable def tLM (X : Cx) (g : GE) (m : List Md) (ms : List Md) (f : Rho→Res (List D)) : TA := fun σ H Q => ∃ r G,SI X g m r G σ H∧fin (f r) (fun ds => ∀ vs G' H',Grow X.K G H G' H'→ArgsOk X.K G' H' ms vs ds→Q vs H') (XW X σ G H)
noncomputable def SAM (X : Cx) (g : GE) (m : List Md) (es : List Expr) (ms : List Md) (f : Rho→Res (List D)) : Prop := PA X es (tLM X g m ms f)
theorem za2 : SAM X g m [] [] lNil := PA.imp zdy fun σ H Q ⟨r,G,si,k⟩ => k [] G H (Grow.refl si.gok) .nil
theorem m_sh (ha : SE X g m e f) (hr : SAM X g m es ms fl) (hs : starEach (e::es) X.env = (false,eval e X.env)::starEach es X.env := by rfl) : SAM X g m (e::es) (.sh::ms) (zab f fl) := by
  refine PA.imp (zbB ha hr hs) fun σ H Q ⟨r,G,si,k⟩ => ⟨r,G,si,zah (zag k) fun d k1 v G1 H1 w1 r1 => ⟨r,G1,si.grow w1,?_⟩⟩
  exact zaO (zag k1) w1 fun ds z vs G2 H2 w2 r2 => z (v::vs) G2 H2 (w1.trans w2) (.sh (r1.mono w2.ge) r2)
theorem m_bw (ha : SB X g m e f) (hr : SAM X g m es ms fl) (hs : starEach (e::es) X.env = (false,eval e X.env)::starEach es X.env := by rfl) : SAM X g m (e::es) (.bw::ms) (zab f fl) := by
  refine PA.imp (zbB ha hr hs) fun σ H Q ⟨r,G,si,k⟩ => ⟨r,G,si,zah (zag k) fun d k1 v G1 H1 w1 r1 => ⟨r,G1,si.grow w1,?_⟩⟩
  exact zaO (zag k1) w1 fun ds z vs G2 H2 w2 r2 => z (v::vs) G2 H2 (w1.trans w2) (.bw (r1.mono w2) r2)
noncomputable def zaz (fl : Rho→Res (List D)) (dds : List D) (F : List D→Res D) : FE := fun r => (fl r).bind fun ds => noX (F (ds++dds))
theorem zj2 {ro : Bool} {vs : List V} {zs : List D} {G : GH} {H : Hp} {Q : VK} (gk : GOk X.K G H) (rs : ArgsOk X.K G H ms vs zs) (hsc : Paired Scl dvs dds) (q : fin (noX (F (zs++dds))) (fun d => ∀ v G' H',Grow X.K G H G' H'→RV ro X.K H G' H' v d→Q v H') fun _ => False) :
    spM X.K ro (ms++List.replicate dds.length .sh) F (vs++dvs) H Q E0 := by
  refine ⟨G,zs++dds,gk,rs.app hsc,?_⟩
  cases e : F (zs++dds) with
  | ok d => rw [e] at q; exact q
  | exc x => rw [e] at q; exact q.elim
  | stuck => rw [e] at q; exact q.elim
theorem zjG {α : Type} {r : Res α} {q : α→Prop} {x : D→Prop} (h : fin r q x) (hr : ∀ e,r≠.exc e) : fin r q fun _ => False := by
  cases r with
  | ok a => exact h
  | exc e => exact absurd rfl (hr e)
  | stuck => exact h
theorem zn5 (r : Res D) (e : D) : noX r≠.exc e := by cases r <;> simp [noX]
theorem znt (G1 : FnOk X.prog X.w X.K X.mg X.base CX0 k fa fd ps (spM X.K false (ms++List.replicate dds.length .sh) F)) (hr : Room k X.A) (hg : Gl X x) (hm : X.mg x = some (.ref fa)) (hk : PySem.W.keepIn X.K (.ref fa) = true) (hb : zhm X.K fd ps ds) (hd : Vals dvs ds) (hsc : Paired Scl dvs dds)
    (ha : SAM X g m (e::es) ms fl) (hdb : (x == ("__debug__" : Str)) = false := by decide) (he : starEach (e::es) X.env = (false,eval e X.env)::starEach es X.env := by rfl) (hpl : (backTo pos (starEach es X.env)).any (·.1) = false := by rfl) :
    SE X g m (.Call (.Name x p) (e::es) [] pos) (zaz fl dds F) := by
  refine PE.imp (zmi G1 hr hg hm hk hb hd zpx ha hdb he hpl) fun σ H Q ⟨r,G,si,q⟩ => ⟨r,G,si,?_⟩
  cases ez : fl r with
  | ok zs =>
    unfold zaz at q
    rw [ez] at q
    intro vs G' H' w' rs
    exact zj2 w'.ok rs hsc (zah (zjG q (zn5 _)) fun d k v G2 H2 w2 rv => k v G2 H2 (w'.trans w2) rv)
  | exc x => unfold zaz at q; rw [ez] at q; exact q
  | stuck => unfold zaz at q; rw [ez] at q; exact q
end
end DL
end
section
namespace DL
open PySem PySem.Spec PyProof.Rows L2
theorem zk3 {env : Env} : ∀ (l : List (Str × NameKind)) (cs : List (Str × Addr)),(∀ x∈l,x.2 = .free→∃ c,env.cells.lookup x.1 = some c)→(∀ x c,cs.lookup x = some c→env.cells.lookup x = some c) →
    ∃ cl,(forIn l cs (fun (x : Str × NameKind) (cs : List (Str × Addr)) => if (x.2 == NameKind.free) = true then (do let a ← cellOf env x.1; pure (ForInStep.yield ((x.1,a)::cs))) else pure (ForInStep.yield cs)) : Sem (List (Str × Addr))) = pure cl ∧
      (∀ x c,cl.lookup x = some c→env.cells.lookup x = some c)∧(∀ x,(x,NameKind.free)∈l→∃ c,cl.lookup x = some c)∧(∀ x c,cs.lookup x = some c→∃ c',cl.lookup x = some c') := by
  intro l
  induction l with
  | nil => intro cs _ h; exact ⟨cs,rfl,h,fun x hx => (by cases hx),fun x c h => ⟨c,h⟩⟩
  | cons y l ih =>
    intro cs hf hc
    obtain ⟨n,k⟩ := y
    by_cases hk : k = .free
    · subst hk
      obtain ⟨c,ec⟩ := hf (n,.free) List.mem_cons_self rfl
      have e1 : cellOf env n = pure c := by unfold cellOf; rw [ec]
      have hc' : ∀ x c',((n,c)::cs).lookup x = some c'→env.cells.lookup x = some c' := fun x c' h => by
        rw [List.lookup_cons] at h
        cases q : x == n with
        | true => rw [q] at h; cases h; rw [eq_of_beq q]; exact ec
        | false => rw [q] at h; exact hc x c' h
      obtain ⟨cl,e2,h1,h2,h3⟩ := ih ((n,c)::cs) (fun x hx => hf x (List.mem_cons_of_mem _ hx)) hc'
      refine ⟨cl,?_,h1,fun x hx => ?_,fun x c' h => ?_⟩
      · rw [← e2]
        rw [List.forIn_cons]
        show (cellOf env n >>= fun a => pure (ForInStep.yield ((n,a)::cs))) >>= _ = _
        rw [e1]
        rfl
      · rcases List.mem_cons.mp hx with z | z
        · cases z; exact h3 n c (by rw [List.lookup_cons]; simp)
        · exact h2 x z
      · cases q : x == n with
        | true => exact h3 x c (by rw [List.lookup_cons,q])
        | false => exact h3 x c' (by rw [List.lookup_cons,q]; exact h)
    · obtain ⟨cl,e2,h1,h2,h3⟩ := ih cs (fun x hx => hf x (List.mem_cons_of_mem _ hx)) hc
      have hb : (k == NameKind.free) = false := by simpa using hk
      refine ⟨cl,?_,h1,fun x hx => ?_,h3⟩
      · rw [← e2,List.forIn_cons]
        simp only [hb,Bool.false_eq_true,if_false]
        rfl
      · rcases List.mem_cons.mp hx with z | z
        · cases z; exact absurd rfl hk
        · exact h2 x z
theorem zif {scope : Scope} {env : Env} (hf : ∀ x∈scope.names,x.2 = .free→∃ c,env.cells.lookup x.1 = some c) :
    ∃ cl,closureFor scope env = pure cl∧(∀ x c,cl.lookup x = some c→env.cells.lookup x = some c)∧(∀ x,(x,NameKind.free)∈scope.names→∃ c,cl.lookup x = some c) := by
  obtain ⟨cl,e,h1,h2,_⟩ := zk3 scope.names [] hf (fun x c h => by cases h)
  refine ⟨cl,?_,h1,h2⟩
  have e0 : closureFor scope env = ((forIn scope.names ([] : List (Str × Addr)) (fun (x : Str × NameKind) (cs : List (Str × Addr)) => if (x.2 == NameKind.free) = true then (do let a ← cellOf env x.1; pure (ForInStep.yield ((x.1,a)::cs))) else pure (ForInStep.yield cs)) : Sem (List (Str × Addr))) >>= fun cs => pure cs) := rfl
  rw [e0,e]
  rfl
theorem zdB {f : Str→NameKind→NameKind} : ∀ (l : List (Str × NameKind)) (x : Str),(l.map fun y => (y.1,f y.1 y.2)).lookup x = (l.lookup x).map (f x)
  | [],x => rfl
  | (n,k)::l,x => by
    rw [List.map_cons,List.lookup_cons,List.lookup_cons]
    cases q : x == n with
    | true => simp [eq_of_beq q]
    | false => exact zdB l x
noncomputable def relK (env : Env) (n : Str) (k : NameKind) : NameKind := if (k == .free && env.scope.kind == .function && env.kindOf n == some .cell) = true then .cell else k
theorem zdx (scope : Scope) (env : Env) (x : Str) : (relabel scope env).names.lookup x = (scope.names.lookup x).map (relK env x) := by
  rw [← zdB]
  unfold relabel
  congr 1
  apply List.map_congr_left
  intro y _
  obtain ⟨n,k⟩ := y
  show (if (k == NameKind.free && env.scope.kind == .function && env.kindOf n == some .cell) = true then (n,NameKind.cell) else (n,k)) = (n,relK env n k)
  unfold relK
  split <;> rfl
structure CompSc (X : Cx) (scope : Scope) (N' : List Str) (nl : Nat) (cap : List Nat) : Prop where
  kind : scope.kind = .function
  nocell : ∀ y∈scope.names,y.2≠.cell
  names : ∀ y∈scope.names,y.2 = .local→scope.names.lookup y.1 = some .local
  freeK : ∀ y∈scope.names,y.2 = .free→X.env.kindOf y.1 = some .cell∨X.env.kindOf y.1 = some .free
  len : N'.length = nl + cap.length
  capN : ∀ j,j < cap.length→∃ x,N'[nl + j]? = some x∧X.N[cap.getD j 0]? = some x∧scope.names.lookup x = some .free
noncomputable def cxC (X : Cx) (s₀ : Shared) (H₀ : Hp) (N' : List Str) (scope : Scope) (cl : List (Str × Addr)) (C : Addr) (fp : List Addr) : Cx where
  prog := X.prog
  w := X.w
  K := X.K
  mg := X.mg
  base := X.base
  A := X.A
  N := N'
  s₀ := s₀
  H₀ := H₀
  env := compEnvC scope cl C X.env
  outer := X.stack
  stack := X.stack
  ex := fp
  fn := fun _ => false
  calm := X.calm
  pn := []
  xe := fun _ _ => False
section
variable {X : Cx} {pins : List (Addr × Obj)} {σ : L2.St} {H : Hp} {s : Shared} {scope : Scope} {N' : List Str} {nl : Nat} {cap : List Nat} {cl : List (Str × Addr)} {C : Addr} {fp : List Addr}
theorem zoQ (I : Inv X pins σ H s) (sc : CompSc X scope N' nl cap) (h1 : ∀ x c,cl.lookup x = some c→X.env.cells.lookup x = some c) (h2 : ∀ x,(x,NameKind.free)∈scope.names→∃ c,cl.lookup x = some c)
    (hf : ∀ b∈fp,FpOk X pins H b∧b < s.heap.objs.size) (hC : s.heap.objs.size≤C) : (cxC X s H N' scope cl C fp).Ok where
  mod := I.ok.mod
  kind := sc.kind
  glob := I.ok.glob
  blt := I.ok.blt
  above := hC
  inj := fun x y c a b => I.ok.inj x y c (h1 x c a) (h1 y c b)
  has := fun x hk => by
    have hk' : (scope.names.lookup x).map (relK X.env x) = some .cell∨(scope.names.lookup x).map (relK X.env x) = some .free := by
      rw [← zdx]; exact hk
    cases e : scope.names.lookup x with
    | none => rw [e] at hk'; rcases hk' with z | z <;> cases z
    | some k =>
      have hm := PySem.mem_of_lookup e
      have kf : k = .free := by
        rw [e] at hk'
        have hk2 : relK X.env x k = .cell∨relK X.env x k = .free := by
          rcases hk' with z | z
          · exact .inl (Option.some.inj z)
          · exact .inr (Option.some.inj z)
        unfold relK at hk2
        split at hk2
        · rename_i hc
          simp only [Bool.and_eq_true,beq_iff_eq] at hc
          exact hc.1.1
        · rcases hk2 with z | z
          · exact absurd z (sc.nocell _ hm)
          · exact z
      subst kf
      exact h2 x hm
  cab := fun x c h => by cases h
  hd := I.ok.hd
  frames := I.ok.frames
  stk := .inl rfl
  exf := fun b hb => ⟨Nat.ne_of_lt (Nat.lt_of_lt_of_le (hf b hb).2 hC),fun x c e => (hf b hb).1.2.2.2.2.1 x c (h1 x c e)⟩
  bs := I.bs
  bsz := Nat.le_trans I.ok.bsz I.sz
  noex := fun b o e hb => by
    obtain ⟨_,_,_,hx,_⟩ := (hf b hb).1
    rcases hx with z | z
    · exact I.ok.noex b o e z
    · exact absurd (Nat.lt_of_lt_of_le (Heap.lt_size e) (Nat.le_trans I.ok.bsz z)) (Nat.lt_irrefl _)
  exfs := fun b hb hfs => by
    obtain ⟨_,q1,q2,_⟩ := (hf b hb).1
    rcases List.mem_cons.mp (I.stkSub b hfs) with z | z
    · exact q1 z
    · exact q2 z
  funs := I.stack
  frf := I.stkFree
end
noncomputable def zdI (ft : FT) (q : FQ) (fe : FE) (r0 : Rho) : List D→Res (List D)
  | [] => .ok []
  | d::ds => (opt (ft d r0)).bind fun r1 => (q r1).bind fun c => if c = true then (fe r1).bind fun v => (zdI ft q fe r0 ds).bind fun vs => .ok (v::vs) else zdI ft q fe r0 ds
noncomputable def capR (nl : Nat) (cap : List Nat) (r : Rho) : Rho := List.replicate nl none++cap.map fun i => r.getD i none
noncomputable def capM (nl : Nat) (cap : List Nat) (m : List Md) : List Md := List.replicate nl Md.sh++cap.map fun i => if m.getD i Md.sh = Md.sh then Md.sh else Md.bw
noncomputable def capS (nl : Nat) (cap : List Nat) (st : L2.St) : L2.St := List.replicate nl none++cap.map fun i => st.getD i none
theorem ze4 {α : Type} {nl : Nat} {cap : List Nat} {u : α} {h : Nat→α} {i : Nat} (hi : nl≤i) : (List.replicate nl u++cap.map h)[i]? = (cap[i - nl]?).map h := by
  rw [List.getElem?_append_right (by simpa using hi),List.length_replicate,List.getElem?_map]
section
variable {X : Cx} {pins : List (Addr × Obj)} {σ : L2.St} {H H' : Hp} {s : Shared} {scope : Scope} {N' : List Str} {nl : Nat} {cap : List Nat} {cl : List (Str × Addr)} {C : Addr} {fp : List Addr} {g : GE} {G G' : GH} {m : List Md} {r : Rho}
theorem zp0 (si : SI X g m r G σ H) (w : Grow X.K G H G' H') : SI (cxC X s H N' scope cl C fp) ⟨G,H,fun _ => none⟩ (capM nl cap m) (capR nl cap r) G' (capS nl cap σ) H' := by
  have lens : (capM nl cap m).length = nl + cap.length := by simp [capM]
  have lens2 : (capR nl cap r).length = nl + cap.length := by simp [capR]
  have lens3 : (capS nl cap σ).length = nl + cap.length := by simp [capS]
  have rget : ∀ (i : Nat) d,(capR nl cap r)[i]? = some (some d)→nl≤i∧∃ j,cap[i - nl]? = some j∧r[j]? = some (some d) := fun i d h => by
    by_cases hi : i < nl
    · unfold capR at h
      rw [List.getElem?_append_left (by simpa using hi),List.getElem?_replicate] at h
      split at h <;> cases h
    · refine ⟨by omega,?_⟩
      unfold capR at h
      rw [ze4 (by omega)] at h
      cases e : cap[i - nl]? with
      | none => rw [e] at h; cases h
      | some j =>
        rw [e] at h
        refine ⟨j,rfl,?_⟩
        have h' : r.getD j none = some d := Option.some.inj h
        rw [List.getD_eq_getElem?_getD] at h'
        cases e2 : r[j]? with
        | none => rw [e2] at h'; cases h'
        | some o => rw [e2] at h'; rw [show o = some d from h']
  have mget : ∀ (i j : Nat) md,nl≤i→cap[i - nl]? = some j→(capM nl cap m)[i]? = some md→md = if m.getD j Md.sh = Md.sh then Md.sh else Md.bw := fun i j md hi hj h => by
    unfold capM at h
    rw [ze4 hi,hj] at h
    exact (Option.some.inj h).symm
  have sget : ∀ (i j : Nat) v,nl≤i→cap[i - nl]? = some j→σ[j]? = some (some v)→(capS nl cap σ)[i]? = some (some v) := fun i j v hi hj h => by
    unfold capS
    rw [ze4 hi,hj]
    show some (σ.getD j none) = _
    rw [List.getD_eq_getElem?_getD,h]
    rfl
  have mj : ∀ (j : Nat) d,r[j]? = some (some d)→m[j]? = some (m.getD j Md.sh) := fun j d h => by
    have hl : j < m.length := by
      have := (List.getElem?_eq_some_iff.mp h).1
      rw [si.lr,← si.lm] at this; exact this
    rw [List.getD_eq_getElem?_getD,List.getElem?_eq_getElem hl]
    rfl
  refine ⟨w.ok,w.he,w.ge,w.gf,by rw [lens,lens3],by rw [lens2,lens3],fun i d h hm => ?_,fun i d h hm => ?_,fun i d h hm => ?_,fun i j a d e _ h _ hm => ?_,fun i o h => nomatch h⟩
  · obtain ⟨hi,j,hj,hr⟩ := rget i d h
    have e := mget i j _ hi hj hm
    have hsh : m.getD j Md.sh = Md.sh := by
      by_cases z : m.getD j Md.sh = Md.sh
      · exact z
      · rw [if_neg z] at e; cases e
    obtain ⟨v,h1,h2⟩ := si.sh j d hr (by rw [mj j d hr,hsh])
    exact ⟨v,sget i j v hi hj h1,h2.mono w.ge⟩
  · obtain ⟨hi,j,hj,hr⟩ := rget i d h
    have e := mget i j _ hi hj hm
    split at e <;> cases e
  · obtain ⟨hi,j,hj,hr⟩ := rget i d h
    have e := mget i j _ hi hj hm
    have hsh : m.getD j Md.sh≠Md.sh := by
      intro z
      rw [if_pos z] at e; cases e
    have hmj := mj j d hr
    cases q : m.getD j Md.sh with
    | sh => exact absurd q hsh
    | ow =>
      rw [q] at hmj
      obtain ⟨a,h1,h2,_⟩ := si.ow j d hr hmj
      exact ⟨_,sget i j _ hi hj h1,.inr ⟨a,rfl,h2.mono w,h2.ob.isS⟩⟩
    | bw =>
      rw [q] at hmj
      obtain ⟨v,h1,h2⟩ := si.bw j d hr hmj
      refine ⟨v,sget i j _ hi hj h1,?_⟩
      rcases h2 with h2 | ⟨a,rfl,h2,_⟩
      · exact .inl (h2.mono w.ge)
      · exact .inr ⟨a,rfl,h2.mono w,h2.ob.isS⟩
  · obtain ⟨hi,j',hj,hr⟩ := rget i d h
    have e := mget i j' _ hi hj hm
    split at e <;> cases e
theorem zoS (I : Inv X pins σ H s) (ok : (cxC X s H N' scope cl C fp).Ok) (sc : CompSc X scope N' nl cap) (h1 : ∀ x c,cl.lookup x = some c→X.env.cells.lookup x = some c) (h2 : ∀ x,(x,NameKind.free)∈scope.names→∃ c,cl.lookup x = some c)
    (hN : X.N.Nodup) {s4 : Shared} {H4 : Hp} {mc : Str→Option Value} (hos : s4.os = s.os) (hb : AllBare s4.gens) (kp : ∀ b o,s.heap.get? b = some o→s4.heap.get? b = some o) (hns : s4.heap.Ns C mc) (hC : s.heap.objs.size≤C) (hHC : H4 C = none)
    (hH : ∀ b,H b = none→b < s.heap.objs.size→H4 b = none) (un : Un (frs X.stack) fp H H4 s.heap s4.heap) (hok : HOk X.prog X.w H4 s4.heap) : Inv (cxC X s H N' scope cl C fp) [] (capS nl cap σ) H4 s4 := by
  refine ⟨ok,hos,hb,un,⟨mc,hns,fun i x v e1 e2 e3 => ?_⟩,fun x c e => ?_,hHC,fun x c e => ?_,fun p hp => absurd (show p∈([] : List (Addr × Obj)) from hp) (by simp),hok,?_⟩
  · have hi : nl≤i := by
      by_cases z : i < nl
      · unfold capS at e2
        rw [List.getElem?_append_left (by simpa using z),List.getElem?_replicate] at e2
        split at e2 <;> cases e2
      · omega
    unfold capS at e2
    rw [ze4 hi] at e2
    cases ej : cap[i - nl]? with
    | none => rw [ej] at e2; cases e2
    | some j =>
      rw [ej] at e2
      have hj : i - nl < cap.length := (List.getElem?_eq_some_iff.mp ej).1
      obtain ⟨x',q1,q2,q3⟩ := sc.capN (i - nl) hj
      have ed : cap.getD (i - nl) 0 = j := by rw [List.getD_eq_getElem?_getD,ej]; rfl
      rw [ed] at q2
      have ei : nl + (i - nl) = i := by omega
      rw [ei] at q1
      have e1' : N'[i]? = some x := e1
      rw [q1] at e1'
      have ex : x' = x := Option.some.inj e1'
      subst ex
      have hv : σ[j]? = some (some v) := by
        have z : σ.getD j none = some v := Option.some.inj e2
        rw [List.getD_eq_getElem?_getD] at z
        cases q : σ[j]? with
        | none => rw [q] at z; cases z
        | some o => rw [q] at z; rw [show o = some v from z]
      have hfree := PySem.mem_of_lookup q3
      have kX := sc.freeK _ hfree rfl
      obtain ⟨mx,hnx,hl⟩ := I.loc
      obtain ⟨u,ru,lk⟩ := hl j x' v q2 hv (.inr kX)
      refine ⟨u,ru,.inr ?_⟩
      obtain ⟨c,ec⟩ := h2 x' hfree
      have hkk : Env.kindOf (cxC X s H N' scope cl C fp).env x' = some .cell∨Env.kindOf (cxC X s H N' scope cl C fp).env x' = some .free := by
        have z : (relabel scope X.env).names.lookup x' = some (relK X.env x' .free) := by rw [zdx,q3]; rfl
        show (relabel scope X.env).names.lookup x' = _∨(relabel scope X.env).names.lookup x' = _
        rw [z]
        unfold relK
        split
        · exact .inl rfl
        · exact .inr rfl
      refine ⟨hkk,c,ec,?_⟩
      rcases lk with ⟨k,_⟩ | ⟨_,c',ec',hcell⟩
      · rcases kX with z | z <;> rw [k] at z <;> cases z
      · rw [h1 x' c ec] at ec'
        cases ec'
        obtain ⟨o,ho,hd⟩ := hcell
        exact ⟨o,kp c o ho,hd⟩
  · obtain ⟨v,o,ho,hd⟩ := I.cell x c (h1 x c e)
    exact ⟨v,o,kp c o ho,hd⟩
  · obtain ⟨v,o,ho,hd⟩ := I.cell x c (h1 x c e)
    exact hH c (I.freeC x c (h1 x c e)) (Heap.lt_size ho)
  · show (capS nl cap σ).length = N'.length
    rw [sc.len]
    simp [capS]
end
end DL
end
section
namespace DL
open PySem PySem.Spec PyProof.Rows L2
section
variable {prog : Program} {w : World} {A : Around} {R : Result → Shared → Prop} {s : Shared}
theorem zmS {elt target iter : Expr} {ifs : List Expr} {scope : Scope} {pos : Pos} {it acc : Value} {env : Env} (I : Nat→Shared→Prop)
    (turn : ∀ n s,I n s→wpAny (model prog w) A (pyNext it) (fun r s1 => match r with
      | none => R (.ok .next) s1
      | some v => wpAny (model prog w) A (letOwnedTupleGo target it v) (fun _ s1' => wpAny (model prog w) A (assign target env v) (fun _ s2 =>
          wpAny (model prog w) A (forIn ifs true fun c r => if r = true then do let ok ← isTrue c env (eval c env); pure (ForInStep.yield ok) else pure (ForInStep.yield r)) (fun ok s3 =>
            if ok = true then wpAny (model prog w) A (eval elt env) (fun x s4 =>
              wpAny (model prog w) A (call (.builtin "list.append") [acc,x]) (fun _ s5 => ∃ m,m < n∧I m s5) (notedBy (model prog w) A env fun e s' => R (.error e) s') s4) (notedBy (model prog w) A env fun e s' => R (.error e) s') s3
            else ∃ m,m < n∧I m s3) (notedBy (model prog w) A env fun e s' => R (.error e) s') s2) (notedBy (model prog w) A env fun e s' => R (.error e) s') s1')
          (notedBy (model prog w) A env fun e s' => R (.error e) s') s1) (notedBy (model prog w) A env fun e s' => R (.error e) s') s)
    (n : Nat) (h : I n s) : codeAny (model prog w) A (.compLoop (.ListComp elt [⟨target,iter,ifs,0⟩] scope pos) 0 it acc env) R s := by
  refine codeAny_loop rfl I (fun n s hI => ?_) n h
  show wpAny _ A ((compTurn (.ListComp elt [⟨target,iter,ifs,0⟩] scope pos) 0 it acc env).onRaise (fun x => do noteFrame x env; theTreesLotGoes x)) _ _ s
  refine wpAny_noted ?_
  rw [compTurn_list]
  refine wpAny_bind (wpAny_standAt (wpAny_bind (wpAny_mono (turn n s hI) (fun r s1 h1 => ?_) fun _ _ h' => h')))
  cases r with
  | none => exact wpAny_pure h1
  | some v =>
    refine wpAny_bind (wpAny_mono h1 (fun _ s1' h1' => ?_) fun _ _ h' => h')
    refine wpAny_bind (wpAny_mono h1' (fun _ s2 h2 => wpAny_bind (wpAny_mono h2 (fun ok s3 h3 => ?_) fun _ _ h' => h')) fun _ _ h' => h')
    cases ok with
    | false => exact wpAny_pure ⟨rfl,h3⟩
    | true =>
      exact wpAny_bind (wpAny_bind (wpAny_mono h3 (fun x s4 h4 => wpAny_bind (wpAny_mono h4 (fun _ s5 h5 => wpAny_pure (wpAny_pure ⟨rfl,h5⟩)) fun _ _ h' => h')) fun _ _ h' => h'))
end
noncomputable def SQs (X : Cx) (g : GE) (m : List Md) (ifs : List Expr) (f : FQ) : Prop := ∀ (pins : List (Addr × Obj)) (s : Shared) (σ : L2.St) (H : Hp) (Q : Bool→Hp→Prop),Inv X pins σ H s→tQ X g m f σ H Q →
  wpAny (model X.prog X.w) X.A (forIn ifs true fun c r => if r = true then do let ok ← isTrue c X.env (eval c X.env); pure (ForInStep.yield ok) else pure (ForInStep.yield r)) (TP X pins σ Q) X.xe s
section
variable {X : Cx} {g : GE} {m : List Md} {c : Expr} {p : FQ}
theorem zhw : SQs X g m [] fun _ => .ok true := fun pins s σ H Q I ⟨r,G,si,q⟩ => wpAny_tests_nil ⟨H,I,q G H (Grow.refl si.gok)⟩
theorem zeP (h : SQ X g m c p) : SQs X g m [c] p := fun pins s σ H Q I q => wpAny_tests_one (h pins s σ H Q I q)
end
noncomputable def FtOk (ft : FT) (nl : Nat) : Prop := ∀ d r r1,ft d r = some r1→r1.length = r.length∧∀ i,nl≤i→r1[i]? = r[i]?
noncomputable def zld (ft : FTs) (nl : Nat) : Prop := ∀ d r r1,ft d r = some r1→r1.length = r.length∧∀ i,nl≤i→r1[i]? = r[i]?
theorem zc1 {i nl : Nat} (h : i < nl) : FtOk (ftN i) nl := fun d r r1 e => by
  cases e
  exact ⟨by simp,fun j hj => by rw [List.getElem?_set_ne (by omega)]⟩
theorem zkW {nl : Nat} : zld zdH nl := fun ds r r1 e => by
  cases ds with
  | nil => cases e; exact ⟨rfl,fun _ _ => rfl⟩
  | cons _ _ => cases e
theorem zgw {ft : FT} {fts : FTs} {nl : Nat} (h1 : FtOk ft nl) (h2 : zld fts nl) : zld (zaS ft fts) nl := fun ds r r1 e => by
  cases ds with
  | nil => cases e
  | cons d ds =>
    have e' : ((ft d r).bind fun r' => fts ds r') = some r1 := e
    cases q : ft d r with
    | none => rw [q] at e'; cases e'
    | some r2 =>
      rw [q] at e'
      obtain ⟨a1,a2⟩ := h1 d r r2 q
      obtain ⟨b1,b2⟩ := h2 ds r2 r1 e'
      exact ⟨b1.trans a1,fun i hi => (b2 i hi).trans (a2 i hi)⟩
theorem zoD {fts : FTs} {nl : Nat} (h : zld fts nl) : FtOk (ftT fts) nl := fun d r r1 e => by
  cases d with
  | tup ds => exact h ds r r1 e
  | _ => cases e
section
variable {X : Cx} {pins : List (Addr × Obj)} {σ : L2.St} {H2 : Hp} {s2 : Shared} {scope : Scope} {N' : List Str} {nl : Nat} {cap : List Nat} {cl : List (Str × Addr)} {fp : List Addr} {g : GE} {G2 : GH} {m : List Md} {r : Rho} {elt tg iter : Expr} {ifs : List Expr} {pos : Pos}
  {J : It} {it : Addr} {tn : Nat→Heap→Prop} {ds vs : List D} {ft : FT} {q : FQ} {fe : FE} {E : Value→Shared→Prop}
theorem zmU (i : Nat) : (capM nl cap m)[i]?≠some Md.ow := fun h => by
  by_cases hi : i < nl
  · unfold capM at h
    rw [List.getElem?_append_left (by simpa using hi),List.getElem?_replicate] at h
    split at h <;> cases h
  · unfold capM at h
    rw [ze4 (by omega)] at h
    cases e : cap[i - nl]? with
    | none => rw [e] at h; cases h
    | some j =>
      rw [e] at h
      have h' : (if m.getD j Md.sh = Md.sh then Md.sh else Md.bw) = Md.ow := Option.some.inj h
      split at h' <;> cases h'
theorem zjX {i : Nat} (hi : i < nl) (d : D) : (capR nl cap r)[i]?≠some (some d) := fun h => by
  unfold capR at h
  rw [List.getElem?_append_left (by simpa using hi),List.getElem?_replicate] at h
  split at h <;> cases h
theorem zgB (hN : X.N.Nodup) (hcalm : X.calm = true) (sc : CompSc X scope N' nl cap) (h1 : ∀ x c,cl.lookup x = some c→X.env.cells.lookup x = some c) (h2 : ∀ x,(x,NameKind.free)∈scope.names→∃ c,cl.lookup x = some c)
    (I2 : Inv X pins σ H2 s2) (si : SI X g m r G2 σ H2) (T : Turn X.prog X.w X.K tg J fp it tn) (st : tn 0 s2.heap) (hf : ∀ b∈fp,FpOk X pins H2 b) (Y : YieldsC X.K J ds G2 H2) (hsz : ds.length≤sizeLine)
    (hg : ∀ C,SG (cxC X s2 H2 N' scope cl C fp) ⟨G2,H2,fun _ => none⟩ (capM nl cap m) tg ft (capM nl cap m)) (hft : FtOk ft nl) (hq : ∀ C,SQs (cxC X s2 H2 N' scope cl C fp) ⟨G2,H2,fun _ => none⟩ (capM nl cap m) ifs q) (he : ∀ C,SE (cxC X s2 H2 N' scope cl C fp) ⟨G2,H2,fun _ => none⟩ (capM nl cap m) elt fe)
    (hres : zdI ft q fe (capR nl cap r) ds = .ok vs) {RR : Value→Addr→Result→Shared→Prop}
    (hRR : ∀ (p C : Addr) (s' : Shared) (H' : Hp) (G' : GH),Inv X pins σ H' s'→(∃ mm,s'.heap.Ns C mm)→H' C = none→C≠X.env.locals→X.s₀.heap.objs.size≤C→(∀ x c,X.env.cells.lookup x = some c→c≠C)→(∀ z∈X.pn++pins,z.1≠C) →
      Grow X.K G2 H2 G' H'→H2 p = none→Own X.K G' H' p (.lst vs)→RR (.ref p) C (.ok .next) s') :
    wpAny (model X.prog X.w) X.A (newList []) (fun acc s3 => wpAny (model X.prog X.w) X.A (newFunctionEnv scope X.env.globals cl [] X.env.qual none .none (some X.env)) (fun cenv s4 =>
      codeAny (model X.prog X.w) X.A (.compStart (.ListComp elt [⟨tg,iter,ifs,0⟩] scope pos) 0 (.ref it) acc { cenv with scope := relabel scope X.env }) (RR acc cenv.locals) s4) E s3) E s2 := by
  refine wpAny_newObj_type (wpAny_newFunctionEnv sc.nocell (by intro y hy; simp at hy) (fun h₁ hns₁ hsb₁ => ?_) sc.kind)
  dsimp only at hns₁ hsb₁ ⊢
  generalize hH2 : s2.heap.push { cls := .type "list",dict := none,data := .seq ([] : List Value).toArray } = HH at hns₁ hsb₁ ⊢
  have hC : HH.objs.size = s2.heap.objs.size + 1 := by rw [← hH2,Heap.size_push]
  have hDC : s2.heap.objs.size≠HH.objs.size := by rw [hC]; exact Nat.ne_of_lt (Nat.lt_succ_self _)
  have hCle : s2.heap.objs.size≤HH.objs.size := by rw [hC]; exact Nat.le_succ _
  have below : ∀ b,b < s2.heap.objs.size→b≠HH.objs.size∧b≠s2.heap.objs.size := fun b hb => ⟨by rw [hC]; exact Nat.ne_of_lt (Nat.lt_succ_of_lt hb),Nat.ne_of_lt hb⟩
  have old : ∀ b o,s2.heap.get? b = some o→h₁.get? b = some o := fun b o e => hsb₁.extBut b o (below b (Heap.lt_size e)).1 (Heap.get?_push_of_some _ (hH2 ▸ Heap.get?_push_of_some _ e))
  have hacc : h₁.get? s2.heap.objs.size = some { cls := .type "list",dict := none,data := .seq ([] : List Value).toArray } := hsb₁.extBut _ _ hDC (Heap.get?_push_of_some _ (hH2 ▸ Heap.get?_push_size _ rfl))
  have hp2 : H2 s2.heap.objs.size = none := I2.hok.fresh (Nat.le_refl _)
  have hflt : ∀ b∈fp,FpOk X pins H2 b∧b < s2.heap.objs.size := fun b hb => ⟨hf b hb,by
    obtain ⟨o,e,_⟩ := T.obj 0 s2.heap st b hb
    exact Heap.lt_size e⟩
  have ok := zoQ (fp := fp) I2 sc h1 h2 hflt hCle
  generalize hXX : cxC X s2 H2 N' scope cl HH.objs.size fp = XX at ok
  have hG2p : G2 s2.heap.objs.size = none := si.gok.isN hp2
  have w0 : Grow X.K G2 H2 G2 (upd H2 s2.heap.objs.size (.lst [])) := Grow.new si.gok hp2 _
  have hok4 : HOk X.prog X.w (upd H2 s2.heap.objs.size (.lst [])) h₁ := I2.hok.laid old (Nat.le_refl _) ⟨Nat.zero_le _,[],0,.nil,hacc⟩
  have IC : Inv XX [] (capS nl cap σ) (upd H2 s2.heap.objs.size (.lst [])) { s2 with heap := h₁,toks := s2.toks + ([] : List (Str × Value)).length } := by
    subst hXX
    refine zoS I2 ok sc h1 h2 hN rfl I2.bare old hns₁ hCle ?_ (fun b hb hlt => ?_) (Un.laid old (Nat.le_refl _) hp2) hok4
    · rw [zaC (Ne.symm hDC)]; exact I2.hok.fresh hCle
    · rw [zaC (below b hlt).2]; exact hb
  have SC : SI XX ⟨G2,H2,fun _ => none⟩ (capM nl cap m) (capR nl cap r) G2 (capS nl cap σ) (upd H2 s2.heap.objs.size (.lst [])) := by
    subst hXX
    exact zp0 si w0
  have hst₁ : tn 0 h₁ := T.keep _ _ _ st fun b _ o e => old b o e
  have hfX : ∀ (H' : Hp),(∀ b∈fp,H' b = none)→∀ b∈fp,FpOk XX [] H' b := fun H' hn b hb => by
    obtain ⟨z0,z1,z2,z3,z4,z5⟩ := hf b hb
    refine ⟨hn b hb,?_,?_,?_,?_,?_⟩
    · subst hXX; exact (below b (hflt b hb).2).1
    · subst hXX
      intro hfs
      rcases List.mem_cons.mp (I2.stkSub b hfs) with z | z
      · exact z1 z
      · exact z2 z
    · subst hXX; exact .inl hb
    · subst hXX; exact fun x c e => z4 x c (h1 x c e)
    · subst hXX; intro p hp; exact absurd (show p∈([] : List (Addr × Obj)) from hp) (by simp)
  have eA : XX.A = X.A := by subst hXX; rfl
  have eP : XX.prog = X.prog := by subst hXX; rfl
  have eW : XX.w = X.w := by subst hXX; rfl
  have eK : XX.K = X.K := by subst hXX; rfl
  have eX : XX.xe = fun _ _ => False := by subst hXX; rfl
  have eE : XX.env = compEnvC scope cl HH.objs.size X.env := by subst hXX; rfl
  have eC : XX.calm = true := by subst hXX; exact hcalm
  have eH : XX.H₀ = H2 := by subst hXX; rfl
  have hg' : PG XX tg (tG XX ⟨G2,H2,fun _ => none⟩ (capM nl cap m) (capM nl cap m) ft) := by subst hXX; exact (hg _).2
  have hq' : SQs XX ⟨G2,H2,fun _ => none⟩ (capM nl cap m) ifs q := by subst hXX; exact hq _
  have he' : SE XX ⟨G2,H2,fun _ => none⟩ (capM nl cap m) elt fe := by subst hXX; exact he _
  have fin' : ∀ {H' : Hp} {s' : Shared} {σ' : L2.St} {G' : GH} {ws : List V},Inv XX [] σ' H' s'→Grow X.K G2 H2 G' H'→H' s2.heap.objs.size = some (.lst ws)→G' s2.heap.objs.size = none→RGs X.K G' ws vs→RR (.ref s2.heap.objs.size) HH.objs.size (.ok .next) s' := fun {H' s' σ' G' ws} J1 wg hpp hgp rs => by
    subst hXX
    have un := J1.base
    refine hRR _ _ s' H' G' ?_ (let ⟨mm,hn,_⟩ := J1.loc; ⟨mm,hn⟩) J1.free (Nat.ne_of_gt (Nat.lt_of_lt_of_le I2.lt hCle)) (Nat.le_trans I2.sz hCle) (fun x c e z => ?_) (fun z hz e => ?_) wg hp2 ⟨hgp,.lst hpp rs⟩
    · refine I2.call' J1.os un J1.hok J1.bare fun b hb => ?_
      obtain ⟨z0,z1,z2,z3,z4,z5⟩ := hf b hb
      exact ⟨z3,z1,z4,z5⟩
    · obtain ⟨v,o,ho,_⟩ := I2.cell x c e
      exact absurd (Nat.lt_of_lt_of_le (Heap.lt_size ho) hCle) (by rw [z]; exact Nat.lt_irrefl _)
    · have := (I2.pin z hz).1
      exact absurd (Nat.lt_of_lt_of_le (Heap.lt_size this) hCle) (by rw [e]; exact Nat.lt_irrefl _)
  have loop : codeAny (model X.prog X.w) X.A (.compLoop (.ListComp elt [⟨tg,iter,ifs,0⟩] scope pos) 0 (.ref it) (.ref s2.heap.objs.size) (compEnvC scope cl HH.objs.size X.env)) (RR (.ref s2.heap.objs.size) HH.objs.size)
      { s2 with heap := h₁,toks := s2.toks + ([] : List (Str × Value)).length } := by
    refine zmS (fun n s' => ∃ (i : Nat) (σ' : L2.St) (H' : Hp) (G' : GH) (ws : List V) (done rest : List D),Inv XX [] σ' H' s'∧SI XX ⟨G2,H2,fun _ => none⟩ (capM nl cap m) (capR nl cap r) G' σ' H'∧tn i s'.heap∧(∀ b∈fp,H' b = none)∧Grow X.K G2 H2 G' H' ∧
        H' s2.heap.objs.size = some (.lst ws)∧G' s2.heap.objs.size = none∧RGs X.K G' ws done∧zdI ft q fe (capR nl cap r) (ds.drop i) = .ok rest∧vs = done++rest∧done.length≤i∧i≤ds.length∧n = ds.length - i) ?_ ds.length
      ⟨0,_,_,G2,[],[],vs,IC,SC,hst₁,fun b hb => ?_,w0,zar,hG2p,.nil,hres,rfl,Nat.le_refl _,Nat.zero_le _,rfl⟩
    rotate_left
    · rw [zaC (below b (hflt b hb).2).2]; exact (hf b hb).1
    rintro n s3 ⟨i,σ3,H3,G3,ws,done,rest,I3,S3,st3,fr3,w3,hp3,hg3,rs3,hr3,hv3,hd3,hi3,rfl⟩
    have weaken : ∀ {α : Type} {t : Sem α} {Q : α→Shared→Prop} {s' : Shared} {E' : Value→Shared→Prop},wpAny (model XX.prog XX.w) XX.A t Q XX.xe s'→wpAny (model X.prog X.w) X.A t Q E' s' := fun h => by
      rw [eP,eW,eA,eX] at h
      exact wpAny_mono h (fun _ _ z => z) fun _ _ z => z.elim
    by_cases hlt : i < ds.length
    · have hd : ds.drop i = ds[i]::ds.drop (i + 1) := List.drop_eq_getElem_cons hlt
      rw [hd] at hr3
      unfold zdI at hr3
      have it3 := T.item XX eP eW eK eC i [] s3 σ3 H3 (notedBy (model X.prog X.w) X.A (compEnvC scope cl HH.objs.size X.env) fun e s' => RR (.ref s2.heap.objs.size) HH.objs.size (.error e) s') I3 (hfX H3 fr3) st3 (Y.go G3 H3 i w3 hlt)
      rw [eA] at it3
      refine thn it3 fun rr s4 ⟨u,hr,h4⟩ => ?_
      subst hr
      refine thn h4 fun _ s5 ⟨x,H5,I5,r5,y5,st5,fr5⟩ => ?_
      obtain ⟨G5,w5,rv5⟩ := Y.yld G3 H3 i x H5 ds[i] w3 y5 (List.getElem?_eq_getElem hlt)
      have w25 := w3.trans w5
      cases eft : ft ds[i] (capR nl cap r) with
      | none => rw [eft] at hr3; cases hr3
      | some r1 =>
        rw [eft] at hr3
        simp only [opt_some,bind_ok] at hr3
        have I5' := I5.pinned (hfX H5 fr5) (T.obj _ _ st5)
        have S5 : SI XX ⟨G2,H2,fun _ => none⟩ (capM nl cap m) (capR nl cap r) G5 σ3 H5 := S3.grow (by rw [eK]; exact w5)
        have rv5' : RG XX.K G5 x ds[i] := by rw [eK]; exact rv5
        have as5 := hg' _ s5 σ3 H5 x u (fun σ6 H6 => H6 = H5∧SI XX ⟨G2,H2,fun _ => none⟩ (capM nl cap m) r1 G5 σ6 H5) I5' r5 ⟨capR nl cap r,G5,ds[i],S5,rv5',r1,eft,fun σ6 si6 => ⟨rfl,si6⟩⟩
        rw [eE] at as5
        refine thn (weaken as5) fun _ s6 ⟨σ6,H6,I6,e6,S6⟩ => ?_
        subst e6
        obtain ⟨fl1,fl2⟩ := hft _ _ _ eft
        cases eq1 : q r1 with
        | stuck => rw [eq1] at hr3; cases hr3
        | exc xx => rw [eq1] at hr3; cases hr3
        | ok b1 =>
          rw [eq1] at hr3
          simp only [bind_ok] at hr3
          have te6 := hq' _ s6 σ6 H6 (fun b H7 => b = b1∧∃ G7,Grow X.K G5 H6 G7 H7) I6 ⟨r1,G5,S6,by rw [eq1]; exact fun G7 H7 w7 => ⟨rfl,G7,by rw [eK] at w7; exact w7⟩⟩
          rw [eE] at te6
          refine thn (weaken te6) fun b s7 ⟨H7,I7,eb,G7,w7⟩ => ?_
          subst eb
          have S7 : SI XX ⟨G2,H2,fun _ => none⟩ (capM nl cap m) r1 G7 σ6 H7 := S6.grow (by rw [eK]; exact w7)
          have w27 := w25.trans w7
          have hp7 : H7 s2.heap.objs.size = some (.lst ws) := w7.he _ _ (w5.he _ _ hp3)
          have hg7 : G7 s2.heap.objs.size = none := by
            rw [w7.gf _ (by rw [w5.he _ _ hp3]; simp),w5.gf _ (by rw [hp3]; simp)]; exact hg3
          have back : ∀ {σ8 : L2.St} {H8 : Hp} {G8 : GH} {s8 : Shared},Inv XX ([]++zgj fp s5.heap) σ8 H8 s8→Inv XX [] σ8 H8 s8∧tn (i + 1) s8.heap∧∀ b∈fp,H8 b = none := fun {σ8 H8 G8 s8} I8 => by
            refine ⟨I8.unpinned,T.keep _ _ _ st5 fun b hb o e => (I8.pin (b,o) (List.mem_append_right _ (List.mem_append_right _ (zdm hb e)))).1,fun b hb => ?_⟩
            obtain ⟨o,e,_⟩ := T.obj _ _ st5 b hb
            exact (I8.pin (b,o) (List.mem_append_right _ (List.mem_append_right _ (zdm hb e)))).2.1
          have less : ∀ {σ8 : L2.St} {H8 : Hp} {G8 : GH},SI XX ⟨G2,H2,fun _ => none⟩ (capM nl cap m) r1 G8 σ8 H8→SI XX ⟨G2,H2,fun _ => none⟩ (capM nl cap m) (capR nl cap r) G8 σ8 H8 := fun h => h.less fl1.symm fun j d hj => by
            by_cases hjn : j < nl
            · exact absurd hj (zjX hjn d)
            · rw [fl2 j (by omega)]; exact hj
          cases b with
          | false =>
            rw [if_neg Bool.false_ne_true] at hr3 ⊢
            obtain ⟨I7',t7,f7⟩ := back (G8 := G7) I7
            exact ⟨ds.length - (i + 1),by omega,i + 1,σ6,H7,G7,ws,done,rest,I7',less S7,t7,f7,w27,hp7,hg7,rs3.mono (Gle.trans w5.ge w7.ge),hr3,hv3,by omega,hlt,rfl⟩
          | true =>
            rw [if_pos rfl] at hr3 ⊢
            cases ee1 : fe r1 with
            | stuck => rw [ee1] at hr3; cases hr3
            | exc xx => rw [ee1] at hr3; cases hr3
            | ok d1 =>
              rw [ee1] at hr3
              simp only [bind_ok] at hr3
              cases er : zdI ft q fe (capR nl cap r) (ds.drop (i + 1)) with
              | stuck => rw [er] at hr3; cases hr3
              | exc xx => rw [er] at hr3; cases hr3
              | ok rest' =>
                rw [er] at hr3
                simp only [bind_ok] at hr3
                cases hr3
                have el7 := he' _ s7 σ6 H7 (fun v H8 => ∃ G8,Grow X.K G7 H7 G8 H8∧RG X.K G8 v d1) I7 ⟨r1,G7,S7,by rw [ee1]; exact fun v G8 H8 w8 rv => ⟨G8,by rw [eK] at w8; exact w8,by rw [eK] at rv; exact rv⟩⟩
                rw [eE] at el7
                refine thn (weaken el7) fun u8 s8 ⟨v8,H8,I8,r8,G8,w8,rv8⟩ => ?_
                have hp8 : H8 s2.heap.objs.size = some (.lst ws) := w8.he _ _ hp7
                have hg8 : G8 s2.heap.objs.size = none := by rw [w8.gf _ (by rw [hp7]; simp)]; exact hg7
                have S8 : SI XX ⟨G2,H2,fun _ => none⟩ (capM nl cap m) r1 G8 σ6 H8 := S7.grow (by rw [eK]; exact w8)
                have hlen := Paired.length rs3
                have ap8 := zda (X := XX) _ s8 σ6 H8 (.ref s2.heap.objs.size) [v8] (.ref s2.heap.objs.size) [u8] (fun v H9 => H9 = upd H8 s2.heap.objs.size (.lst (ws++[v8]))) I8 rfl (.cons r8 .nil) ⟨_,ws,v8,rfl,rfl,hp8,by omega,rfl⟩
                refine thn (weaken ap8) fun u9 s9 ⟨v9,H9,I9,r9,e9⟩ => ?_
                subst e9
                obtain ⟨I9',t9,f9⟩ := back (G8 := G8) I9
                have rsn : RGs X.K G8 (ws++[v8]) (done++[d1]) := Paired.snoc (rs3.mono (Gle.trans (Gle.trans w5.ge w7.ge) w8.ge)) rv8
                have w28 := w27.trans w8
                refine ⟨ds.length - (i + 1),by omega,i + 1,σ6,_,G8,ws++[v8],done++[d1],rest',I9',less (S8.other hg8 hp2 zmU _),t9,f9,?_,zar,hg8,rsn,er,by rw [hv3,List.append_assoc]; rfl,by rw [List.length_append,List.length_singleton]; omega,hlt,rfl⟩
                refine ⟨fun b e hb => (w28.ok b e hb).mono (fun _ _ z => z) fun o z => ?_,fun b o hb => ?_,w28.ge,w28.gf⟩
                · rw [zaC (by rintro rfl; rw [hg8] at hb; cases hb)]; exact z
                · rw [zaC (by rintro rfl; rw [hp2] at hb; cases hb)]; exact w28.he b o hb
    · have e : i = ds.length := by omega
      subst e
      rw [List.drop_length] at hr3
      cases hr3
      rw [List.append_nil] at hv3
      subst hv3
      have dn := T.done XX eP eW eK eC ds.length [] s3 σ3 H3 (notedBy (model X.prog X.w) X.A (compEnvC scope cl HH.objs.size X.env) fun e s' => RR (.ref s2.heap.objs.size) HH.objs.size (.error e) s') I3 (hfX H3 fr3) st3 (Y.stop G3 H3 w3)
      rw [eA] at dn
      refine thn dn fun rr s4 ⟨hr,I4⟩ => ?_
      subst hr
      exact fin' I4 w3 hp3 hg3 rs3
  exact codeAny_compStart_list loop (T.self X.A 0 _ _ _ hst₁ loop)
end
end DL
end
section
namespace DL
open PySem PySem.Spec PyProof.Rows L2
noncomputable def noXL : Res (List D)→Res (List D)
  | .ok d => .ok d
  | _ => .stuck
@[simp] theorem noXL_ok (d : List D) : noXL (.ok d) = .ok d := rfl
noncomputable def zch (nl : Nat) (cap : List Nat) (fi : FI) (ft : FT) (q : FQ) (fe : FE) : FE := fun r => (fi r).bind fun ds => (opt (sz ds)).bind fun ds => (noXL (zdI ft q fe (capR nl cap r) ds)).bind fun vs => .ok (.lst vs)
section
variable {X : Cx} {g : GE} {m mb : List Md} {scope : Scope} {N' : List Str} {nl : Nat} {cap : List Nat} {elt tg iter : Expr} {ifs : List Expr} {pos pos' spos : Pos} {fi : FI} {ft : FT} {q : FQ} {fe : FE} {ro : Bool}
theorem zgz {r : Rho} {P : D→Prop} {x : D→Prop} (h : fin (zch nl cap fi ft q fe r) P x) : fin (fi r) (fun ds => ∃ vs,ds.length≤sizeLine∧zdI ft q fe (capR nl cap r) ds = .ok vs∧P (.lst vs)) x := by
  unfold zch at h
  refine zah (zag h) fun ds h1 => ?_
  obtain ⟨ds',e2,h2⟩ := zav (zag h1)
  obtain ⟨rfl,hl⟩ := zlV e2
  cases e3 : zdI ft q fe (capR nl cap r) ds' with
  | ok vs => rw [e3] at h2; exact ⟨vs,hl,rfl,h2⟩
  | exc x => rw [e3] at h2; exact h2.elim
  | stuck => rw [e3] at h2; exact h2.elim
theorem CompSc.clo {pins : List (Addr × Obj)} {σ : L2.St} {H : Hp} {s : Shared} (sc : CompSc X scope N' nl cap) (ok : X.Ok) : ∃ cl,closureFor scope X.env = pure cl∧(∀ x c,cl.lookup x = some c→X.env.cells.lookup x = some c)∧(∀ x,(x,NameKind.free)∈scope.names→∃ c,cl.lookup x = some c) :=
  zif fun y hy hf => ok.has y.1 (sc.freeK y hy hf)
theorem zeT (hN : X.N.Nodup) (hcalm : X.calm = true) (sc : CompSc X scope N' nl cap) (hi : SItC X g m tg iter fi) (hg : ∀ s0 H0 cl C fp g',SG (cxC X s0 H0 N' scope cl C fp) g' (capM nl cap m) tg ft (capM nl cap m)) (hft : FtOk ft nl)
    (hq : ∀ s0 H0 cl C fp g',SQs (cxC X s0 H0 N' scope cl C fp) g' (capM nl cap m) ifs q) (he : ∀ s0 H0 cl C fp g',SE (cxC X s0 H0 N' scope cl C fp) g' (capM nl cap m) elt fe)
    (hs : ∀ x,foldedSetIterable iter X.env x = pure x := by intro _; rfl) : SO X g m (.ListComp elt [⟨tg,iter,ifs,0⟩] scope pos) (zch nl cap fi ft q fe) := by
  intro pins s σ H Q I h
  obtain ⟨r,G,si,k⟩ := h
  obtain ⟨cl,hcl,h1,h2⟩ := sc.clo (pins := pins) (σ := σ) (H := H) (s := s) I.ok
  have k1 := zgz k
  rw [eval_ListComp]
  refine wpAny_comprehension_free (use := none) rfl hs hcl sc.kind sc.names (thn (hi pins s σ H (fun J H' => ∃ G' ds vs,Grow X.K G H G' H'∧YieldsC X.K J ds G' H'∧ds.length≤sizeLine∧zdI ft q fe (capR nl cap r) ds = .ok vs ∧
    (∀ a G' H',Grow X.K G H G' H'→H a = none→Own X.K G' H' a (.lst vs)→Q (.ref a) H')) I ⟨r,G,si,zah k1 fun ds ⟨vs,z1,z2,z3⟩ J G' H' w y => ⟨G',ds,vs,w,y,z1,z2,z3⟩⟩) fun v s1 hv => thn hv fun itv s2 hv2 => ?_)
  obtain ⟨it,fp,tn,J,H2,rfl,I2,T,st,hf,G2,ds,vs,w2,Y,hsz,hres,hQ⟩ := hv2
  refine zgB (RR := fun acc C => compPost (model X.prog X.w) X.A X.xe none (EP X pins σ Q) acc C) hN hcalm sc h1 h2 I2 (si.grow w2) T st hf Y hsz (fun C => hg _ _ _ _ _ _) hft (fun C => hq _ _ _ _ _ _) (fun C => he _ _ _ _ _ _) hres ?_
  intro p C s' H' G' I' hns hC1 hC2 hC3 hC4 hC5 w' hp ho
  obtain ⟨mm,hn⟩ := hns
  refine ⟨mm,hn,fun h' hsb => ⟨.ref p,H',?_,rfl,hQ p G' H' (w2.trans w') (w2.back hp) ho⟩⟩
  exact I'.turned (it := C) (t' := s'.toks) (fun b o hb e => hsb.extBut b o hb e) hC1 hC2.symm.symm (.inr hC3) hC4 hC5
theorem zdS (i : Nat) {y : Str} (hN : X.N.Nodup) (hcalm : X.calm = true) (hy : X.N[i]? = some y) (hyl : X.env.scope.names.lookup y = some .local) (sc : CompSc X scope N' nl cap) (hi : SItC X g m tg iter fi) (hg : ∀ s0 H0 cl C fp g',SG (cxC X s0 H0 N' scope cl C fp) g' (capM nl cap m) tg ft (capM nl cap m)) (hft : FtOk ft nl)
    (hq : ∀ s0 H0 cl C fp g',SQs (cxC X s0 H0 N' scope cl C fp) g' (capM nl cap m) ifs q) (he : ∀ s0 H0 cl C fp g',SE (cxC X s0 H0 N' scope cl C fp) g' (capM nl cap m) elt fe)
    (hsw : swapsWith (.ListComp elt [⟨tg,iter,ifs,0⟩] scope pos) (some (.Name y pos')) spos.line X.env = pure true := by rfl) (hs : ∀ x,foldedSetIterable iter X.env x = pure x := by intro _; rfl) :
    SS X g ro mb m (.Assign [.Name y pos'] (.ListComp elt [⟨tg,iter,ifs,0⟩] scope pos) spos) (setF m i (zch nl cap fi ft q fe)) (m.set i .ow) := by
  refine ⟨by simp,?_⟩
  intro pins s σ H D0 I h
  obtain ⟨r,G,si,k⟩ := h
  obtain ⟨cl,hcl,h1,h2⟩ := sc.clo (pins := pins) (σ := σ) (H := H) (s := s) I.ok
  have k1 := zgz (zbZ si (m' := m.set i .ow) (by simp) k)
  rw [exec_Assign_Name_used _ _ _ _ hsw]
  refine wpAny_bind (wpAny_standAt (wpAny_bind ?_))
  show wpAny _ X.A (do let _ ← comprehension (.ListComp elt [⟨tg,iter,ifs,0⟩] scope pos) scope X.env _ (newList []) false (eval iter X.env) (some (assign (.Name y pos') X.env))) _ _ s
  refine wpAny_bind (wpAny_mono (wpAny_comprehension_free (use := some (assign (.Name y pos') X.env)) (Q := fun _ s' => SP X pins D0 .next s') rfl hs hcl sc.kind sc.names (thn (hi pins s σ H (fun J H' => ∃ G' ds vs,Grow X.K G H G' H'∧YieldsC X.K J ds G' H'∧ds.length≤sizeLine∧zdI ft q fe (capR nl cap r) ds = .ok vs ∧
    (∀ σ' G' H',Gle G G'→SI X g (m.set i .ow) (r.set i (some (.lst vs))) G' σ' H'→D0.nx σ' H')) I ⟨r,G,si,zah k1 fun ds ⟨vs,z1,z2,z3⟩ J G' H' w y => ⟨G',ds,vs,w,y,z1,z2,z3⟩⟩) fun v s1 hv => thn hv fun itv s2 hv2 => ?_)) (fun _ s' hq => wpAny_pure (wpAny_pure hq)) fun _ _ e => e)
  obtain ⟨it,fp,tn,J,H2,rfl,I2,T,st,hf,G2,ds,vs,w2,Y,hsz,hres,hQ⟩ := hv2
  refine zgB (RR := fun acc C => compPost (model X.prog X.w) X.A X.xe (some (assign (.Name y pos') X.env)) (fun _ s' => SP X pins D0 .next s') acc C) hN hcalm sc h1 h2 I2 (si.grow w2) T st hf Y hsz (fun C => hg _ _ _ _ _ _) hft (fun C => hq _ _ _ _ _ _) (fun C => he _ _ _ _ _ _) hres ?_
  intro p C s' H' G' I' hns hC1 hC2 hC3 hC4 hC5 w' hp ho
  obtain ⟨mm,hn⟩ := hns
  show wpAny _ X.A (assign (.Name y pos') X.env (.ref p)) _ _ s'
  refine wpAny_assign_Name (zf6 I' hN hy (.inl hyl) (v := .ref p) rfl (fun s'' I'' ⟨a,hsb,ha⟩ => ?_) (.inr hyl))
  have hCa : C≠a := by
    rcases ha with z | z
    · rw [z]; exact hC2
    · exact (hC4 y a z).symm
  refine ⟨mm,hn.sameBut hsb hCa,fun h' hsb' => ?_⟩
  refine ⟨_,H',I''.turned (it := C) (t' := s''.toks) (fun b o hb e => hsb'.extBut b o hb e) hC1 hC2 (.inr hC3) hC4 hC5,?_⟩
  exact hQ _ G' H' (w2.trans w').ge (si.setN (w2.trans w') i (w2.back hp) ho)
end
end DL
end
section
namespace DL
open PySem PySem.Spec PyProof.Rows L2
noncomputable def MutD (K : PySem.W.Frag) (r : V→List V→Hp→VK→Prop) (mk : D→List D→Option D) : Prop := ∀ (G : GH) (H : Hp) (a : Addr) (d : D) (vs : List V) (ds : List D) (d' : D) (Q : VK),GOk K G H→Own K G H a d→RGs K G vs ds→mk d ds = some d' →
  (∀ o',OwnO K G (upd H a o') a d'→Q .non (upd H a o'))→r (.ref a) vs H Q
noncomputable def tyB (T : String) : D→Bool
  | .lst _ => T == "list"
  | .dic _ => T == "dict"
  | _ => false
noncomputable def mutF (T : String) (m : List Md) (i : Nat) (fl : Rho→Res (List D)) (mk : D→List D→Option D) : FS := fun r => match r[i]? with
  | some (some d) => if tyB T d = true then onE m r (fl r) fun ds => (match mk d ds with
    | some d' => .nx (r.set i (some d'))
    | none => .stuck) else .stuck
  | _ => .stuck
theorem zm9 {K : PySem.W.Frag} {G : GH} {H : Hp} {a : Addr} {d : D} {T : String} (o : Own K G H a d) (t : tyB T d = true) : tyV K T (.ref a) H := by
  cases o.ob with
  | lst r s => exact .inl ⟨eq_of_beq t,_,SqL.of r⟩
  | dic r s => exact .inr (.inr (.inl ⟨eq_of_beq t,.inl ⟨_,.inl r⟩⟩))
section
variable {X : Cx} {g : GE} {m mb : List Md} {e a b o : Expr} {es : List Expr} {f fa fb : FE} {fl : Rho → Res (List D)} {pos pos' apos cpos : Pos} {ro : Bool} {x name : Str} {T id : String} {R : V → List V → Hp → VK → Prop} {mk : D → List D → Option D}
theorem zkJ (i : Nat) (hm : m[i]? = some .ow) (hk : MutD X.K R mk) {D0 : Ends} {σ : L2.St} {H : Hp} (h : tS X g ro m m mb (mutF T m i fl mk) D0 σ H) :
    ∃ v,σ[i]? = some (some v)∧tyV X.K T v H∧tL X g m fl σ H fun xs H2 => R v xs H2 fun _ H1 => D0.nx σ H1 := by
  obtain ⟨r,G,si,k⟩ := h
  unfold mutF at k
  cases er : r[i]? with
  | none => simp only [er] at k; exact (show False from k).elim
  | some oo =>
    cases oo with
    | none => simp only [er] at k; exact (show False from k).elim
    | some d =>
      simp only [er] at k
      by_cases ht : tyB T d = true
      · rw [if_pos ht] at k
        obtain ⟨a,h1,h2,h3⟩ := si.mut hm er
        refine ⟨_,h1,zm9 h2 ht,r,G,si,zah (zbZ si rfl k) fun ds k2 vs G' H' w rs => ?_⟩
        cases em : mk d ds with
        | none => simp only [em] at k2; exact (show False from k2).elim
        | some d' =>
          simp only [em] at k2
          obtain ⟨a',h1',h2',h3'⟩ := (si.grow w).mut hm er
          rw [h1] at h1'; cases h1'
          exact hk G' H' a d vs ds d' _ w.ok h2' rs em fun o' ob => k2 σ G' _ w.ge (h3' o' d' ob)
      · rw [if_neg ht] at k; exact (show False from k).elim
theorem zfH (i : Nat) (hm : m[i]? = some .ow) (pa : PlainAttrs T) (slot : Slot T name id) (hty : typeOf (.builtin id) = pure (.type "method_descriptor")) (hmt : MtR X id R) (hk : MutD X.K R mk) (hN : X.N[i]? = some x) (hv : Vis X.env.scope x) (ha : SA X g m (e::es) fl)
    (hd : (x == ("__debug__" : Str)) = false := by decide) (hcd : (x == ("__classdict__" : Str)) = false := by decide)
    (hbase : attributeBase (.Name x pos') name X.env (eval (.Name x pos') X.env) = eval (.Name x pos') X.env := by rfl)
    (hfew : ((backTo cpos (starEach (e::es) X.env)).all (fun x => !x.1) && (backToKw cpos (keywordEach [] X.env)).all (fun x => x.1.isSome) && decide ((e::es).length + ([] : List Keyword).length + (if ([] : List Keyword).isEmpty then 0 else 1) < 30)) = true := by rfl)
    (hline : (apos.endLine == cpos.line) = true := by rfl) (hst : starEach (e::es) X.env = (false,eval e X.env)::starEach es X.env := by rfl) (hplain : (backTo cpos (starEach es X.env)).any (·.1) = false := by rfl) :
    SS X g ro mb m (.Expr (.Call (.Attribute (.Name x pos') name apos) (e::es) [] cpos) pos) (mutF T m i fl mk) m :=
  ⟨rfl,PS.imp (zmb (znU pa slot hty hmt (zgk hN hv hd hcd) ha hbase hfew hline hst hplain)) fun D0 σ H h => zkJ i hm hk h⟩
noncomputable def appD : D→List D→Option D
  | .lst ds,[d] => if ds.length < sizeLine then some (.lst (ds++[d])) else none
  | _,_ => none
theorem zhM {K : PySem.W.Frag} : MutD K ziJ appD := by
  intro G H a d vs ds d' Q gk ow rs e q
  unfold appD at e
  split at e
  · split at e
    · rename_i hl
      cases e
      cases ow.ob with
      | lst r s =>
        cases rs with
        | cons r1 t =>
          cases t
          have := Paired.length s
          exact ⟨a,_,_,rfl,rfl,r,by omega,q _ (.lst zar (Paired.snoc s r1))⟩
    · cases e
  · cases e
noncomputable def zmH (x : Int) (n : Nat) : Nat := if x < 0 then (x + (n : Int)).toNat else min x.toNat n
noncomputable def insL {α : Type} (xs : List α) (x : Int) (y : α) : List α := xs.take (zmH x xs.length)++y::xs.drop (zmH x xs.length)
noncomputable def ziG : V→List V→Hp→VK→Prop := fun x vs H Q => ∃ l xs i y,x = .ref l∧vs = [.int i,y]∧H l = some (.lst xs)∧-(2 ^ 63)≤i∧i < 2 ^ 63∧xs.length < sizeLine∧Q .non (upd H l (.lst (insL xs i y)))
theorem zi8 : MtR X "list.insert" ziG := by
  intro pins s σ H x vs v us Q I rx rv h
  obtain ⟨l,xs,i,y,rfl,rfl,hH,h1,h2,hz,q⟩ := h
  cases rx
  obtain ⟨u,w',rfl,⟨t,rfl⟩,ry⟩ := zm7 rv
  obtain ⟨z,its,n,r,hl,e⟩ := I.lstM hH
  have hfit : ¬(!Builtin.List.listFitsIndex i) = true := by rw [fitsIndex_both h1 h2]; exact Bool.false_ne_true
  refine call_meets PySem.F.slot_list_insert ⟨_,e,rfl⟩ PySem.F.entry_list_insert (PySem.F.args_list_insert_3 _ _ _) (AutoListH.list_insert_list_int_val_1 l its.toArray n i t w' hfit (by rw [List.size_toArray]; omega)) ⟨e,?_⟩
  refine ⟨.non,_,I.lset (its' := insL its i w') hH e ?_ ?_ ?_,rfl,q⟩
  · show ((its.toArray.extract 0 (if i < 0 then (i + ((its.toArray.size : Nat) : Int)).toNat else min i.toNat its.toArray.size)).push w'++its.toArray.extract (if i < 0 then (i + ((its.toArray.size : Nat) : Int)).toNat else min i.toNat its.toArray.size)) = (insL its i w').toArray
    rw [List.size_toArray]
    unfold insL zmH
    generalize (if i < 0 then (i + ((its.length : Nat) : Int)).toNat else min i.toNat its.length) = k
    apply Array.ext'
    simp
    exact List.take_of_length_le (by rw [List.length_drop]; exact Nat.le_refl _)
  · unfold insL
    rw [hl]
    exact Vals.append (r.take _) (.cons ry (r.drop _))
  · unfold insL
    rw [List.length_append,List.length_cons,List.length_take,List.length_drop]
    omega
noncomputable def insD : D→List D→Option D
  | .lst ds,[.int i,d] => if ds.length < sizeLine∧-(2 ^ 63)≤i∧i < 2 ^ 63 then some (.lst (insL ds i d)) else none
  | _,_ => none
theorem zot {α β : Type} {F : α→β→Prop} {l : List α} {r : List β} {x : α} {y : β} (h : Paired F l r) (i : Int) (hxy : F x y) : Paired F (insL l i x) (insL r i y) := by
  unfold insL
  rw [Paired.length h]
  exact Paired.app (Paired.tk _ h) (.cons hxy (Paired.dr _ h))
theorem zos {K : PySem.W.Frag} : MutD K ziG insD := by
  intro G H a d vs ds d' Q gk ow rs e q
  unfold insD at e
  split at e
  · split at e
    · rename_i hl
      cases e
      cases ow.ob with
      | lst r s =>
        cases rs with
        | cons r1 t =>
          cases t with
          | cons r2 t =>
            cases t
            have := Paired.length s
            exact ⟨a,_,_,_,rfl,by rw [r1.int gk],r,hl.2.1,hl.2.2,by omega,q _ (.lst zar (zot s _ r2))⟩
    · cases e
  · cases e
end
noncomputable def zaW : D→Bool
  | .non => true
  | .bl _ => true
  | .int _ => true
  | .str _ => true
  | _ => false
noncomputable def toV : D→V
  | .non => .non
  | .bl b => .bl b
  | .int i => .int i
  | .str x => .str x
  | _ => .non
noncomputable def eqs (a b : D) : Bool := eqV (toV a) (toV b)
@[simp] theorem eqs_int (a b : Int) : eqs (.int a) (.int b) = (a == b) := rfl
@[simp] theorem eqs_str (a b : Str) : eqs (.str a) (.str b) = (a == b) := rfl
@[simp] theorem eqs_non_int (b : Int) : eqs .non (.int b) = false := rfl
@[simp] theorem eqs_int_non (b : Int) : eqs (.int b) .non = false := rfl
section
variable {K : PySem.W.Frag} {G : GH} {H : Hp} {v : V} {d : D}
theorem RB.flat (h : RB K G H v d) (gk : GOk K G H) (hf : zaW d = true) : v = toV d∧zc3 v = true := by
  cases d with
  | non => rw [h.non gk]; exact ⟨rfl,rfl⟩
  | bl b => rw [h.bl gk]; exact ⟨rfl,rfl⟩
  | int i => rw [h.int gk]; exact ⟨rfl,rfl⟩
  | str x => rw [h.str gk]; exact ⟨rfl,rfl⟩
  | _ => cases hf
theorem zmN : ∀ {xs : List V} {ds : List D},RGs K G xs ds→GOk K G H→ds.all zaW = true→xs = ds.map toV∧xs.all zc3 = true
  | _,_,.nil,_,_ => ⟨rfl,rfl⟩
  | _,_,.cons r t,gk,hf => by
    rw [List.all_cons,Bool.and_eq_true] at hf
    obtain ⟨e1,e2⟩ := RB.flat (H := H) r.rb gk hf.1
    obtain ⟨e3,e4⟩ := zmN t gk hf.2
    exact ⟨by rw [List.map_cons,← e3,← e1],by rw [List.all_cons,e2,e4]; rfl⟩
end
noncomputable def keyD : D→Option Key
  | .int i => some (.inl i)
  | .str x => some (.inr x)
  | _ => none
noncomputable def hasK (kvs : List (Key × D)) (k : Key) : Bool := kvs.any fun kv => decide (kv.1 = k)
noncomputable def getK (kvs : List (Key × D)) (k : Key) : Option D := (kvs.find? fun kv => decide (kv.1 = k)).map (·.2)
noncomputable def inB (x c : D) : Option Bool := match c with
  | .lst ds => if zaW x = true∧ds.all zaW = true then some (ds.any fun y => eqs y x) else none
  | .tup ds => if zaW x = true∧ds.all zaW = true then some (ds.any fun y => eqs y x) else none
  | .dic kvs => (keyD x).map (hasK kvs)
  | .str y => match x with
    | .str z => some (!(Builtin.Str.occurrences y z 0 y.length 1).isEmpty)
    | _ => none
  | _ => none
noncomputable def inD (x c : D) : Option D := (inB x c).map .bl
noncomputable def ninD (x c : D) : Option D := (inB x c).map fun b => .bl (!b)
theorem zjF {K : PySem.W.Frag} {G : GH} {k : Key} : ∀ {ps : List (Key × V)} {kvs : List (Key × D)},RKs K G ps kvs→∀ d,getK kvs k = some d→∃ v,valV ps k = some v∧RG K G v d
  | _,_,.nil,d,e => by cases e
  | (k1,v1)::ps,(k2,d2)::kvs,.cons ⟨e1,r1⟩ t,d,e => by
    have e1' : k1 = k2 := e1
    subst e1'
    by_cases hk : k1 = k
    · subst hk
      have : d2 = d := by simpa [getK,List.find?_cons] using e
      subst this
      exact ⟨v1,zew rfl,r1⟩
    · have e' : getK kvs k = some d := by simpa [getK,List.find?_cons,hk] using e
      obtain ⟨v,h1,h2⟩ := zjF t d e'
      exact ⟨v,by rw [zdM hk]; exact h1,h2⟩
theorem zgx {K : PySem.W.Frag} {G : GH} {k : Key} : ∀ {ps : List (Key × V)} {kvs : List (Key × D)},RKs K G ps kvs→getK kvs k = none→valV ps k = none
  | _,_,.nil,e => rfl
  | (k1,v1)::ps,(k2,d2)::kvs,.cons ⟨e1,r1⟩ t,e => by
    have e1' : k1 = k2 := e1
    subst e1'
    by_cases hk : k1 = k
    · subst hk; simp [getK,List.find?_cons] at e
    · have e' : getK kvs k = none := by simpa [getK,List.find?_cons,hk] using e
      rw [zdM hk]; exact zgx t e'
theorem zow (kvs : List (Key × D)) (k : Key) : hasK kvs k = (getK kvs k).isSome := by
  induction kvs with
  | nil => rfl
  | cons p r ih =>
    by_cases e : p.1 = k
    · simp [hasK,getK,List.find?_cons,e]
    · have h1 : hasK (p::r) k = hasK r k := by simp [hasK,e]
      have h2 : getK (p::r) k = getK r k := by simp [getK,List.find?_cons,e]
      rw [h1,h2,ih]
theorem zjo {K : PySem.W.Frag} {G : GH} {H : Hp} {v : V} {d : D} {k : Key} (gk : GOk K G H) (h : RB K G H v d) (e : keyD d = some k) : v = kV k := by
  cases d with
  | int i => cases e; exact h.int gk
  | str x => cases e; exact h.str gk
  | _ => cases e
section
variable {X : Cx} {g : GE} {m mb : List Md} {e a b o c : Expr} {f fa fb fc : FE} {pos pos' : Pos}
noncomputable def rInD (neg : Bool) : R2 := fun y x H Q => ∃ a o,x = .ref a∧DGet H a y o∧Q (.bl (if neg then !o.isSome else o.isSome)) H
theorem zn1 (hu : X.A.units + 1 < cLine) : OpR X (compareOp .In) (rInD false) := by
  intro pins s σ H y x u v Q I ry rx h
  obtain ⟨a,oo,rfl,hg,q⟩ := h
  cases rx
  exact d_in hu I hg ry fun s' I' => ⟨.bl _,H,I',rfl,q⟩
theorem zmm (hu : X.A.units + 1 < cLine) : OpR X (compareOp .NotIn) (rInD true) := by
  intro pins s σ H y x u v Q I ry rx h
  obtain ⟨a,oo,rfl,hg,q⟩ := h
  cases rx
  exact zmR hu I hg ry fun s' I' => ⟨.bl _,H,I',rfl,q⟩
noncomputable def rInA (K : PySem.W.Frag) (neg : Bool) : R2 := fun x y H Q => rIn K neg x y H Q∨rInD neg x y H Q∨∃ i j,x = .str i∧y = .str j∧Q (.bl (if neg then !(!(Builtin.Str.occurrences j i 0 j.length 1).isEmpty) else !(Builtin.Str.occurrences j i 0 j.length 1).isEmpty)) H
theorem zn2 (hu : X.A.units + 1 < cLine) : OpR X (compareOp .In) (rInA X.K false) := OpR.or ziW (OpR.or (zn1 hu) ziV)
theorem zmn (hu : X.A.units + 1 < cLine) : OpR X (compareOp .NotIn) (rInA X.K true) := OpR.or zgm (OpR.or (zmm hu) zgl)
theorem zjz {K : PySem.W.Frag} (neg : Bool) : OpD K (rInA K neg) (fun x c => (inB x c).map fun b => .bl (if neg then !b else b)) := by
  intro G H v1 v2 d1 d2 d Q gk r1 r2 e q
  have seq : ∀ {xs : List V} {ds : List D} {p : Addr},RGs K G xs ds→v2 = .ref p→(SqL K H p xs∨SqT K H p xs)→zaW d1 = true→ds.all zaW = true→d = .bl (if neg then !(ds.any fun y => eqs y d1) else ds.any fun y => eqs y d1)→rInA K neg v1 v2 H Q := fun {xs ds p} rs e2 hs hf hfs ed => by
    obtain ⟨e1,f1⟩ := RB.flat r1 gk hf
    obtain ⟨e3,f3⟩ := zmN rs gk hfs
    refine .inl ⟨p,xs,e2,hs,f1,f3,q _ G H (Grow.refl gk) ?_⟩
    have : inV v1 xs = ds.any fun y => eqs y d1 := by
      unfold inV
      rw [e3,List.any_map,e1]
      rfl
    rw [this,ed]
    exact .scl (.bl _)
  cases d2 with
  | lst ds =>
    by_cases hc : zaW d1 = true∧ds.all zaW = true
    · simp only [inB,if_pos hc,Option.map_some] at e
      obtain ⟨p,xs,e2,hs,rs⟩ := r2.lst gk
      exact seq rs e2 (.inl hs) hc.1 hc.2 (Option.some.inj e).symm
    · simp only [inB,if_neg hc,Option.map_none] at e
      cases e
  | tup ds =>
    by_cases hc : zaW d1 = true∧ds.all zaW = true
    · simp only [inB,if_pos hc,Option.map_some] at e
      obtain ⟨p,xs,e2,hs,rs⟩ := r2.tup gk
      exact seq rs e2 (.inr hs) hc.1 hc.2 (Option.some.inj e).symm
    · simp only [inB,if_neg hc,Option.map_none] at e
      cases e
  | dic kvs =>
    simp only [inB] at e
    cases ek : keyD d1 with
    | none => rw [ek] at e; cases e
    | some k =>
      rw [ek] at e
      cases e
      obtain ⟨p,ps,rfl,hs,rs⟩ := r2.dic gk
      refine .inr (.inl ⟨p,valV ps k,rfl,by rw [zjo gk r1 ek]; exact .inl ⟨ps,k,hs,rfl,rfl⟩,q _ G H (Grow.refl gk) ?_⟩)
      have : (valV ps k).isSome = hasK kvs k := by
        rw [zow]
        cases eg : getK kvs k with
        | none => rw [zgx rs eg]; rfl
        | some d => obtain ⟨v,h1,_⟩ := zjF rs d eg; rw [h1]; rfl
      rw [this]
      exact .scl (.bl _)
  | str y =>
    cases d1 with
    | str z => cases e; exact .inr (.inr ⟨z,y,r1.str gk,r2.str gk,q _ G H (Grow.refl gk) (.scl (.bl _))⟩)
    | _ => cases e
  | _ => cases e
theorem zpM {K : PySem.W.Frag} : OpD K (rInA K false) inD := by
  have h := zjz (K := K) false
  have e : (fun x c => (inB x c).map fun b => D.bl (if false = true then !b else b)) = inD := by
    funext x c; unfold inD; cases inB x c <;> rfl
  rw [e] at h; exact h
theorem zn6 {K : PySem.W.Frag} : OpD K (rInA K true) ninD := by
  have h := zjz (K := K) true
  have e : (fun x c => (inB x c).map fun b => D.bl (if true = true then !b else b)) = ninD := by
    funext x c; unfold ninD; cases inB x c <;> rfl
  rw [e] at h; exact h
theorem q_in (hu : X.A.units + 1 < cLine) (ha : SB X g m a fa) (hb : SB X g m b fb) (hm : behindInMarks .In b = false := by rfl) : SQ X g m (.Compare a [.In] [b] pos) (zaq (f2 fa fb inD)) := zgh (zn2 hu) zpM ha hb hm
theorem ziK (hu : X.A.units + 1 < cLine) (ha : SB X g m a fa) (hb : SB X g m b fb) (hm : behindInMarks .NotIn b = false := by rfl) : SQ X g m (.Compare a [.NotIn] [b] pos) (zaq (f2 fa fb ninD)) := zgh (zmn hu) zn6 ha hb hm
noncomputable def isD : D→D→Option D
  | .non,.non => some (.bl true)
  | _,.non => some (.bl false)
  | _,_ => none
noncomputable def isnD : D→D→Option D
  | .non,.non => some (.bl false)
  | _,.non => some (.bl true)
  | _,_ => none
theorem RB.isnon {K : PySem.W.Frag} {G : GH} {H : Hp} {v : V} {d : D} (gk : GOk K G H) (h : RB K G H v d) : (v = .non↔d = .non) := by
  constructor
  · intro e
    subst e
    rcases h with h | ⟨a,e,_⟩
    · cases h with
      | scl s => cases s; rfl
    · cases e
  · intro e
    subst e
    exact h.non gk
theorem zor {K : PySem.W.Frag} : OpD K (fun x y H Q => y = .non∧Q (.bl (decide (x = .non))) H) isD := by
  intro G H v1 v2 d1 d2 d Q gk r1 r2 e q
  have hn := r1.isnon gk
  cases d2 with
  | non =>
    refine ⟨r2.non gk,q _ G H (Grow.refl gk) ?_⟩
    cases d1 with
    | non => cases e; rw [decide_eq_true (hn.mpr rfl)]; exact .scl (.bl _)
    | _ => cases e; rw [decide_eq_false (fun z => by have := hn.mp z; cases this)]; exact .scl (.bl _)
  | _ => cases d1 <;> cases e
theorem zlF {K : PySem.W.Frag} : OpD K (fun x y H Q => y = .non∧Q (.bl (!decide (x = .non))) H) isnD := by
  intro G H v1 v2 d1 d2 d Q gk r1 r2 e q
  have hn := r1.isnon gk
  cases d2 with
  | non =>
    refine ⟨r2.non gk,q _ G H (Grow.refl gk) ?_⟩
    cases d1 with
    | non => cases e; rw [decide_eq_true (hn.mpr rfl)]; exact .scl (.bl _)
    | _ => cases e; rw [decide_eq_false (fun z => by have := hn.mp z; cases this)]; exact .scl (.bl _)
  | _ => cases d1 <;> cases e
theorem s_is (ha : SB X g m a fa) (hb : SB X g m b fb) : SE X g m (.Compare a [.Is] [b] pos) (f2 fa fb isD) := zl3 zlu zor ha hb (zdV _)
theorem zpm (ha : SB X g m a fa) (hb : SB X g m b fb) : SE X g m (.Compare a [.IsNot] [b] pos) (f2 fa fb isnD) := zl3 ziT zlF ha hb (zdV _)
theorem q_is (ha : SB X g m a fa) (hb : SB X g m b fb) : SQ X g m (.Compare a [.Is] [b] pos) (zaq (f2 fa fb isD)) := zgh zlu zor ha hb (zdV _)
theorem zpp (ha : SB X g m a fa) (hb : SB X g m b fb) : SQ X g m (.Compare a [.IsNot] [b] pos) (zaq (f2 fa fb isnD)) := zgh ziT zlF ha hb (zdV _)
end
end DL
end
section
namespace DL
open PySem PySem.Spec PyProof.Rows L2
section
variable {X : Cx} {g : GE} {m mb : List Md} {e a b o c : Expr} {f fa fb fc : FE} {pos pos' p1 p2 : Pos} {ro : Bool} {x : Str}
noncomputable def rIxD : R2 := fun x y H Q => ∃ a v,x = .ref a∧DGet H a y (some v)∧Q v H
theorem zop (hu : X.A.units + 1 < cLine) : IxR X rIxD := by
  intro value slice pins s σ H x y v u Q I rx ry h hs
  obtain ⟨a,w,rfl,hg,q⟩ := h
  cases rx
  exact tail_any (zhe I hg) PySem.F.slot_dict_getitem.lookup (zjQ hu I hg ry fun w' s' I' rw' => ⟨w,H,I',rw',q⟩) hs
noncomputable def ixA : D→D→Option D
  | .dic kvs,k => (keyD k).bind (getK kvs)
  | c,k => ixD c k
theorem zoq {K : PySem.W.Frag} : OpD K (fun x y H Q => rIxD x y H Q∨rIx K x y H Q) ixA := by
  intro G H v1 v2 d1 d2 d Q gk r1 r2 e q
  cases d1 with
  | dic kvs =>
    obtain ⟨a,ps,rfl,hs,rs⟩ := r1.dic gk
    have e' : (keyD d2).bind (getK kvs) = some d := e
    cases ek : keyD d2 with
    | none => rw [ek] at e'; cases e'
    | some k =>
      rw [ek] at e'
      obtain ⟨v,h1,h2⟩ := zjF rs d e'
      refine .inl ⟨a,v,rfl,?_,q v G H (Grow.refl gk) h2⟩
      rw [zjo gk r2 ek,← h1]
      exact .inl ⟨ps,k,hs,rfl,rfl⟩
  | lst ds => exact .inr (zmD G H v1 v2 _ d2 d Q gk r1 r2 e q)
  | tup ds => exact .inr (zmD G H v1 v2 _ d2 d Q gk r1 r2 e q)
  | str ds => exact .inr (zmD G H v1 v2 _ d2 d Q gk r1 r2 e q)
  | _ => cases e
theorem zaD (hu : X.A.units + 1 < cLine) (ha : SB X g m a fa) (hb : SB X g m b fb) (hs : zkb b := by intro _ _; rfl) : SE X g m (.Subscript a b pos) (f2 fa fb ixA) := zl2 zoq (zpv (IxR.or (zop hu) zoo) ha hb hs)
theorem zn4 : SO X g m (.Dict [] [] pos) fun _ => .ok (.dic []) :=
  PE.imp zkC fun σ H Q ⟨r,G,si,q⟩ p hp => q p G _ (Grow.new si.gok hp _) hp ⟨si.gok.isN hp,.dic zar .nil⟩
noncomputable def putD (kvs : List (Key × D)) (k : Key) (d : D) : List (Key × D) := if (kvs.any fun kv => decide (kv.1 = k)) = true then kvs.map fun kv => if kv.1 = k then (kv.1,d) else kv else kvs++[(k,d)]
theorem zhN {K : PySem.W.Frag} {G : GH} {k : Key} : ∀ {ps : List (Key × V)} {kvs : List (Key × D)},RKs K G ps kvs→(ps.any fun kv => decide (kv.1 = k)) = kvs.any fun kv => decide (kv.1 = k)
  | _,_,.nil => rfl
  | _,_,.cons r t => by rw [List.any_cons,List.any_cons,zhN t,r.1]
theorem zpr {K : PySem.W.Frag} {G : GH} {ps : List (Key × V)} {kvs : List (Key × D)} {k : Key} {v : V} {d : D} (r : RKs K G ps kvs) (h : RG K G v d) : RKs K G (putK ps k v) (putD kvs k d) := by
  unfold putK putD
  rw [zhN r]
  by_cases hc : (kvs.any fun kv => decide (kv.1 = k)) = true
  · rw [if_pos hc,if_pos hc]
    clear hc
    induction r with
    | nil => exact .nil
    | @cons p q ps kvs r t ih =>
      refine .cons ?_ ih
      obtain ⟨p1,p2⟩ := p
      obtain ⟨q1,q2⟩ := q
      have e : p1 = q1 := r.1
      subst e
      by_cases hk : p1 = k
      · simp only [hk,if_true,true_and]; exact h
      · simp only [hk,if_false,true_and]; exact r.2
  · rw [if_neg hc,if_neg hc]
    exact Paired.snoc r ⟨rfl,h⟩
noncomputable def stoD : D→D→D→Option D
  | .lst ds,.int k,v => (ixN ds.length k).map fun j => .lst (ds.set j v)
  | .dic kvs,k,v => (keyD k).bind fun k => if kvs.length < sizeLine then some (.dic (putD kvs k v)) else none
  | _,_,_ => none
noncomputable def znB : V→V→V→Hp→(Hp→Prop)→Prop := fun o i v H Q => ∃ p H',o = .ref p∧DPut H p i v H'∧Q H'
theorem zlZ (hu : X.A.units + 1 < cLine) : PSet X znB := by
  intro pins s σ H o i v ov iv u Q I ro ri rv h
  obtain ⟨p,H',rfl,hp,q⟩ := h
  cases ro
  exact zjP hu I hp ri rv fun s' I' => ⟨H',I',q⟩
theorem PSet.or {t t' : TSet} (h : PSet X t) (h' : PSet X t') : PSet X (fun o i v H Q => t o i v H Q∨t' o i v H Q) := by
  intro pins s σ H o i v ov iv u Q I ro ri rv q
  rcases q with q | q
  · exact h pins s σ H o i v ov iv u Q I ro ri rv q
  · exact h' pins s σ H o i v ov iv u Q I ro ri rv q
theorem znj {K : PySem.W.Frag} {G : GH} {H : Hp} {a : Addr} {d k v d' : D} {kv vv : V} {Q : Hp→Prop} (gk : GOk K G H) (ow : Own K G H a d) (rk : RB K G H kv k) (rv : RG K G vv v) (e : stoD d k v = some d') (q : ∀ o',OwnO K G (upd H a o') a d'→Q (upd H a o')) :
    znA (.ref a) kv vv H Q∨znB (.ref a) kv vv H Q := by
  cases ow.ob with
  | @lst xs ds r s =>
    cases k with
    | int k =>
      have e' : (ixN ds.length k).map (fun j => D.lst (ds.set j v)) = some d' := e
      cases ej : ixN ds.length k with
      | none => rw [ej] at e'; cases e'
      | some j =>
        rw [ej] at e'
        cases e'
        exact .inl ⟨a,xs,k,j,rfl,rk.int gk,r,by rw [Paired.length s]; exact ej,q _ (.lst zar (Paired.st rv j s))⟩
    | _ => cases e
  | @dic ps kvs r s =>
    have e' : (keyD k).bind (fun k => if kvs.length < sizeLine then some (D.dic (putD kvs k v)) else none) = some d' := e
    cases ek : keyD k with
    | none => rw [ek] at e'; cases e'
    | some k' =>
      rw [ek] at e'
      have e2 : (if kvs.length < sizeLine then some (D.dic (putD kvs k' v)) else none) = some d' := e'
      by_cases hl : kvs.length < sizeLine
      · rw [if_pos hl] at e2
        cases e2
        have := Paired.length s
        refine .inr ⟨a,_,rfl,?_,q _ (.dic zar (zpr s rv))⟩
        rw [zjo gk rk ek]
        exact DPut.k r (by omega)
      · rw [if_neg hl] at e2; cases e2
noncomputable def putF (m : List Md) (i : Nat) (fk fv : FE) : FS := fun r => onE m r (fv r) fun v => match r[i]? with
  | some (some d) => onE m r (fk r) fun k => (match stoD d k v with
    | some d' => .nx (r.set i (some d'))
    | none => .stuck)
  | _ => .stuck
theorem ziy (i : Nat) (hu : X.A.units + 1 < cLine) (hm : m[i]? = some .ow) (hN : X.N[i]? = some x) (hv : Vis X.env.scope x) (hk : SB X g m b fb) (he : SE X g m e f)
    (hd : (x == ("__debug__" : Str)) = false := by decide) (hcd : (x == ("__classdict__" : Str)) = false := by decide)
    (ha : ∀ v,assign (.Subscript (.Name x p1) b p2) X.env v = (do
      let ov ← holding [v] (eval (.Name x p1) X.env)
      let iv ← holding [v,ov] (eval b X.env)
      standAt p2
      holding [v,ov,iv] (setItem ov iv v)
      release [v,ov,iv] []) := by intro _; rfl)
    (hs : swapsWithSole [.Subscript (.Name x p1) b p2] e pos.line X.env = pure false := by rfl) (hw : swappedStores [.Subscript (.Name x p1) b p2] e X.env = pure none := by rfl)
    (h1 : (assignEach [.Subscript (.Name x p1) b p2] X.env).map (·.2) = [assign (.Subscript (.Name x p1) b p2) X.env] := by rfl) :
    SS X g ro mb m (.Assign [.Subscript (.Name x p1) b p2] e pos) (putF m i fb f) m := by
  refine ⟨rfl,PS.imp (znJ he (znM (zgk hN hv hd hcd) hk (PSet.or zko (zlZ hu)) ha) hs hw h1) fun D0 σ H ⟨r,G,si,k⟩ => ⟨r,G,si,?_⟩⟩
  refine zah (zbZ si rfl k) fun v k1 vv G1 H1 w1 rv => ?_
  cases er : r[i]? with
  | none => simp only [er] at k1; exact (show False from k1).elim
  | some oo =>
    cases oo with
    | none => simp only [er] at k1; exact (show False from k1).elim
    | some d =>
      simp only [er] at k1
      obtain ⟨a,h1,h2,h3⟩ := (si.grow w1).mut hm er
      refine ⟨_,h1,r,G1,si.grow w1,?_⟩
      refine zah (zbZ (m := m) (si.grow w1) rfl (oTo.gle k1 w1.ge)) fun kk k2 kv G2 H2 w2 rk => ?_
      cases es : stoD d kk v with
      | none => simp only [es] at k2; exact (show False from k2).elim
      | some d' =>
        simp only [es] at k2
        obtain ⟨a',h1',h2',h3'⟩ := ((si.grow w1).grow w2).mut hm er
        rw [h1] at h1'; cases h1'
        exact znj w2.ok h2' rk (rv.mono w2.ge) es fun o' ob => k2 σ G2 _ w2.ge (h3' o' d' ob)
end
mutual
noncomputable def toPy : D→PyData
  | .non => .none
  | .bl b => .bool b
  | .int i => .int i
  | .str x => .str x
  | .tup ds => .tuple (zcz ds)
  | .lst ds => .list (zcz ds)
  | .dic _ => .none
  | .obj _ _ => .none
noncomputable def zcz : List D→List PyData
  | [] => []
  | d::ds => toPy d::zcz ds
end
noncomputable def Shp : Nat→D→Prop
  | _,.non => True
  | _,.bl _ => True
  | _,.int _ => True
  | _,.str x => PyData.strOk x = true
  | 0,.tup _ => False
  | 0,.lst _ => False
  | k + 1,.tup ds => ∀ d∈ds,Shp k d
  | k + 1,.lst ds => ∀ d∈ds,Shp k d
  | _,.dic _ => False
  | _,.obj _ _ => False
theorem zdE {k : Nat} {ds : List D} : Shp (k + 1) (.lst ds)↔∀ d∈ds,Shp k d := by simp only [Shp]
theorem zcL {k : Nat} {ds : List D} : Shp (k + 1) (.tup ds)↔∀ d∈ds,Shp k d := by simp only [Shp]
noncomputable def eqb (a b : D) : Bool := PyData.eqv (toPy a) (toPy b)
section
variable {X : Cx} {pins : List (Addr × Obj)} {σ : L2.St} {H : Hp} {s : Shared} {G : GH}
theorem zeO {k : Nat} (ih : ∀ (d : D) (v : V) (u : Value),Shp k d→RG X.K G v d→L2.RelV v u→∃ as,Reads s.heap u (toPy d) as) : ∀ (ds : List D) (vs : List V) (us : List Value),(∀ d∈ds,Shp k d)→RGs X.K G vs ds→Vals vs us→∃ as,ReadsAll s.heap us (zcz ds) as
  | [],_,_,_,.nil,.nil => ⟨[],.nil⟩
  | d::ds,_,_,h,.cons r t,.cons r' t' => by
    obtain ⟨a1,h1⟩ := ih d _ _ (h d List.mem_cons_self) r r'
    obtain ⟨a2,h2⟩ := zeO ih ds _ _ (fun x hx => h x (List.mem_cons_of_mem _ hx)) t t'
    exact ⟨a1++a2,.cons h1 h2⟩
theorem zey (I : Inv X pins σ H s) (gk : GOk X.K G H) : ∀ (k : Nat) (d : D) (v : V) (u : Value),Shp k d→RB X.K G H v d→L2.RelV v u→∃ as,Reads s.heap u (toPy d) as := by
  intro k
  induction k with
  | zero =>
    intro d v u hs r ru
    cases d with
    | non => rw [r.non gk] at ru; cases ru; exact ⟨_,.none⟩
    | bl b => rw [r.bl gk] at ru; cases ru; exact ⟨_,.bool b⟩
    | int i => rw [r.int gk] at ru; obtain ⟨t,rfl⟩ := ru; exact ⟨_,.int i t⟩
    | str x => rw [r.str gk] at ru; obtain ⟨t,rfl⟩ := ru; exact ⟨_,.str x t⟩
    | tup _ => unfold Shp at hs; exact hs.elim
    | lst _ => unfold Shp at hs; exact hs.elim
    | dic _ => unfold Shp at hs; exact hs.elim
    | obj _ _ => unfold Shp at hs; exact hs.elim
  | succ k ih =>
    intro d v u hs r ru
    cases d with
    | non => rw [r.non gk] at ru; cases ru; exact ⟨_,.none⟩
    | bl b => rw [r.bl gk] at ru; cases ru; exact ⟨_,.bool b⟩
    | int i => rw [r.int gk] at ru; obtain ⟨t,rfl⟩ := ru; exact ⟨_,.int i t⟩
    | str x => rw [r.str gk] at ru; obtain ⟨t,rfl⟩ := ru; exact ⟨_,.str x t⟩
    | tup ds =>
      obtain ⟨a,xs,rfl,sq,rs⟩ := r.tup gk
      cases ru
      obtain ⟨its,rv,pl,_⟩ := I.tuple sq
      obtain ⟨o,ho,hc,n,hd⟩ := pl
      obtain ⟨as,h⟩ := zeO (k := k) (fun d v u h1 h2 h3 => ih d v u h1 h2.rb h3) ds xs its (zcL.mp hs) rs rv
      refine ⟨as,?_⟩
      unfold toPy
      exact .tuple ho hc hd (by simpa using h)
    | lst ds =>
      obtain ⟨a,xs,rfl,sq,rs⟩ := r.lst gk
      cases ru
      obtain ⟨its,rv,pl,_⟩ := I.list sq
      obtain ⟨o,ho,hc,n,hd⟩ := pl.isList
      obtain ⟨as,h⟩ := zeO (k := k) (fun d v u h1 h2 h3 => ih d v u h1 h2.rb h3) ds xs its (zdE.mp hs) rs rv
      refine ⟨a::as,?_⟩
      unfold toPy
      exact .list ho hc hd (by simpa using h)
    | dic _ => unfold Shp at hs; exact hs.elim
    | obj _ _ => unfold Shp at hs; exact hs.elim
theorem zgQ {k : Nat} (ih : ∀ d,Shp k d→PyData.canLay0 (toPy d) = true∧PyData.depth (toPy d)≤k) : ∀ ds : List D,(∀ d∈ds,Shp k d)→PyData.canLayAll0 (zcz ds) = true∧PyData.depthAll (zcz ds)≤k
  | [],_ => by unfold zcz PyData.canLayAll0 PyData.depthAll; exact ⟨rfl,Nat.zero_le _⟩
  | d::ds,h => by
    obtain ⟨a1,a2⟩ := ih d (h d List.mem_cons_self)
    obtain ⟨b1,b2⟩ := zgQ ih ds fun x hx => h x (List.mem_cons_of_mem _ hx)
    unfold zcz PyData.canLayAll0 PyData.depthAll
    rw [a1,b1]
    exact ⟨rfl,Nat.max_le.mpr ⟨a2,b2⟩⟩
theorem znn : ∀ (k : Nat) (d : D),Shp k d→PyData.canLay0 (toPy d) = true∧PyData.depth (toPy d)≤k := by
  intro k
  induction k with
  | zero =>
    intro d hs
    cases d with
    | non => unfold toPy PyData.canLay0 PyData.depth; exact ⟨rfl,Nat.zero_le _⟩
    | bl b => unfold toPy PyData.canLay0 PyData.depth; exact ⟨rfl,Nat.zero_le _⟩
    | int i => unfold toPy PyData.canLay0 PyData.depth; exact ⟨rfl,Nat.zero_le _⟩
    | str x => unfold Shp at hs; unfold toPy PyData.canLay0 PyData.depth; exact ⟨hs,Nat.zero_le _⟩
    | tup _ => unfold Shp at hs; exact hs.elim
    | lst _ => unfold Shp at hs; exact hs.elim
    | dic _ => unfold Shp at hs; exact hs.elim
    | obj _ _ => unfold Shp at hs; exact hs.elim
  | succ k ih =>
    intro d hs
    cases d with
    | non => unfold toPy PyData.canLay0 PyData.depth; exact ⟨rfl,Nat.zero_le _⟩
    | bl b => unfold toPy PyData.canLay0 PyData.depth; exact ⟨rfl,Nat.zero_le _⟩
    | int i => unfold toPy PyData.canLay0 PyData.depth; exact ⟨rfl,Nat.zero_le _⟩
    | str x => unfold Shp at hs; unfold toPy PyData.canLay0 PyData.depth; exact ⟨hs,Nat.zero_le _⟩
    | tup ds =>
      obtain ⟨b1,b2⟩ := zgQ ih ds (zcL.mp hs)
      unfold toPy PyData.canLay0 PyData.depth
      exact ⟨b1,Nat.succ_le_succ b2⟩
    | lst ds =>
      obtain ⟨b1,b2⟩ := zgQ ih ds (zdE.mp hs)
      unfold toPy PyData.canLay0 PyData.depth
      exact ⟨b1,Nat.succ_le_succ b2⟩
    | dic _ => unfold Shp at hs; exact hs.elim
    | obj _ _ => unfold Shp at hs; exact hs.elim
theorem zdQ {d : D} (h : Shp 60 d) : SeqAt.shaped (toPy d) = true := by
  obtain ⟨a,b⟩ := znn 60 d h
  unfold SeqAt.shaped
  rw [a,decide_eq_true (Nat.le_trans b (by decide))]
  rfl
end
section
variable {X : Cx} {g : GE} {m mb : List Md} {e a b o c : Expr} {f fa fb fc : FE} {pos pos' : Pos}
noncomputable def zhX (a b : D) : Bool := zaW a && zaW b && scal (toV a) (toV b)
open Classical in
noncomputable def eqB (a b : D) : Option Bool := if zhX a b = true then some (eqs a b) else if Shp 60 a∧Shp 60 b then some (eqb a b) else none
noncomputable def eqD (a b : D) : Option D := (eqB a b).map .bl
noncomputable def neD (a b : D) : Option D := (eqB a b).map fun c => .bl (!c)
theorem zeE {a b : D} (h : zhX a b = false) (h1 : Shp 60 a) (h2 : Shp 60 b) : eqB a b = some (eqb a b) := by
  unfold eqB
  rw [if_neg (by rw [h]; exact Bool.false_ne_true),if_pos ⟨h1,h2⟩]
theorem zeD {a b : D} (h : zhX a b = true) : eqB a b = some (eqs a b) := by
  unfold eqB
  rw [if_pos h]
@[simp] theorem eqB_int (a b : Int) : eqB (.int a) (.int b) = some (a == b) := zeD rfl
@[simp] theorem eqB_str (a b : Str) : eqB (.str a) (.str b) = some (a == b) := zeD rfl
@[simp] theorem eqB_non_non : eqB .non .non = some true := zeD rfl
theorem zhs {a b : D} (h : scal (toV a) (toV b) = true) (fa : zaW a = true) (fb : zaW b = true) : decide (toV a = toV b) = eqs a b := by
  cases a <;> cases b <;> first
    | exact absurd (show false = true from fa) Bool.false_ne_true
    | exact absurd (show false = true from fb) Bool.false_ne_true
    | exact absurd (show false = true from h) Bool.false_ne_true
    | exact zhg
    | exact zjN
    | exact zhf
    | rfl
    | simp [toV,eqs,eqV]
noncomputable def zfK (K : PySem.W.Frag) (neg : Bool) : R2 := fun x y H Q => ∃ (G : GH) (d1 d2 : D),GOk K G H∧RB K G H x d1∧RB K G H y d2∧Shp 60 d1∧Shp 60 d2∧Q (.bl (if neg then !eqb d1 d2 else eqb d1 d2)) H
theorem ziX (hu : X.A.units + 64 < cLine) : OpR X (compareOp .Eq) (zfK X.K false) := by
  intro pins s σ H x y v u Q I rx ry h
  obtain ⟨G,d1,d2,gk,r1,r2,s1,s2,q⟩ := h
  obtain ⟨as,h1⟩ := zey I gk 60 d1 x v s1 r1 rx
  obtain ⟨bs,h2⟩ := zey I gk 60 d2 y u s2 r2 ry
  exact SeqAt.compareEq_shaped h1 h2 (zdQ s1) (zdQ s2) hu ⟨.bl _,H,I,rfl,q⟩
theorem ziU (hu : X.A.units + 64 < cLine) : OpR X (compareOp .NotEq) (zfK X.K true) := by
  intro pins s σ H x y v u Q I rx ry h
  obtain ⟨G,d1,d2,gk,r1,r2,s1,s2,q⟩ := h
  obtain ⟨as,h1⟩ := zey I gk 60 d1 x v s1 r1 rx
  obtain ⟨bs,h2⟩ := zey I gk 60 d2 y u s2 r2 ry
  exact SeqAt.compareNe_shaped h1 h2 (zdQ s1) (zdQ s2) hu ⟨.bl _,H,I,rfl,q⟩
theorem eq_cases {a b : D} {c : Bool} (h : eqB a b = some c) : (zhX a b = true∧c = eqs a b)∨(Shp 60 a∧Shp 60 b∧c = eqb a b) := by
  unfold eqB at h
  split at h
  · rename_i hs; cases h; exact .inl ⟨hs,rfl⟩
  · split at h
    · rename_i hs; cases h; exact .inr ⟨hs.1,hs.2,rfl⟩
    · cases h
theorem zpU {K : PySem.W.Frag} : OpD K (fun x y H Q => rEq x y H Q∨zfK K false x y H Q) eqD := by
  intro G H v1 v2 d1 d2 d Q gk r1 r2 e q
  unfold eqD at e
  cases ec : eqB d1 d2 with
  | none => rw [ec] at e; cases e
  | some c =>
    rw [ec] at e
    cases e
    rcases eq_cases ec with ⟨hs,rfl⟩ | ⟨s1,s2,rfl⟩
    · unfold zhX at hs
      rw [Bool.and_eq_true,Bool.and_eq_true] at hs
      obtain ⟨e1,_⟩ := RB.flat r1 gk hs.1.1
      obtain ⟨e2,_⟩ := RB.flat r2 gk hs.1.2
      refine .inl ⟨by rw [e1,e2]; exact hs.2,?_⟩
      rw [e1,e2,zhs hs.2 hs.1.1 hs.1.2]
      exact q _ G H (Grow.refl gk) (.scl (.bl _))
    · exact .inr ⟨G,d1,d2,gk,r1,r2,s1,s2,q _ G H (Grow.refl gk) (.scl (.bl _))⟩
theorem zpE {K : PySem.W.Frag} : OpD K (fun x y H Q => rNe x y H Q∨zfK K true x y H Q) neD := by
  intro G H v1 v2 d1 d2 d Q gk r1 r2 e q
  unfold neD at e
  cases ec : eqB d1 d2 with
  | none => rw [ec] at e; cases e
  | some c =>
    rw [ec] at e
    cases e
    rcases eq_cases ec with ⟨hs,rfl⟩ | ⟨s1,s2,rfl⟩
    · unfold zhX at hs
      rw [Bool.and_eq_true,Bool.and_eq_true] at hs
      obtain ⟨e1,_⟩ := RB.flat r1 gk hs.1.1
      obtain ⟨e2,_⟩ := RB.flat r2 gk hs.1.2
      refine .inl ⟨by rw [e1,e2]; exact hs.2,?_⟩
      rw [e1,e2,zhs hs.2 hs.1.1 hs.1.2]
      exact q _ G H (Grow.refl gk) (.scl (.bl _))
    · exact .inr ⟨G,d1,d2,gk,r1,r2,s1,s2,q _ G H (Grow.refl gk) (.scl (.bl _))⟩
theorem q_eq (hu : X.A.units + 64 < cLine) (ha : SB X g m a fa) (hb : SB X g m b fb) : SQ X g m (.Compare a [.Eq] [b] pos) (zaq (f2 fa fb eqD)) := zgh (OpR.or zpB (ziX hu)) zpU ha hb (zdV _)
theorem q_ne (hu : X.A.units + 64 < cLine) (ha : SB X g m a fa) (hb : SB X g m b fb) : SQ X g m (.Compare a [.NotEq] [b] pos) (zaq (f2 fa fb neD)) := zgh (OpR.or zpy (ziU hu)) zpE ha hb (zdV _)
noncomputable def zgA (fa fb fc : FE) (k k' : D→D→Option D) : FE := fun r => (fa r).bind fun x => (fb r).bind fun y => (opt (k x y)).bind fun z => (opt (asB z)).bind fun c => if c = true then (fc r).bind fun w => opt (k' y w) else .ok (.bl false)
noncomputable def zl7 (K : PySem.W.Frag) : R2 := fun x y H Q => ∃ l b xs zs,x = .ref l∧y = .ref b∧SqL K H l xs∧SqL K H b zs∧xs.length + zs.length≤sizeLine∧∀ p,H p = none→Q (.ref p) (upd H p (.lst (xs++zs)))
theorem ziZ : OpR X (binaryOp .Add) (zl7 X.K) := by
  intro pins s σ H x y v u Q I rx ry h
  obtain ⟨l,b,xs,zs,rfl,rfl,hH,hB,hz,q⟩ := h
  cases rx
  cases ry
  obtain ⟨its,r,pl,_⟩ := I.list hH
  obtain ⟨its2,r2,pl2,_⟩ := I.list hB
  have l1 := r.length
  have l2 := r2.length
  obtain ⟨⟨cls,dd,data,sl⟩,ho,hc,n,hd⟩ := pl.isList
  obtain ⟨⟨cls2,dd2,data2,sl2⟩,ho2,hc2,n2,hd2⟩ := pl2.isList
  simp only at hc hd hc2 hd2
  subst hc hd hc2 hd2
  have e : its.toArray++its2.toArray = (its++its2).toArray := by simp
  refine concat_meets ⟨_,ho,rfl⟩ ⟨_,ho2,rfl⟩ noFill_list_add seq_list_add PySem.F.slot_list_add PySem.F.entry_list_add (PySem.F.args_list_add_2 _ _) (list_addW _ _ its.toArray its2.toArray n n2 dd dd2 sl sl2 (by simp; omega)) ⟨ho,ho2,?_⟩
  rw [e]
  exact ⟨.ref _,_,I.lnew (t' := s.toks) (r.append r2) (by rw [List.length_append]; omega),rfl,q _ I.fresh⟩
noncomputable def addA : D→D→Option D
  | .int a,.int b => some (.int (a + b))
  | .str a,.str b => if a.length + b.length≤sizeLine then some (.str (a++b)) else none
  | .lst a,.lst b => if a.length + b.length≤sizeLine then some (.lst (a++b)) else none
  | .tup (x::a),.tup b => if (x::a).length + b.length≤sizeLine then some (.tup (x::a++b)) else none
  | _,_ => none
theorem zj9 {K : PySem.W.Frag} : OpD K (fun x y H Q => (∃ i j,x = .int i∧y = .int j∧Q (.int (i + j)) H)∨(∃ i j,x = .str i∧y = .str j∧i.length + j.length≤sizeLine∧Q (.str (i++j)) H)∨zl7 K x y H Q∨zl6 K x y H Q) addA := by
  intro G H v1 v2 d1 d2 d Q gk r1 r2 e q
  unfold addA at e
  split at e
  · cases e
    exact .inl ⟨_,_,r1.int gk,r2.int gk,q _ G H (Grow.refl gk) (.scl (.int _))⟩
  · split at e
    · rename_i hl
      cases e
      exact .inr (.inl ⟨_,_,r1.str gk,r2.str gk,hl,q _ G H (Grow.refl gk) (.scl (.str _))⟩)
    · cases e
  · split at e
    · rename_i hl
      cases e
      obtain ⟨a,xs,rfl,s1,t1⟩ := r1.lst gk
      obtain ⟨b,ys,rfl,s2,t2⟩ := r2.lst gk
      have l1 := Paired.length t1
      have l2 := Paired.length t2
      exact .inr (.inr (.inl ⟨a,b,xs,ys,rfl,rfl,s1,s2,by omega,fun p hp => q _ _ _ (Grow.newF gk hp (.lst (.inl zar) (Paired.app t1 t2))) (.ref za7)⟩))
    · cases e
  · split at e
    · rename_i x0 a0 b0 hl
      cases e
      rcases r1 with r1 | ⟨a',_,oo⟩
      · obtain ⟨a,xs,rfl,s1,t1⟩ := r1.tup gk
        obtain ⟨b,ys,rfl,s2,t2⟩ := r2.tup gk
        have l1 := Paired.length t1
        have l2 := Paired.length t2
        refine .inr (.inr (.inr ⟨a,b,xs,ys,rfl,rfl,s1,s2,?_,by omega,fun hy => ?_,fun _ p hp => q _ _ _ (Grow.newF gk hp (.tup (.inl zar) (Paired.app t1 t2))) (.ref za7)⟩))
        · rintro rfl
          cases t1
        · subst hy
          cases t2
          refine q _ G H (Grow.refl gk) ?_
          rw [List.append_nil]
          exact r1
      · cases oo.ob
    · cases e
  · cases e
theorem zcB (ha : SB X g m a fa) (hb : SB X g m b fb) : SE X g m (.BinOp a .Add b pos) (f2 fa fb addA) := zgT (OpR.or zlv (OpR.or zfq (OpR.or ziZ ziY))) zj9 ha hb
end
end DL
end
section
namespace DL
open PySem PySem.Spec PyProof.Rows L2
structure DefAt (K : PySem.W.Frag) (mg : Str→Option Value) (x : Str) (st : Stmt) : Prop where
  ex : ∃ f fd,mg x = some (.ref f)∧Fun K x x st f fd
structure Callee (P : Program) (w : World) (K : PySem.W.Frag) (mg : Str→Option Value) (base : Heap) (x : Str) (ps : List Str) (ds : List Value) (k : Nat) (ro : Bool) (ms : List Md) (F : List D→Res D) : Prop where
  ex : ∃ f fd,mg x = some (.ref f)∧PySem.W.keepIn K (.ref f) = true∧zhm K fd ps ds∧FnOk P w K mg base CX0 k f fd ps (spM K ro ms F)
section
variable {P : Program} {w : World} {K : PySem.W.Frag} {mg : Str → Option Value} {base : Heap}
theorem za5 {x : Str} {st : Stmt} {N ps : List Str} {k : Nat} {ro : Bool} {ms : List Md} {fs : FS} {m' : List Md} (A : DefAt K mg x st) (S : FnScope N ps (zae st)) (hms : ms.length = ps.length)
    (hb : ∀ (kV doc pm : Value) (an : Option Addr) (cdv ct : Value) (us : List Value),us.length = ps.length→bindArgs (PySem.W.fnOf x x (zdc st) (zci st) (zae st) .none kV doc pm an cdv ct) ⟨us,[]⟩ = pure (ps.zip us))
    (hbody : ∀ (f : Addr) (cdv : Value) (A : Around) (outer : List Env) (s : Shared) (H : Hp) (g : GE) (E : XK),Room k (A.deeper (envOfC x (zae st) s.heap.objs.size f cdv)) →
      SSs (cxOf CX0 P w K mg base N x (zae st) f cdv A outer s H E).nox g ro [] (zeG N.length ms) (zci st) fs m') :
    Callee P w K mg base x ps [] (k + 1) ro ms fun ds => outR ro (fs (zaw N.length ds)) := by
  obtain ⟨f,fd,h1,F⟩ := A.ex
  exact ⟨f,fd,h1,F.kp,F.binds hb,zlL F S hms (hbody f)⟩
structure DefAtD (K : PySem.W.Frag) (mg : Str→Option Value) (x : Str) (st : Stmt) (dds : List Value) : Prop where
  ex : ∃ (f T : Addr) (o : Obj) (n : Nat) (oc : Value) (od : Option Addr) (kV doc pm : Value) (an : Option Addr) (cdv ct : Value) (osl : Array (Option Value)),
    mg x = some (.ref f)∧K.lookup T = some o∧o.data = .seq dds.toArray n∧K.lookup f = some ⟨oc,od,.func (PySem.W.fnOf x x (zdc st) (zci st) (zae st) (.ref T) kV doc pm an cdv ct),osl⟩∧PySem.W.codeIn K cdv x = true∧PySem.W.keepIn K (.ref f) = true
end
section
variable {X : Cx} {g : GE} {m : List Md} {e : Expr} {es : List Expr} {fl : Rho → Res (List D)} {k : Nat} {ps : List Str} {F : List D → Res D} {dvs : List V} {ds : List Value} {dds : List D} {x : Str} {p pos : Pos} {i : Nat} {ms ms' : List Md}
theorem zax (c : Callee X.prog X.w X.K X.mg X.base x ps ds k false ms' F) (hr : Room k X.A) (ha : SAM X g m (e::es) ms fl) (hms : ms' = ms++List.replicate dds.length .sh := by rfl) (hg : Gl X x := by rfl) (hd : Vals dvs ds := by exact .nil) (hsc : Paired Scl dvs dds := by exact .nil)
    (hdb : (x == ("__debug__" : Str)) = false := by decide) (he : starEach (e::es) X.env = (false,eval e X.env)::starEach es X.env := by rfl) (hpl : (backTo pos (starEach es X.env)).any (·.1) = false := by rfl) :
    SE X g m (.Call (.Name x p) (e::es) [] pos) (zaz fl dds F) := by
  subst hms
  obtain ⟨f,fd,h1,h2,h3,h4⟩ := c.ex
  exact znt h4 hr hg h1 h2 h3 hd hsc ha hdb he hpl
theorem v_ (i : Nat) (hm : m[i]? = some .sh := by rfl) (hN : X.N[i]? = some x := by rfl) (hv : Vis X.env.scope x := by first | exact Or.inl rfl | exact Or.inr (Or.inl rfl) | exact Or.inr (Or.inr rfl)) (hd : (x == ("__debug__" : Str)) = false := by decide) (hcd : (x == ("__classdict__" : Str)) = false := by decide) :
    SE X g m (.Name x p) fun r => getV r i := zpg i hm hN hv hd hcd
theorem vb_ (i : Nat) (hm : i < m.length := by decide) (hN : X.N[i]? = some x := by rfl) (hv : Vis X.env.scope x := by first | exact Or.inl rfl | exact Or.inr (Or.inl rfl) | exact Or.inr (Or.inr rfl)) (hd : (x == ("__debug__" : Str)) = false := by decide) (hcd : (x == ("__classdict__" : Str)) = false := by decide) :
    SB X g m (.Name x p) fun r => getV r i := znp i hm hN hv hd hcd
end
end DL
end
section
namespace DL
open PySem PySem.Spec PyProof.Rows L2
noncomputable def zjT (osc : Scope) (ON : List Str) (sc : Scope) (N' : List Str) (nl : Nat) (cap : List Nat) : Bool :=
  decide (sc.kind = .function) && sc.names.all (fun y => decide (y.2≠.cell)) && sc.names.all (fun y => decide (y.2≠.local) || decide (sc.names.lookup y.1 = some .local)) &&
  sc.names.all (fun y => decide (y.2≠.free) || (decide (osc.names.lookup y.1 = some .cell) || decide (osc.names.lookup y.1 = some .free))) && decide (N'.length = nl + cap.length) &&
  (List.range cap.length).all fun j => match N'[nl + j]?,ON[cap.getD j 0]? with
    | some x,some y => decide (x = y) && decide (sc.names.lookup x = some .free)
    | _,_ => false
theorem za8 {X : Cx} {osc : Scope} {ON : List Str} {sc : Scope} {N' : List Str} {nl : Nat} {cap : List Nat} (h1 : X.env.scope = osc) (h2 : X.N = ON) (h : zjT osc ON sc N' nl cap = true) : CompSc X sc N' nl cap := by
  subst h1 h2
  unfold zjT at h
  simp only [Bool.and_eq_true,List.all_eq_true,decide_eq_true_eq,Bool.or_eq_true] at h
  obtain ⟨⟨⟨⟨⟨a1,a2⟩,a3⟩,a4⟩,a5⟩,a6⟩ := h
  refine ⟨a1,a2,fun y hy hl => (a3 y hy).resolve_left fun z => z hl,fun y hy hf => (a4 y hy).resolve_left fun z => z hf,a5,fun j hj => ?_⟩
  have h6 := a6 j (List.mem_range.mpr hj)
  cases e1 : N'[nl + j]? with
  | none => rw [e1] at h6; cases h6
  | some x =>
    cases e2 : X.N[cap.getD j 0]? with
    | none => rw [e1,e2] at h6; cases h6
    | some y =>
      rw [e1,e2] at h6
      simp only [Bool.and_eq_true,decide_eq_true_eq] at h6
      exact ⟨x,rfl,by rw [h6.1],h6.2⟩
section
variable {X : Cx} {g : GE} {m mb : List Md} {e a b c : Expr} {f fa fb fc : FE} {pos pos' : Pos}
theorem zig {R R' : R2} {k k' : D→D→Option D} (ho : OpD X.K R k) (ho' : OpD X.K R' k') {σ : L2.St} {H : Hp} {Q : VK} (h : tE X g m (zgA fa fb fc k k') σ H Q) : zlj R R' (tB X g m fa) (tB X g m fb) (tB X g m fc) σ H Q := by
  obtain ⟨r,G,si,q⟩ := h
  refine seq2 si q fun d1 d2 v1 v2 G2 H2 w r1 r2 q2 => ?_
  obtain ⟨z,ez,q3⟩ := zav (zag q2)
  obtain ⟨cc,ec,q4⟩ := zav (zag q3)
  refine ho G2 H2 v1 v2 d1 d2 z _ w.ok r1 r2 ez fun v G3 H3 w3 rv => ?_
  cases z with
  | bl b' =>
    cases ec
    refine ⟨_,rv.bl w3.ok,?_⟩
    cases cc with
    | false => rw [if_neg Bool.false_ne_true] at q4 ⊢; exact q4 _ G3 H3 (w.trans w3) (.scl (.bl _))
    | true =>
      rw [if_pos rfl] at q4 ⊢
      refine ⟨r,G3,(si.grow w).grow w3,zaO (zag q4) (w.trans w3) fun d3 q5 v3 G4 H4 w4 r3 => ?_⟩
      obtain ⟨d,e,q6⟩ := zav q5
      exact ho' G4 H4 v2 v3 d2 d3 d Q w4.ok ((r2.mono w3).mono w4) r3 e fun v G' H' w' z => q6 v G' H' (((w.trans w3).trans w4).trans w') z
  | _ => cases ec
theorem zkq {op op' : CmpOp} {R R' : R2} {k k' : D→D→Option D} (hr : OpR X (compareOp op) R) (hr' : OpR X (compareOp op') R') (ho : OpD X.K R k) (ho' : OpD X.K R' k') (ha : SB X g m a fa) (hb : SB X g m b fb) (hc : SB X g m c fc)
    (hm : lastMarks [op,op'] [b,c] = false := by with_unfolding_all rfl) : SE X g m (.Compare a [op,op'] [b,c] pos) (zgA fa fb fc k k') := PE.imp (zkD hr hr' ha hb hc hm) fun σ H Q h => zig ho ho' h
theorem zpC {K : PySem.W.Frag} : OpD K (rI0 fun i j => V.bl (decide (i < j))) ltI := zd6 fun _ _ => .bl _
theorem zpD {K : PySem.W.Frag} : OpD K (rI0 fun i j => V.bl (decide (i≤j))) leI := zd6 fun _ _ => .bl _
end
end DL
end
section
namespace DL
open PySem PySem.Spec PyProof.Rows L2
theorem zp6 {K : PySem.W.Frag} {h : Heap} {mg : Str→Option Value} {x : Str} {st : Stmt} (KX : K.In h) (G : h.Ns mainGlobals mg) {f : Addr} {oc : Value} {od an : Option Addr} {osl : Array (Option Value)} {kV doc pm cdv ct : Value} (a : PySem.W.nsIn K mainGlobals x = some (some (.ref f)))
    (l : K.lookup f = some ⟨oc,od,.func (PySem.W.fnOf x x (zdc st) (zci st) (zae st) .none kV doc pm an cdv ct),osl⟩) (c : PySem.W.codeIn K cdv x = true) (k : PySem.W.keepIn K (.ref f) = true) : DefAt K mg x st :=
  ⟨f,_,PySem.W.mg_of KX G a,zoC l c k⟩
theorem zp5 {P : Program} {w : World} {K : PySem.W.Frag} {mg : Str→Option Value} {x p : Str} {st : Stmt} {k : Nat} {F : List D→Res D} {fa : Addr} (hfa : mg x = some (.ref fa)) (A : DefAt K mg x st)
    (hb : ∀ (kV doc pm : Value) (an : Option Addr) (cdv ct : Value) (us : List Value),us.length = [p].length→bindArgs (PySem.W.fnOf x x (zdc st) (zci st) (zae st) .none kV doc pm an cdv ct) ⟨us,[]⟩ = pure ([p].zip us))
    (C : ∀ (f : Addr) (fd : FuncData),Fun K x x st f fd→∀ base : Heap,FnOk P w K mg base CX0 k f fd [p] (spM K false [.sh] F)) :
    ∃ fd : FuncData,(∀ (s : Shared) (u : Value),BindsTo s fd ⟨[u],[]⟩ [(p,u)])∧∀ base : Heap,K.In base→base.Ns mainGlobals mg→FnOk P w K mg base CX0 k fa fd [p] (spM K false [.sh] F) := by
  obtain ⟨f,fd,h1,Fn⟩ := A.ex
  rw [hfa] at h1
  cases h1
  refine ⟨fd,fun s u => ?_,fun base _ _ => C fa fd Fn base⟩
  obtain ⟨oc,od,kV,doc,pm,an,cdv,ct,osl,rfl,lk,hcd⟩ := Fn.ex
  exact .of_eq (hb kV doc pm an cdv ct [u] rfl)
theorem zp7 {l : PySem.W.OpenLaw} {k : Nat} {q : Program} {loose : List Str} {XP : (Str→Option Value)→Heap→Prop} {YP : World→Heap→Prop} {d : DefRec} {K : Params→PySem.W.Frag} {x : Str} {F : List D→Res D} (hn : l.most = some 63) (hdf : d.params.defaults = []) (hr : Room k callerA)
    (hY : ∀ (w : World) (h : Heap),YP w h→(K w.params).In h) (hF : ∀ ns : List Int,ns.length≤63→F [.lst (ns.map .int)] = .ok (.bl true))
    (C : ∀ (w : World) (mg : Str→Option Value) (fa : Addr) (h : Heap),(K w.params).In h→h.Ns mainGlobals mg→mg d.name = some (.ref fa) →
      ∃ fd : FuncData,(∀ (s : Shared) (u : Value),BindsTo s fd ⟨[u],[]⟩ [(x,u)])∧∀ base : Heap,(K w.params).In base→base.Ns mainGlobals mg→FnOk l.prog w (K w.params) mg base CX0 k fa fd [x] (spM (K w.params) false [.sh] F)) :
    PySem.W.WalkO q loose XP YP l.row.toRowW d [] (fun f vs => PySem.call f vs) := by
  refine L2.walk_of (n := 63) (k := k) (x := x) (CX := fun _ => CX0) (sp := fun w => spM (K w.params) false [.sh] F) hn (by decide) hdf hr hY C (fun w H a ns hl hO hS => ?_) fun _ _ _ _ _ z => z
  have intsP : ∀ (l : List Int),Paired Scl (l.map V.int) (l.map D.int) := fun l => by
    induction l with
    | nil => exact .nil
    | cons i l ih => exact .cons (.int i) ih
  rcases hS with hS | hS
  · refine ⟨fun b => if b = a then some (.lst (ns.map D.int)) else none,[.lst (ns.map .int)],fun b d' hb => ?_,.sh (.ref (if_pos rfl)) .nil,?_⟩
    · by_cases e : b = a
      · subst e
        have hb' : some (D.lst (ns.map D.int)) = some d' := (if_pos rfl).symm.trans hb
        cases hb'
        exact .lst hS (Paired.mono (fun _ _ z => .scl z) (intsP ns))
      · have hb' : (none : Option D) = some d' := (if_neg e).symm.trans hb
        cases hb'
    · rw [hF ns hl]
      intro v G' H' w' rv
      exact rv.bl w'.ok
  · refine ⟨fun _ => none,[.lst (ns.map .int)],fun b d' hb => (by cases hb),.sh (.kc (.lst (.inr hS) (intsP ns))) .nil,?_⟩
    rw [hF ns hl]
    intro v G' H' w' rv
    exact rv.bl w'.ok
end DL
end
section
namespace DL
open PySem PySem.Spec PyProof.Rows L2
open AutoSeq1 (wpAny_loadPart')
section
variable {prog : Program} {w : World} {A : Around} {E : Value → Shared → Prop} {s : Shared}
theorem zd8 {it t : Addr} {i : Nat} {items} {x : Value} {Q : Value→Shared→Prop} (hit : s.heap.IsTupleIter it t i) (ht : s.heap.IsTuple t items) (hx : items[i]? = some x)
    (hQ : ∀ h',h'.IsTupleIter it t (i + 1)→Heap.SameBut it s.heap h'→Q x { s with heap := h' }) : wpAny (model prog w) A (Builtin.SmallTypes.nextOf (.ref it)) Q E s := by
  obtain ⟨o,ho,hc,hd⟩ := id hit
  obtain ⟨ol,hol,_,nl,hdl⟩ := ht
  unfold Builtin.SmallTypes.nextOf
  refine wpAny_bind (wpAny_callSpecial?_slot (name := Str.ofString "__next__") hit.typeIs F.slot_tuple_iterator_next
    (wpAny_call_entry F.slot_tuple_iterator_next hit.typeIs F.entry_tuple_iterator_next ?_ (F.args_tuple_iterator_next_1 _)))
  show wpAny _ _ (field (.ref it) 0 >>= _) _ _ s
  refine wpAny_bind (wpAny_field ho hd (x := .ref t) rfl ?_)
  show wpAny _ _ (if (Value.ref t == Value.none) = true then _ else _) _ _ s
  rw [if_neg (show ¬ ((Value.ref t == Value.none) = true) from Bool.false_ne_true)]
  show wpAny _ _ (field (.ref it) 1 >>= _) _ _ s
  refine wpAny_bind (wpAny_field ho hd (x := .int i 0) rfl ?_)
  show wpAny _ _ (seqItems? (.ref t) >>= _) _ _ s
  refine wpAny_bind (wpAny_seqItems hol hdl ?_)
  simp only [Int.toNat_natCast,hx]
  refine wpAny_bind (wpAny_setField ho hd (by simp) (wpAny_pure ⟨x,rfl,wpAny_pure (hQ _ ?_ (Heap.SameBut.update ..))⟩))
  exact ⟨_,Heap.get?_update_self _ ho (Obj.isFreed_of_fields (Obj.data_mapFields hd _)),(Obj.cls_mapFields ..).trans hc,by
    rw [Obj.data_mapFields hd]; simp [rawInt]⟩
theorem zer {it t : Addr} {i : Nat} {items} {Q : Value→Shared→Prop} (hh : A.handled = none) (hit : s.heap.IsTupleIter it t i) (ht : s.heap.IsTuple t items) (hx : items[i]? = none)
    (hE : ∀ h' e,Heap.ExtBut it s.heap h'→(∃ o,h'.get? e = some o∧o.cls = .type "StopIteration")→E (.ref e) { s with heap := h' }) : wpAny (model prog w) A (Builtin.SmallTypes.nextOf (.ref it)) Q E s := by
  obtain ⟨o,ho,hc,hd⟩ := id hit
  obtain ⟨ol,hol,_,nl,hdl⟩ := ht
  unfold Builtin.SmallTypes.nextOf
  refine wpAny_bind (wpAny_callSpecial?_slot (name := Str.ofString "__next__") hit.typeIs F.slot_tuple_iterator_next
    (wpAny_call_entry F.slot_tuple_iterator_next hit.typeIs F.entry_tuple_iterator_next ?_ (F.args_tuple_iterator_next_1 _)))
  show wpAny _ _ (field (.ref it) 0 >>= _) _ _ s
  refine wpAny_bind (wpAny_field ho hd (x := .ref t) rfl ?_)
  show wpAny _ _ (if (Value.ref t == Value.none) = true then _ else _) _ _ s
  rw [if_neg (show ¬ ((Value.ref t == Value.none) = true) from Bool.false_ne_true)]
  show wpAny _ _ (field (.ref it) 1 >>= _) _ _ s
  refine wpAny_bind (wpAny_field ho hd (x := .int i 0) rfl ?_)
  show wpAny _ _ (seqItems? (.ref t) >>= _) _ _ s
  refine wpAny_bind (wpAny_seqItems hol hdl ?_)
  simp only [Int.toNat_natCast,hx]
  refine wpAny_bind (wpAny_rule (wpAny_bind (wpAny_setField ho hd (by simp) ?_)))
  show wpAny _ _ (newExc (.type "StopIteration") [] >>= _) _ _ _
  refine wpAny_bind ?_
  simp only [newExc,newTuple]
  refine wpAny_bind (wpAny_newObj_type ?_ (by size_fits))
  refine wpAny_bind (m := firstArgMember _ _) (wpAny_of_eq (a := Value.none) (by first | rfl | (simp only [firstArgMember]; rfl)) ?_)
  refine wpAny_newObj_type ?_ (by size_fits)
  simp only [raiseNew]
  refine wpAny_bind (wpAny_handled ?_)
  first | rw [show A.in1.handled = none from hh] | rw [hh]
  refine wpAny_bind (wpAny_pure (wpAny_throw ?_))
  exact hE _ _ (((Heap.SameBut.update ..).extBut.push _).push _) ⟨_,Heap.get?_push_size _ rfl,rfl⟩
end
theorem zjL {prog : Program} {w : World} {A : Around} (hh : A.handled = none) (it l : Addr) (hne : l≠it) (items : Array Value) :
    Draws prog w A it [it,l] items.size (fun i v => items[i]? = some v) (fun i h => h.IsTupleIter it l i∧h.IsTuple l items) where
  live := fun _ _ st => let ⟨o,ho,_⟩ := st.1; ⟨o,ho⟩
  frame := fun _ _ _ st hk => ⟨let ⟨o,ho,r⟩ := st.1; ⟨o,hk it (by simp) o ho,r⟩,let ⟨o,ho,r⟩ := st.2; ⟨o,hk l (by simp) o ho,r⟩⟩
  item := fun i s Q E hi st hQ => by
    refine zd8 st.1 st.2 (x := items[i]) (by simp [hi]) fun h' hit' hs' => ?_
    exact hQ _ h' s.toks (by simp [hi]) ⟨hit',st.2.extBut hs'.extBut hne⟩ hs'
  done := fun s Q E st hE => zer hh st.1 st.2 (by simp) hE
theorem zeU (l : Addr) (items : Array Value) (n : Nat) (dct : Option Addr) (sl : Array (Option Value)) :
    Meets (Builtin.«enumerate.__new__» ⟨[.type "enumerate",.ref l],[]⟩) (fun _ R s => s.heap.get? l = some { cls := .type "tuple",dict := dct,data := .seq items n,slots := sl } ∧
      R (.ok (.ret (.ref (s.heap.push { cls := .type "tuple_iterator",data := .fields #[.ref l,.int 0 0] }).objs.size)))
        { s with heap := (s.heap.push { cls := .type "tuple_iterator",data := .fields #[.ref l,.int 0 0] }).push { cls := .type "enumerate",data := .fields #[.none,.bool false,.ref s.heap.objs.size,rawInt 0,.none,.none] } }) :=
  .of_wp fun prog w A R s h => by
    obtain ⟨hp,g,d,tk,os⟩ := s; obtain ⟨hl,h⟩ := h
    have hsub := sub_enumerate
    have hL : Heap.IsTuple (Shared.heap ⟨hp,g,d,tk,os⟩) l items := ⟨_,hl,rfl,n,rfl⟩
    wp_walk using wpAny_loadPart' hl
    refine wpAny_stack_any fun st => wpAny_pure ?_
    split
    · rename_i c _ _ _ _ _
      cases (c == Value.type "enumerate")
      · wp_walk using wpAny_loadPart' hl,wpAny_pyIter_tuple hL
        exact ⟨_,rfl,h⟩
      · wp_walk using wpAny_loadPart' hl,wpAny_pyIter_tuple hL
        exact ⟨_,rfl,h⟩
    · wp_walk using wpAny_loadPart' hl,wpAny_pyIter_tuple hL
      exact ⟨_,rfl,h⟩
section
variable {prog : Program} {w : World} {A : Around} {E : Value → Shared → Prop} {s : Shared}
theorem ze5 {l : Addr} {items : Array Value} {Q : Value→Shared→Prop} (hL : s.heap.IsTuple l items)
    (h : ∀ h',IsEnum h' (s.heap.objs.size + 1) s.heap.objs.size 0 .none→h'.IsTupleIter s.heap.objs.size l 0→h'.objs.size = s.heap.objs.size + 2 →
      (∀ b o,s.heap.get? b = some o→h'.get? b = some o)→Q (.ref (s.heap.objs.size + 1)) { s with heap := h' }) :
    wpAny (model prog w) A (call (.type "enumerate") [.ref l]) Q E s := by
  obtain ⟨⟨c,dct,dt,sl⟩,hl,hc,n,hd⟩ := hL
  replace hc : c = .type "tuple" := hc
  replace hd : dt = .seq items n := hd
  subst hc hd
  refine callType_new F.called_enumerate (by decide) (F.typeCall_enumerate_1 _) (F.newCall_enumerate_1 _) (fun obj => F.args_object_init_2 obj _) F.entry_enumerate_new
    (zeU l items n dct sl) ⟨hl,?_⟩
  have hz : (s.heap.push { cls := .type "tuple_iterator",data := .fields #[.ref l,.int 0 0] }).objs.size = s.heap.objs.size + 1 := Heap.size_push ..
  show _∧_
  rw [hz]
  have he : IsEnum ((s.heap.push { cls := .type "tuple_iterator",data := .fields #[.ref l,.int 0 0] }).push
      { cls := .type "enumerate",data := .fields #[.none,.bool false,.ref s.heap.objs.size,rawInt 0,.none,.none] }) (s.heap.objs.size + 1) s.heap.objs.size 0 .none := by
    have := Heap.get?_push_size (s.heap.push { cls := .type "tuple_iterator",data := .fields #[.ref l,.int 0 0] })
      (o := { cls := .type "enumerate",data := .fields #[.none,.bool false,.ref s.heap.objs.size,rawInt 0,.none,.none] }) rfl
    rw [hz] at this; exact this
  refine ⟨⟨_,he,rfl⟩,h _ he ⟨_,Heap.get?_push_of_some _ (Heap.get?_push_size _ rfl),rfl,rfl⟩ (by rw [Heap.size_push,hz]) fun b o x => Heap.get?_push_of_some _ (Heap.get?_push_of_some _ x)⟩
end
theorem zfO {X : Cx} {pins : List (Addr × Obj)} {σ : L2.St} {H : Hp} {s : Shared} {h' : Heap} {ch : List Addr} {T : Addr} {o : HO} {t' : Nat} (I : Inv X pins σ H s)
    (hch : ∀ b∈ch,FpOk X pins H b) (k : ∀ b ob,b∉ch→s.heap.get? b = some ob→h'.get? b = some ob) (hT : s.heap.objs.size≤T) (new : zbe X.prog X.w (upd H T o) h' T o) : Inv X pins σ (upd H T o) { s with heap := h',toks := t' } := by
  have hTn : H T = none := I.hok.fresh hT
  have trk : ∀ b u,H b = some u→b∉ch := fun b u e hb => by rw [(hch b hb).1] at e; cases e
  have neT : ∀ b ob,s.heap.get? b = some ob→b≠T := fun b ob e => Nat.ne_of_lt (Nat.lt_of_lt_of_le (Heap.lt_size e) hT)
  have keepU : ∀ b u,H b = some u→upd H T o b = some u := fun b u e => by rw [zaC (zbC e hTn)]; exact e
  refine I.step (g' := s.gens) (d' := s.drawn) (ch := ch) (fun b hb => ?_) (fun b ob _ _ hc e _ => k b ob hc e) (fun b ob _ _ hc e _ => ⟨ob.slots,k b ob hc e⟩) (fun b ob hc e n => by rw [zaC (neT b ob e)]; exact n)
    (fun b ob hc e => ⟨ob,k b ob hc e⟩) (fun b xs e => keepU b _ e) (fun b ob u e => keepU b _ e) (fun b ps e => ⟨#[],by rw [keepU b _ e]; simp⟩) (fun m hm => ?_) (fun b u e => ?_) I.bare
  · obtain ⟨z0,z1,z2,z3,z4,z5⟩ := hch b hb
    exact ⟨z3,z1,z4,z5⟩
  · obtain ⟨ob,es,ep,ho,r⟩ := hm
    exact ⟨ob,es,ep,k _ ob (fun hb => (hch _ hb).2.1 rfl) ho,r⟩
  · by_cases hb : b = T
    · subst hb
      rw [zar] at e
      cases e
      exact new
    · rw [zaC hb] at e
      refine (I.hok b u e).stay (fun c v hc q => k c v ?_ q) (fun c q => keepU c _ q) fun c xs q => keepU c _ q
      rcases hc with z | z
      · rw [z]; exact trk b u e
      · exact trk c _ z
noncomputable def Ien (sq : Hp→List V→Prop) : It :=
  ⟨fun i H => ∃ xs x,sq H xs∧xs[i]? = some x,fun i H x H' => ∃ p v,H p = none∧x = .ref p∧H' = upd H p (.tup [.int i,v])∧∀ xs,sq H xs→xs[i]? = some v,fun i H => ∃ xs,sq H xs∧xs.length = i⟩
theorem ziS {P : Program} {w : World} {H : Hp} {h : Heap} {T : Addr} {i : Nat} {tk : Tok} {x : Value} {v : V} (hT : h.get? T = some { cls := .type "tuple",data := .seq #[.int i tk,x] }) (r : L2.RelV v x) : zbe P w H h T (.tup [.int i,v]) :=
  ⟨by show 2≤sizeLine; decide,[.int i tk,x],.cons ⟨tk,rfl⟩ (.cons r .nil),⟨_,hT,rfl,0,rfl⟩,_,hT,rfl⟩
theorem zhU {P : Program} {w : World} {K : PySem.W.Frag} {elts : List Expr} {k : Nat} {pos : Pos} (a it e : Addr) (hei : e≠it) : Turn P w K (.Tuple elts k pos) (Ien fun H xs => SqL K H a xs) [e,it] e (fun i h => (∃ old,IsEnum h e it i old)∧h.IsListIter it a i) where
  mem := by simp
  obj := fun i h st b hb => by
    obtain ⟨⟨old,he⟩,o,ho,hc,hd⟩ := st
    rcases List.mem_cons.mp hb with rfl | hb
    · exact ⟨_,he,fun v z => by have z' : Data.fields _ = Data.cell v := z; cases z'⟩
    · rw [List.mem_singleton.mp hb]
      exact ⟨o,ho,fun v z => by rw [hd] at z; cases z⟩
  keep := fun i h h' st kk => by
    obtain ⟨⟨old,he⟩,hi⟩ := st
    exact ⟨⟨old,kk e (by simp) _ he⟩,hi.at fun o q => kk it (by simp) o q⟩
  item := by
    intro X hP hw hK hc i pins s σ H E I hf st hg
    subst hP hw hK
    obtain ⟨xs,x,hq,hx⟩ := hg
    obtain ⟨its,rv,p,hz⟩ := I.list hq
    obtain ⟨⟨old,he⟩,hi⟩ := st
    obtain ⟨o1,ho1,hc1,hd1⟩ := id hi
    obtain ⟨o2,ho2,hc2,_⟩ := id p.isList
    have hai : a≠it := by rintro rfl; rw [ho1] at ho2; cases ho2; rw [hc1] at hc2; exact absurd hc2 (by decide)
    have hea : e≠a := by rintro rfl; rw [he] at ho2; cases ho2; exact absurd (show Value.type "enumerate" = _ from hc2) (by decide)
    have hlt : i < its.toArray.size := by
      have := (List.getElem?_eq_some_iff.mp hx).1
      rw [List.size_toArray,← rv.length]; exact this
    refine wpAny_pyNext_enum_itemD (Draws.list (A := X.A.in1) (show X.A.in1.handled = none from I.ok.hd hc) it a hai its.toArray) he ⟨hi,p.isList⟩ hlt hei (by simp [hei,hea]) fun y h' tk hP ho hs' hT hsz hk => ?_
    refine ⟨_,rfl,wpAny_letOwnedTupleGo_enum ho fun h'' he'' hs'' => ?_⟩
    obtain ⟨u,hu,ru⟩ := rv.get hx
    have hy : y = u := by
      have : its[i]? = some y := by simpa using hP
      rw [hu] at this; exact (Option.some.inj this).symm
    subst hy
    have hTe : s.heap.objs.size≠e := Nat.ne_of_gt (Heap.lt_size he)
    have hT'' : h''.get? s.heap.objs.size = some { cls := .type "tuple",data := .seq #[.int i tk,y] } := (hs''.2 _ hTe).trans hT
    refine ⟨.ref s.heap.objs.size,upd H s.heap.objs.size (.tup [.int i,x]),zfO (s := s) (h' := h'') (t' := tk + 1) (ch := [e,it]) I hf (fun b ob hb q => ?_) (Nat.le_refl _) (ziS hT'' ru),rfl,⟨_,x,I.hok.fresh (Nat.le_refl _),rfl,rfl,fun ys hy => by rw [I.list_inj hy hq]; exact hx⟩,⟨⟨_,by simpa using he''⟩,hs'.1.extBut hs''.extBut (Ne.symm hei)⟩,fun b hb => ?_⟩
    · have hbe : b≠e := fun z => hb (by simp [z])
      exact (hs''.2 b hbe).trans (hk b ob hbe (fun z => hb (by simp [z])) q)
    · rw [zaC ?_]
      · exact (hf b hb).1
      · rcases List.mem_cons.mp hb with rfl | hb
        · exact Nat.ne_of_lt (Heap.lt_size he)
        · rw [List.mem_singleton.mp hb]; exact Nat.ne_of_lt (Heap.lt_size ho1)
  done := by
    intro X hP hw hK hc i pins s σ H E I hf st hg
    subst hP hw hK
    obtain ⟨xs,hq,hx⟩ := hg
    obtain ⟨its,rv,p,hz⟩ := I.list hq
    obtain ⟨⟨old,he⟩,hi⟩ := st
    obtain ⟨o1,ho1,hc1,hd1⟩ := id hi
    obtain ⟨o2,ho2,hc2,_⟩ := id p.isList
    have hai : a≠it := by rintro rfl; rw [ho1] at ho2; cases ho2; rw [hc1] at hc2; exact absurd hc2 (by decide)
    obtain ⟨f0,f1,f2,f3,f4,f5⟩ := hf it (by simp)
    have hn : its.toArray.size = i := by rw [List.size_toArray,← rv.length]; exact hx
    refine wpAny_pyNext_enum_endD (Draws.list (A := X.A.in1) (show X.A.in1.handled = none from I.ok.hd hc) it a hai its.toArray) he ⟨by rw [hn]; exact hi,p.isList⟩ fun h' eb => ⟨rfl,I.turned (t' := s.toks) (fun b o hb q => eb b o hb q) f0 f1 f3 f4 f5⟩
  self := fun _ _ _ _ _ st h => let ⟨⟨_,he⟩,_⟩ := st; wpAny_pyIter_enum he h
theorem IsTupleIter.at' {h h' : Heap} {a t : Addr} {i : Nat} (x : h.IsTupleIter a t i) (hs : ∀ o,h.get? a = some o→h'.get? a = some o) : h'.IsTupleIter a t i := let ⟨o,ho,r⟩ := x; ⟨o,hs o ho,r⟩
theorem zhT {P : Program} {w : World} {K : PySem.W.Frag} {elts : List Expr} {k : Nat} {pos : Pos} (a it e : Addr) (hei : e≠it) : Turn P w K (.Tuple elts k pos) (Ien fun H xs => SqT K H a xs) [e,it] e (fun i h => (∃ old,IsEnum h e it i old)∧h.IsTupleIter it a i) where
  mem := by simp
  obj := fun i h st b hb => by
    obtain ⟨⟨old,he⟩,o,ho,hc,hd⟩ := st
    rcases List.mem_cons.mp hb with rfl | hb
    · exact ⟨_,he,fun v z => by have z' : Data.fields _ = Data.cell v := z; cases z'⟩
    · rw [List.mem_singleton.mp hb]
      exact ⟨o,ho,fun v z => by rw [hd] at z; cases z⟩
  keep := fun i h h' st kk => by
    obtain ⟨⟨old,he⟩,hi⟩ := st
    exact ⟨⟨old,kk e (by simp) _ he⟩,IsTupleIter.at' hi fun o q => kk it (by simp) o q⟩
  item := by
    intro X hP hw hK hc i pins s σ H E I hf st hg
    subst hP hw hK
    obtain ⟨xs,x,hq,hx⟩ := hg
    obtain ⟨its,rv,p,hz⟩ := I.tuple hq
    obtain ⟨⟨old,he⟩,hi⟩ := st
    obtain ⟨o1,ho1,hc1,hd1⟩ := id hi
    obtain ⟨o2,ho2,hc2,_⟩ := id p
    have hai : a≠it := by rintro rfl; rw [ho1] at ho2; cases ho2; rw [hc1] at hc2; exact absurd hc2 (by decide)
    have hea : e≠a := by rintro rfl; rw [he] at ho2; cases ho2; exact absurd (show Value.type "enumerate" = _ from hc2) (by decide)
    have hlt : i < its.toArray.size := by
      have := (List.getElem?_eq_some_iff.mp hx).1
      rw [List.size_toArray,← rv.length]; exact this
    refine wpAny_pyNext_enum_itemD (zjL (A := X.A.in1) (show X.A.in1.handled = none from I.ok.hd hc) it a hai its.toArray) he ⟨hi,p⟩ hlt hei (by simp [hei,hea]) fun y h' tk hP ho hs' hT hsz hk => ?_
    refine ⟨_,rfl,wpAny_letOwnedTupleGo_enum ho fun h'' he'' hs'' => ?_⟩
    obtain ⟨u,hu,ru⟩ := rv.get hx
    have hy : y = u := by
      have : its[i]? = some y := by simpa using hP
      rw [hu] at this; exact (Option.some.inj this).symm
    subst hy
    have hTe : s.heap.objs.size≠e := Nat.ne_of_gt (Heap.lt_size he)
    have hT'' : h''.get? s.heap.objs.size = some { cls := .type "tuple",data := .seq #[.int i tk,y] } := (hs''.2 _ hTe).trans hT
    refine ⟨.ref s.heap.objs.size,upd H s.heap.objs.size (.tup [.int i,x]),zfO (s := s) (h' := h'') (t' := tk + 1) (ch := [e,it]) I hf (fun b ob hb q => ?_) (Nat.le_refl _) (ziS hT'' ru),rfl,⟨_,x,I.hok.fresh (Nat.le_refl _),rfl,rfl,fun ys hy => by rw [I.tuple_inj hy hq]; exact hx⟩,⟨⟨_,by simpa using he''⟩,hs'.1.extBut hs''.extBut (Ne.symm hei)⟩,fun b hb => ?_⟩
    · have hbe : b≠e := fun z => hb (by simp [z])
      exact (hs''.2 b hbe).trans (hk b ob hbe (fun z => hb (by simp [z])) q)
    · rw [zaC ?_]
      · exact (hf b hb).1
      · rcases List.mem_cons.mp hb with rfl | hb
        · exact Nat.ne_of_lt (Heap.lt_size he)
        · rw [List.mem_singleton.mp hb]; exact Nat.ne_of_lt (Heap.lt_size ho1)
  done := by
    intro X hP hw hK hc i pins s σ H E I hf st hg
    subst hP hw hK
    obtain ⟨xs,hq,hx⟩ := hg
    obtain ⟨its,rv,p,hz⟩ := I.tuple hq
    obtain ⟨⟨old,he⟩,hi⟩ := st
    obtain ⟨o1,ho1,hc1,hd1⟩ := id hi
    obtain ⟨o2,ho2,hc2,_⟩ := id p
    have hai : a≠it := by rintro rfl; rw [ho1] at ho2; cases ho2; rw [hc1] at hc2; exact absurd hc2 (by decide)
    obtain ⟨f0,f1,f2,f3,f4,f5⟩ := hf it (by simp)
    have hn : its.toArray.size = i := by rw [List.size_toArray,← rv.length]; exact hx
    refine wpAny_pyNext_enum_endD (zjL (A := X.A.in1) (show X.A.in1.handled = none from I.ok.hd hc) it a hai its.toArray) he ⟨by rw [hn]; exact hi,p⟩ fun h' eb => ⟨rfl,I.turned (t' := s.toks) (fun b o hb q => eb b o hb q) f0 f1 f3 f4 f5⟩
  self := fun _ _ _ _ _ st h => let ⟨⟨_,he⟩,_⟩ := st; wpAny_pyIter_enum he h
end DL
end
section
namespace DL
open PySem PySem.Spec PyProof.Rows L2
noncomputable def tyN : D→Option String
  | .non => some "NoneType"
  | .bl _ => some "bool"
  | .int _ => some "int"
  | .str _ => some "str"
  | .tup _ => some "tuple"
  | .lst _ => some "list"
  | .dic _ => some "dict"
  | .obj _ _ => none
noncomputable def subT (t T : String) : Bool := t == T || (t == "bool" && T == "int")
noncomputable def isiD (T : String) (d : D) : Option D := (tyN d).map fun t => .bl (subT t T)
noncomputable def TyD (K : PySem.W.Frag) (x : V) (H : Hp) (t : String) : Prop := match x with
  | .non => t = "NoneType"
  | .bl _ => t = "bool"
  | .int _ => t = "int"
  | .str _ => t = "str"
  | .ref p => (t = "list"∧∃ xs,SqL K H p xs)∨(t = "tuple"∧∃ xs,SqT K H p xs)∨(t = "dict"∧∃ kvs,Rd H p (.dK kvs))
  | _ => False
theorem znc {K : PySem.W.Frag} {G : GH} {H : Hp} {v : V} {d : D} {t : String} (gk : GOk K G H) (h : RB K G H v d) (e : tyN d = some t) : TyD K v H t := by
  cases d with
  | non => cases e; rw [h.non gk]; rfl
  | bl b => cases e; rw [h.bl gk]; rfl
  | int i => cases e; rw [h.int gk]; rfl
  | str x => cases e; rw [h.str gk]; rfl
  | tup ds => cases e; obtain ⟨a,xs,rfl,s,r⟩ := h.tup gk; exact .inr (.inl ⟨rfl,xs,s⟩)
  | lst ds => cases e; obtain ⟨a,xs,rfl,s,r⟩ := h.lst gk; exact .inl ⟨rfl,xs,s⟩
  | dic ds => cases e; obtain ⟨a,xs,rfl,s,r⟩ := h.dic gk; exact .inr (.inr ⟨rfl,xs,s⟩)
  | obj _ _ => cases e
section
variable {X : Cx} {g : GE} {m : List Md} {e a : Expr} {f : FE} {pos p p2 : Pos}
theorem zk9 : zc4 X (.builtin "isinstance") (fun xs H Q => ∃ x t T b,xs = [x,.ty T]∧TyD X.K x H t∧PySem.W.kitOne X.K (.type t) (.type T) = some b∧Q (.bl b) H) := by
  intro pins s σ H xs us Q I r h
  obtain ⟨x,t,T,b,rfl,ty,e,q⟩ := h
  obtain ⟨u,w',rfl,rx,ry⟩ := zm7 r
  cases ry
  have fin : ∀ tk,EP X pins σ Q (.bool b) { s with toks := tk } := fun tk => ⟨.bl b,H,I.tok tk,rfl,q⟩
  cases x with
  | non => cases rx; cases (show t = "NoneType" from ty); exact PySem.W.kia_one PySem.W.kitx_none I.kIn True.intro e (fun z => nomatch z) fin
  | bl y => cases rx; cases (show t = "bool" from ty); exact PySem.W.kia_one PySem.W.kitx_bool I.kIn True.intro e (fun z => nomatch z) fin
  | int i => obtain ⟨t,rfl⟩ := rx; cases ty; exact PySem.W.kia_one PySem.W.kitx_int I.kIn True.intro e (fun z => nomatch z) fin
  | str i => obtain ⟨t,rfl⟩ := rx; cases ty; exact PySem.W.kia_one PySem.W.kitx_str I.kIn True.intro e (fun z => nomatch z) fin
  | ref p =>
    cases rx
    rcases ty with ⟨rfl,xs,hq⟩ | ⟨rfl,xs,hq⟩ | ⟨rfl,kvs,hq⟩
    · obtain ⟨its,_,pl,_⟩ := I.list hq
      obtain ⟨o,ho,hc,_⟩ := pl.isList
      exact PySem.W.kia_one PySem.W.kitx_list I.kIn ⟨o,ho,hc⟩ e (fun z => nomatch z) fin
    · obtain ⟨its,_,pl,_⟩ := I.tuple hq
      obtain ⟨o,ho,hc,_⟩ := pl
      exact PySem.W.kia_one PySem.W.kitx_tuple I.kIn ⟨o,ho,hc⟩ e (fun z => nomatch z) fin
    · obtain ⟨_,_,vs,_,pp⟩ := (show zbe X.prog X.w H s.heap p (.dK kvs) from hq.ok I.hok)
      obtain ⟨o,es,ep,h1,h2,_⟩ := pp
      exact PySem.W.kia_one PySem.W.kitx_dict I.kIn ⟨o,h1,h2.1⟩ e (fun z => nomatch z) fin
  | _ => exact (show False from ty).elim
theorem ziz (x : Str) (T : String) (hv : bootBuiltins x = some (.type T)) (hk : ∀ (d : D) (t : String),tyN d = some t→PySem.W.kitOne X.K (.type t) (.type T) = some (subT t T)) (hg : Gl X "isinstance") (hm : X.mg "isinstance" = none) (hgT : Gl X x) (hmT : X.mg x = none) (he : SB X g m e f)
    (hn : x≠"__name__" := by decide) (hd : (x == ("__debug__" : Str)) = false := by decide) (hs1 : starEach [e,.Name x p2] X.env = (false,eval e X.env)::starEach [.Name x p2] X.env := by rfl) (hs2 : starEach [.Name x p2] X.env = (false,eval (.Name x p2) X.env)::starEach [] X.env := by rfl)
    (hpl : (backTo pos (starEach [.Name x p2] X.env)).any (·.1) = false := by rfl) :
    SE X g m (.Call (.Name "isinstance" p) [e,.Name x p2] [] pos) (f1 f (isiD T)) := by
  refine PE.imp (zez zk9 hg hm (by first | exact PyProof.Rows.boot_isinstance | rfl) (zbB he (zbB (zmj (v := .ty T) hgT hmT hv rfl hn hd) zdy hs2) hs1) (by decide) (by decide) hs1 hpl) fun σ H Q ⟨r,G,si,q⟩ => ⟨r,G,si,zah (zag q) fun d q1 v G1 H1 w1 r1 => ?_⟩
  obtain ⟨d',e',q2⟩ := zav q1
  unfold isiD at e'
  cases et : tyN d with
  | none => rw [et] at e'; cases e'
  | some t =>
    rw [et] at e'
    cases e'
    exact ⟨v,t,T,_,rfl,znc w1.ok r1 et,hk d t et,q2 _ G1 H1 w1 (.scl (.bl _))⟩
end
theorem zeF {d : D} {t : String} (h : tyN d = some t) {P : String→Prop} (h1 : P "NoneType") (h2 : P "bool") (h3 : P "int") (h4 : P "str") (h5 : P "tuple") (h6 : P "list") (h7 : P "dict") : P t := by
  cases d <;> cases h <;> assumption
theorem zmC (K : PySem.W.Frag) (d : D) (t : String) (h : tyN d = some t) : PySem.W.kitOne K (.type t) (.type "int") = some (subT t "int") := zeF (P := fun t => PySem.W.kitOne K (.type t) (.type "int") = some (subT t "int")) h (by kernel_rfl) (by kernel_rfl) (by kernel_rfl) (by kernel_rfl) (by kernel_rfl) (by kernel_rfl) (by kernel_rfl)
theorem zkQ (K : PySem.W.Frag) (d : D) (t : String) (h : tyN d = some t) : PySem.W.kitOne K (.type t) (.type "bool") = some (subT t "bool") := zeF (P := fun t => PySem.W.kitOne K (.type t) (.type "bool") = some (subT t "bool")) h (by kernel_rfl) (by kernel_rfl) (by kernel_rfl) (by kernel_rfl) (by kernel_rfl) (by kernel_rfl) (by kernel_rfl)
theorem zeX (K : PySem.W.Frag) (d : D) (t : String) (h : tyN d = some t) : PySem.W.kitOne K (.type t) (.type "tuple") = some (subT t "tuple") := zeF (P := fun t => PySem.W.kitOne K (.type t) (.type "tuple") = some (subT t "tuple")) h (by kernel_rfl) (by kernel_rfl) (by kernel_rfl) (by kernel_rfl) (by kernel_rfl) (by kernel_rfl) (by kernel_rfl)
section
variable {X : Cx} {g : GE} {m : List Md} {e a b : Expr} {f fa : FE} {pos p pos2 p2 : Pos} {es : List Expr} {fl : Rho → Res (List D)}
noncomputable def rngV (lo : Int) (n : Nat) : List V := (List.range n).map fun (i : Nat) => V.int (lo + (i : Int))
theorem zny {K : PySem.W.Frag} {G : GH} (lo : Int) (n : Nat) : RGs K G (rngV lo n) (rngD lo n) := by
  unfold rngV rngD
  induction (List.range n) with
  | nil => exact .nil
  | cons i l ih => exact .cons (.scl (.int _)) ih
theorem zcJ : ∀ {xs : List V} {us : List Value},xs.length = us.length→(∀ (j : Nat) v u,xs[j]? = some v→us[j]? = some u→L2.RelV v u)→Vals xs us
  | [],[],_,_ => .nil
  | v::xs,u::us,hl,h => .cons (h 0 v u rfl rfl) (zcJ (by simpa using hl) fun j a b e1 e2 => h (j + 1) a b (by simpa using e1) (by simpa using e2))
  | [],_::_,hl,_ => by simp at hl
  | _::_,[],hl,_ => by simp at hl
theorem zks {lo : Int} {n : Nat} {acc : Array Value} (h : ItemsOf (fun i v => ∃ t,v = .int (lo + i * 1) t) acc n) : Vals (rngV lo n) acc.toList := by
  refine zcJ (by simp [rngV,h.1]) fun j v u e1 e2 => ?_
  have hj : j < n := by
    have := (List.getElem?_eq_some_iff.mp e1).1
    simpa [rngV] using this
  unfold rngV at e1
  rw [List.getElem?_map,List.getElem?_range hj] at e1
  cases e1
  obtain ⟨t,rfl⟩ := h.2 j u (by rw [← Array.getElem?_toList]; exact e2)
  exact ⟨t,by simp⟩
theorem zjZ : zc4 X (.type "range") (fun xs H Q => ∃ j,xs = [.int j]∧∀ p,H p = none→Q (.ref p) (upd H p (.rng 0 j))) := by
  intro pins s σ H xs us Q I r h
  obtain ⟨j,rfl,q⟩ := h
  obtain ⟨u,rfl,t,rfl⟩ := zd3 r
  refine call_range_1 ⟨.ref s.heap.objs.size,_,I.laid (o := .rng 0 j) (fun b o e => Heap.get?_push_of_some _ e) (Nat.le_refl _) ⟨_,_,_,Heap.get?_push_size _ rfl⟩,rfl,q _ (I.hok.fresh (Nat.le_refl _))⟩
theorem zfX (hc : X.calm = true) : zc4 X (.type "list") (fun xs H Q => ∃ p lo hi,xs = [.ref p]∧H p = some (.rng lo hi)∧(-(2 ^ 62)≤lo∧lo < 2 ^ 62∧-(2 ^ 62)≤hi∧hi < 2 ^ 62)∧(hi - lo).toNat≤sizeLine∧∀ l,H l = none→Q (.ref l) (upd H l (.lst (rngV lo (hi - lo).toNat)))) := by
  intro pins s σ H xs us Q I r h
  obtain ⟨p,lo,hi,rfl,hp,⟨h1,h2,h3,h4⟩,hz,q⟩ := h
  obtain ⟨u,rfl,rx⟩ := zd3 r
  cases rx
  obtain ⟨t,u,v,ho⟩ := (show zbe X.prog X.w H s.heap p (.rng lo hi) from I.hok p _ hp)
  have e2 : Builtin.Range.rangeSize lo hi 1 = (((hi - lo).toNat : Nat) : Int) := by rw [rangeSize_one]; split <;> omega
  refine call_list_range (I.ok.hd hc) (r := p) (a := lo) (b := hi) (c := 1) ho (small_one h1 h2 h3 h4) e2 (by rw [sizeLine_eq] at hz; omega) fun h' tk acc c' kp hS hacc => ?_
  refine ⟨.ref s.heap.objs.size,_,I.laid (t' := tk) kp (Nat.le_refl _) (show zbe X.prog X.w _ h' _ (.lst (rngV lo (hi - lo).toNat)) from ⟨by unfold rngV; rw [List.length_map,List.length_range]; exact hz,acc.toList,c',zks hacc,by rw [Array.toArray_toList]; exact hS⟩),rfl,q _ (I.hok.fresh (Nat.le_refl _))⟩
noncomputable def zh8 : List D→Option D
  | [.int j] => if -(2 ^ 62)≤j∧j < 2 ^ 62∧j.toNat≤sizeLine then some (.lst (rngD 0 j.toNat)) else none
  | _ => none
theorem zoE {H : Hp} {p l : Addr} {o : HO} (h : upd H p o l = none) : H l = none∧l≠p := by
  by_cases e : l = p
  · subst e; rw [zar] at h; cases h
  · rw [zaC e] at h; exact ⟨h,e⟩
theorem zi4 (hc : X.calm = true) (hgl : Gl X "list") (hml : X.mg "list" = none) (hg : Gl X "range") (hm : X.mg "range" = none) (ha : SAB X g m [a] fl)
    (hs : starEach [a] X.env = (false,eval a X.env)::starEach [] X.env := by rfl)
    (hs2 : starEach [.Call (.Name "range" p2) [a] [] pos2] X.env = (false,eval (.Call (.Name "range" p2) [a] [] pos2) X.env)::starEach [] X.env := by rfl) :
    SO X g m (.Call (.Name "list" p) [.Call (.Name "range" p2) [a] [] pos2] [] pos) (fC fl zh8) := by
  refine PE.imp (zcC (zfX hc) hgl hml rfl (zbB (zcC zjZ hg hm boot_range ha (by decide) (by decide) hs rfl) zdy hs2) (by decide) (by decide) hs2 rfl) fun σ H Q ⟨r,G,si,q⟩ => ⟨r,G,si,zah (zag q) fun ds q1 vs G1 H1 w1 rs => ?_⟩
  obtain ⟨d,e,q2⟩ := zav q1
  unfold zh8 at e
  split at e
  · split at e
    · rename_i j hj
      cases e
      cases rs with
      | cons r1 t =>
        cases t
        refine ⟨j,by rw [r1.int w1.ok],fun p hp => ⟨p,0,j,rfl,zar,⟨by decide,by decide,hj.1,hj.2.1⟩,by simpa using hj.2.2,fun l hl => ?_⟩⟩
        obtain ⟨hl1,hl2⟩ := zoE hl
        have w2 := Grow.new w1.ok hp (.rng 0 j)
        have w3 := Grow.new w2.ok hl (.lst (rngV 0 (j - 0).toNat))
        refine q2 l G1 _ (w1.trans (w2.trans w3)) (w1.back hl1) ⟨w1.ok.isN hl1,.lst zar ?_⟩
        rw [show j - 0 = j by omega]
        exact zny 0 _
    · cases e
  · cases e
end
end DL
end
section
namespace DL
open PySem PySem.Spec PyProof.Rows L2
noncomputable def MtD (K : PySem.W.Frag) (r : V→List V→Hp→VK→Prop) (k : D→List D→Option D) : Prop := ∀ (G : GH) (H : Hp) (v : V) (d : D) (vs : List V) (ds : List D) (d' : D) (Q : VK),GOk K G H→RB K G H v d→Paired (RB K G H) vs ds→k d ds = some d' →
  (∀ v' G' H',Grow K G H G' H'→RG K G' v' d'→Q v' H')→r v vs H Q
noncomputable def tyM (T : String) : D→Bool
  | .lst _ => T == "list"
  | .tup _ => T == "tuple"
  | .dic _ => T == "dict"
  | .str _ => T == "str"
  | .int _ => T == "int"
  | _ => false
theorem znb {K : PySem.W.Frag} {G : GH} {H : Hp} {v : V} {d : D} {T : String} (gk : GOk K G H) (h : RB K G H v d) (t : tyM T d = true) : tyV K T v H := by
  cases d with
  | lst ds => obtain ⟨a,xs,rfl,s,r⟩ := h.lst gk; exact .inl ⟨eq_of_beq t,xs,s⟩
  | tup ds =>
    have e : T = "tuple" := eq_of_beq t
    rcases h with h | ⟨a,rfl,o⟩
    · cases h with
      | scl s => cases s
      | ref q =>
        cases gk _ _ q with
        | tup r s => exact .inr (.inl ⟨e,.inr ⟨_,r⟩⟩)
      | kc k =>
        cases k with
        | tup r s z => exact .inr (.inl ⟨e,.inl z⟩)
    · cases o.ob
  | dic ds => obtain ⟨a,xs,rfl,s,r⟩ := h.dic gk; exact .inr (.inr (.inl ⟨eq_of_beq t,.inl ⟨xs,s⟩⟩))
  | str x => rw [h.str gk]; exact eq_of_beq t
  | int x => rw [h.int gk]; exact eq_of_beq t
  | _ => cases t
noncomputable def fM (T : String) (fo : FE) (fl : Rho→Res (List D)) (k : D→List D→Option D) : FE := fun r => (fo r).bind fun d => if tyM T d = true then (fl r).bind fun ds => opt (k d ds) else .stuck
section
variable {X : Cx} {g : GE} {m mb : List Md} {e a b o : Expr} {es : List Expr} {f fa fb fo : FE} {fl : Rho → Res (List D)} {pos pos' apos cpos : Pos} {ro : Bool} {x name : Str} {T id : String} {R : V → List V → Hp → VK → Prop} {k : D → List D → Option D}
theorem s_bm (pa : PlainAttrs T) (slot : Slot T name id) (hty : typeOf (.builtin id) = pure (.type "method_descriptor")) (hmt : MtR X id R) (hk : MtD X.K R k) (ho : SB X g m o fo) (ha : SAB X g m (e::es) fl)
    (hbase : attributeBase o name X.env (eval o X.env) = eval o X.env := by rfl)
    (hfew : ((backTo cpos (starEach (e::es) X.env)).all (fun x => !x.1) && (backToKw cpos (keywordEach [] X.env)).all (fun x => x.1.isSome) && decide ((e::es).length + ([] : List Keyword).length + (if ([] : List Keyword).isEmpty then 0 else 1) < 30)) = true := by rfl)
    (hline : (apos.endLine == cpos.line) = true := by rfl) (hst : starEach (e::es) X.env = (false,eval e X.env)::starEach es X.env := by rfl) (hplain : (backTo cpos (starEach es X.env)).any (·.1) = false := by rfl) :
    SE X g m (.Call (.Attribute o name apos) (e::es) [] cpos) (fM T fo fl k) := by
  refine PE.imp (znU pa slot hty hmt ho ha hbase hfew hline hst hplain) fun σ H Q ⟨r,G,si,q⟩ => ⟨r,G,si,zah (zag q) fun d q1 v G1 H1 w1 r1 => ?_⟩
  by_cases ht : tyM T d = true
  · rw [if_pos ht] at q1
    refine ⟨znb w1.ok r1 ht,r,G1,si.grow w1,zaO (zag q1) w1 fun ds q2 vs G2 H2 w2 rs => ?_⟩
    obtain ⟨d',e',q3⟩ := zav q2
    exact hk G2 H2 v d vs ds d' Q w2.ok (r1.mono w2) rs e' fun v' G' H' w' z => q3 v' G' H' ((w1.trans w2).trans w') z
  · rw [if_neg ht] at q1; exact q1.elim
noncomputable def zfi (x : V) : List V→Option Nat
  | [] => none
  | y::xs => if eqV y x = true then some 0 else (zfi x xs).map (· + 1)
noncomputable def zd0 (x : D) : List D→Option Nat
  | [] => none
  | y::xs => if eqs y x = true then some 0 else (zd0 x xs).map (· + 1)
theorem zfQ (x : D) : ∀ ds : List D,zfi (toV x) (ds.map toV) = zd0 x ds
  | [] => rfl
  | y::ds => by
    show (if eqV (toV y) (toV x) = true then some 0 else (zfi (toV x) (ds.map toV)).map (· + 1)) = if eqs y x = true then some 0 else (zd0 x ds).map (· + 1)
    rw [zfQ x ds]; rfl
theorem zeC {x : V} : ∀ {xs : List V} {us : List Value} {j : Nat},Vals xs us→xs.all zc3 = true→zfi x xs = some j→∃ hj : j < us.length,eqU x us[j] = true∧∀ i (hi : i < us.length),i < j→eqU x us[i] = false
  | _,_,_,.nil,_,h => by cases h
  | y::xs,u::us,j,.cons r t,f,h => by
    rw [List.all_cons,Bool.and_eq_true] at f
    unfold zfi at h
    by_cases hy : eqV y x = true
    · rw [if_pos hy] at h
      cases h
      exact ⟨Nat.zero_lt_succ _,by show eqU x u = true; rw [zhE r f.1]; exact hy,fun i _ hlt => absurd hlt (Nat.not_lt_zero _)⟩
    · rw [if_neg hy] at h
      cases e : zfi x xs with
      | none => rw [e] at h; cases h
      | some z =>
        rw [e] at h
        cases h
        obtain ⟨a,b,c⟩ := zeC t f.2 e
        refine ⟨Nat.succ_lt_succ a,b,fun i hi hlt => ?_⟩
        cases i with
        | zero => show eqU x u = false; rw [zhE r f.1]; simpa using hy
        | succ i => exact c i (Nat.lt_of_succ_lt_succ hi) (Nat.lt_of_succ_lt_succ hlt)
noncomputable def ziI (K : PySem.W.Frag) : V→List V→Hp→VK→Prop := fun x vs H Q => ∃ p xs y j,x = .ref p∧vs = [y]∧SqL K H p xs∧zc3 y = true∧xs.all zc3 = true∧zfi y xs = some j∧Q (.int j) H
noncomputable def ziH (K : PySem.W.Frag) : V→List V→Hp→VK→Prop := fun x vs H Q => ∃ p xs y j,x = .ref p∧vs = [y]∧SqT K H p xs∧zc3 y = true∧xs.all zc3 = true∧zfi y xs = some j∧Q (.int j) H
theorem zi9 : MtR X "list.index" (ziI X.K) := by
  intro pins s σ H x vs v us Q I rx rv h
  obtain ⟨p,xs,y,j,rfl,rfl,hq,fy,fx,e,q⟩ := h
  cases rx
  obtain ⟨u,rfl,ru⟩ := zd3 rv
  obtain ⟨its,r,pl,hz⟩ := I.list hq
  obtain ⟨o,n,ho,hc,hd,hs⟩ := pl
  obtain ⟨a,b,c⟩ := zeC r fx e
  have hl := r.length
  obtain ⟨ocls,odict,odata,oslots⟩ := o
  simp only at hc hd hs
  subst hc hd hs
  refine call_meets PySem.F.slot_list_index ⟨_,ho,rfl⟩ PySem.F.entry_list_index (PySem.F.args_list_index_2 _ _)
    (SeqAt.list_indexAt p its.toArray n none oslots u (eqU y) j (by simpa using a) (by rw [sizeLine_eq] at hz; omega) (by simpa using b) (fun i hi hlt => by simpa using c i (by simpa using hi) hlt)) ⟨ho,fun w hw => zcP ru fy r fx w (by simpa using hw),⟨.int j,H,I.tok _,⟨_,rfl⟩,q⟩⟩
theorem zcD : MtR X "tuple.index" (ziH X.K) := by
  intro pins s σ H x vs v us Q I rx rv h
  obtain ⟨p,xs,y,j,rfl,rfl,hq,fy,fx,e,q⟩ := h
  cases rx
  obtain ⟨u,rfl,ru⟩ := zd3 rv
  obtain ⟨its,r,pl,hz⟩ := I.tuple hq
  obtain ⟨o,ho,hc,n,hs⟩ := pl
  obtain ⟨a,b,c⟩ := zeC r fx e
  have hl := r.length
  obtain ⟨ocls,odict,odata,oslots⟩ := o
  simp only at hc hs
  subst hc hs
  refine call_meets PySem.F.slot_tuple_index ⟨_,ho,rfl⟩ PySem.F.entry_tuple_index (PySem.F.args_tuple_index_2 _ _)
    (zfC p its.toArray n odict oslots u (eqU y) j (by simpa using a) (by simpa using b) (fun i hi hlt => by simpa using c i (by simpa using hi) hlt)) ⟨ho,fun w hw => zcP ru fy r fx w (by simpa using hw),⟨.int j,H,I.tok _,⟨_,rfl⟩,q⟩⟩
noncomputable def zlI : D→List D→Option D
  | .lst ds,[x] => if zaW x = true∧ds.all zaW = true then (zd0 x ds).map fun j => .int j else none
  | .tup ds,[x] => if zaW x = true∧ds.all zaW = true then (zd0 x ds).map fun j => .int j else none
  | _,_ => none
theorem zfw {K : PySem.W.Frag} {G : GH} {H : Hp} {ds : List D} {xs : List V} {x d' : D} {v : V} (gk : GOk K G H) (rs : RGs K G xs ds) (rx : RB K G H v x) (e : (if zaW x = true∧ds.all zaW = true then (zd0 x ds).map fun j => D.int j else none) = some d') :
    ∃ j : Nat,d' = .int j∧zc3 v = true∧xs.all zc3 = true∧zfi v xs = some j := by
  by_cases hc : zaW x = true∧ds.all zaW = true
  · rw [if_pos hc] at e
    obtain ⟨e1,f1⟩ := RB.flat rx gk hc.1
    obtain ⟨e3,f3⟩ := zmN rs gk hc.2
    cases ef : zd0 x ds with
    | none => rw [ef] at e; cases e
    | some j =>
      rw [ef] at e
      cases e
      exact ⟨j,rfl,f1,f3,by rw [e1,e3,zfQ]; exact ef⟩
  · rw [if_neg hc] at e; cases e
noncomputable def zg6 (d : D) (ds : List D) : Option D := match d with
  | .lst _ => zlI d ds
  | _ => none
noncomputable def zcQ (d : D) (ds : List D) : Option D := match d with
  | .tup _ => zlI d ds
  | _ => none
theorem zjy {K : PySem.W.Frag} : MtD K (ziI K) zg6 := by
  intro G H v d vs ds d' Q gk rv rs e q
  cases d with
  | lst zs =>
    cases ds with
    | nil => cases e
    | cons x t =>
      cases t with
      | nil =>
        cases rs with
        | cons r1 rt =>
          cases rt
          obtain ⟨a,xs,rfl,s,r⟩ := rv.lst gk
          obtain ⟨j,rfl,h1,h2,h3⟩ := zfw gk r r1 e
          exact ⟨a,xs,_,j,rfl,rfl,s,h1,h2,h3,q _ G H (Grow.refl gk) (.scl (.int _))⟩
      | cons _ _ => cases e
  | _ => cases e
theorem zcE {K : PySem.W.Frag} : MtD K (ziH K) zcQ := by
  intro G H v d vs ds d' Q gk rv rs e q
  cases d with
  | tup zs =>
    cases ds with
    | nil => cases e
    | cons x t =>
      cases t with
      | nil =>
        cases rs with
        | cons r1 rt =>
          cases rt
          obtain ⟨a,xs,rfl,s,r⟩ := rv.tup gk
          obtain ⟨j,rfl,h1,h2,h3⟩ := zfw gk r r1 e
          exact ⟨a,xs,_,j,rfl,rfl,s,h1,h2,h3,q _ G H (Grow.refl gk) (.scl (.int _))⟩
      | cons _ _ => cases e
  | _ => cases e
noncomputable def zeh (xs : List V) : Bool := xs.all fun x => match x with | .int _ => true | _ => false
theorem zhk {xs : List V} (h : zeh xs = true) : xs.all zc3 = true := by
  unfold zeh at h
  rw [List.all_eq_true] at h ⊢
  intro x hx
  have := h x hx
  cases x <;> first | rfl | exact absurd this Bool.false_ne_true
theorem zgp {k : Int} {t : Tok} : ∀ {xs : List V} {us : List Value},Vals xs us→zeh xs = true→∀ u∈us,MeetsSeq.EqGives u (.int k t) (eqU (.int k) u)
  | _,_,.nil,_ => fun u hu => by cases hu
  | y::xs,u::us,.cons r rt,f => fun u' hu => by
    unfold zeh at f
    rw [List.all_cons,Bool.and_eq_true] at f
    cases y with
    | int i =>
      obtain ⟨t',rfl⟩ := r
      rcases List.mem_cons.mp hu with rfl | hu
      · exact MeetsSeq.EqGives.int i k t' t
      · exact zgp rt f.2 u' hu
    | _ => exact absurd f.1 Bool.false_ne_true
noncomputable def znC : V→List V→Hp→VK→Prop := fun x vs H Q => ∃ l xs k j,x = .ref l∧vs = [.int k]∧H l = some (.lst xs)∧zeh xs = true∧zfi (.int k) xs = some j∧Q .non (upd H l (.lst (xs.eraseIdx j)))
theorem zgn : MtR X "list.remove" znC := by
  intro pins s σ H x vs v us Q I rx rv h
  obtain ⟨l,xs,k,j,rfl,rfl,hH,hi,e,q⟩ := h
  cases rx
  obtain ⟨u,rfl,t,rfl⟩ := zd3 rv
  obtain ⟨hz,its,n,r,hl,eo⟩ := I.lstM hH
  obtain ⟨a,b,c⟩ := zeC r (zhk hi) e
  have geq : ∀ y,y∈its.toArray→MeetsSeq.EqGives y (.int k t) (eqU (.int k) y) := fun y hy => zgp r hi y (by simpa using hy)
  have hsz : its.toArray.size≤sizeLine := by rw [List.size_toArray]; omega
  refine call_meets PySem.F.slot_list_remove ⟨_,eo,rfl⟩ PySem.F.entry_list_remove (PySem.F.args_list_remove_2 _ _) (MeetsSeq.list_remove l its.toArray n (.int k t) (eqU (.int k)) geq j (by simpa using a) (by simpa using b) (fun i hi hlt => by simpa using c i (by simpa using hi) hlt) hsz) ⟨eo,?_⟩
  refine ⟨.non,_,I.lset (its' := its.eraseIdx j) hH eo ?_ ?_ ?_,rfl,q⟩
  · apply Array.toList_inj.mp
    simp [Array.toList_eraseIdxIfInBounds]
  · exact Vals.eraseIdx j r
  · have := List.length_eraseIdx_le xs j
    omega
noncomputable def isInt : D→Bool
  | .int _ => true
  | _ => false
theorem zlH {K : PySem.W.Frag} {G : GH} {H : Hp} : ∀ {xs : List V} {ds : List D},RGs K G xs ds→GOk K G H→ds.all isInt = true→zeh xs = true∧xs = ds.map toV
  | _,_,.nil,_,_ => ⟨rfl,rfl⟩
  | _,d::ds,.cons r t,gk,hf => by
    rw [List.all_cons,Bool.and_eq_true] at hf
    obtain ⟨h1,h2⟩ := zlH t gk hf.2
    cases d with
    | int i =>
      have e := r.int gk
      subst e
      refine ⟨?_,by rw [List.map_cons,← h2]; rfl⟩
      show zeh _ = true
      unfold zeh at h1 ⊢
      rw [List.all_cons,h1]; rfl
    | _ => exact absurd hf.1 Bool.false_ne_true
noncomputable def remD : D→List D→Option D
  | .lst ds,[.int k] => if ds.all isInt = true then (zd0 (.int k) ds).map fun j => .lst (ds.eraseIdx j) else none
  | _,_ => none
theorem zlq {K : PySem.W.Frag} : MutD K znC remD := by
  intro G H a d vs ds d' Q gk ow rs e q
  unfold remD at e
  split at e
  · split at e
    · rename_i zs k hall
      cases ef : zd0 (.int k) zs with
      | none => rw [ef] at e; cases e
      | some j =>
        rw [ef] at e
        cases e
        cases ow.ob with
        | lst r s =>
          cases rs with
          | cons r1 t =>
            cases t
            obtain ⟨h1,h2⟩ := zlH s gk hall
            refine ⟨a,_,k,j,rfl,by rw [r1.int gk],r,h1,?_,q _ (.lst zar (Paired.er j s))⟩
            rw [h2]
            exact (zfQ (.int k) zs).trans ef
    · cases e
  · cases e
noncomputable def zo5 : D→Option D
  | .dic kvs => some (.lst (kvs.map (·.2)))
  | _ => none
end
end DL
end
section
namespace DL
open PySem PySem.Spec PyProof.Rows L2
noncomputable def enuD : Nat→List D→List D
  | _,[] => []
  | i,d::ds => .tup [.int i,d]::enuD (i + 1) ds
theorem zfT : ∀ (i : Nat) (ds : List D),(enuD i ds).length = ds.length
  | _,[] => rfl
  | i,d::ds => congrArg (· + 1) (zfT (i + 1) ds)
theorem zhF : ∀ (i j : Nat) (ds : List D),(enuD i ds)[j]? = (ds[j]?).map fun d => D.tup [.int ((i + j : Nat) : Int),d]
  | _,_,[] => by simp [enuD]
  | i,0,d::ds => by simp [enuD]
  | i,j + 1,d::ds => by
    show (enuD (i + 1) ds)[j]? = _
    rw [zhF (i + 1) j ds]
    simp only [List.getElem?_cons_succ]
    rw [show i + 1 + j = i + (j + 1) by omega]
theorem zin {K : PySem.W.Frag} {ds : List D} {G0 : GH} {sq : Hp→List V→Prop} (h : ∀ G H,Gle G0 G→GOk K G H→∃ xs,sq H xs∧RGs K G xs ds) : Yields K (Ien sq) (enuD 0 ds) G0 := by
  refine ⟨fun G H i w gk hi => ?_,fun G H i x H' d w gk y e => ?_,fun G H w gk => ?_⟩
  · obtain ⟨xs,s,r⟩ := h G H w gk
    rw [zfT] at hi
    have hl := Paired.length r
    exact ⟨xs,xs[i],s,List.getElem?_eq_getElem (by omega)⟩
  · obtain ⟨xs,s,r⟩ := h G H w gk
    obtain ⟨p,v,hp,rfl,rfl,hv⟩ := y
    rw [zhF] at e
    cases ed : ds[i]? with
    | none => rw [ed] at e; cases e
    | some d0 =>
      rw [ed] at e
      simp only [Option.map_some,Option.some.injEq,Nat.zero_add] at e
      subst e
      obtain ⟨v',e1,rv⟩ := Paired.get r ed
      have := hv xs s
      rw [e1] at this; cases this
      exact ⟨_,Grow.newF gk hp (.tup (.inl zar) (.cons (.scl (.int _)) (.cons rv .nil))),.ref za7⟩
  · obtain ⟨xs,s,r⟩ := h G H w gk
    rw [zfT]
    exact ⟨xs,s,Paired.length r⟩
noncomputable def fEnu (f : FE) : FI := fun r => (f r).bind fun d => (opt (zbk d)).bind fun ds => .ok (enuD 0 ds)
section
variable {X : Cx} {g : GE} {m : List Md} {e a : Expr} {f : FE} {pos p pos2 : Pos} {elts : List Expr} {kk : Nat}
theorem zme {te : TE} (hg : Gl X "enumerate") (hm : X.mg "enumerate" = none) (he : PE X e te) (hs : starEach [e] X.env = (false,eval e X.env)::starEach [] X.env := by rfl) : PI X (.Tuple elts kk pos2) (.Call (.Name "enumerate" p) [e] [] pos) (fun σ H R => te σ H fun x H1 =>
      (∃ a,x = .ref a∧(∃ xs,SqL X.K H1 a xs)∧R (Ien fun H xs => SqL X.K H a xs) H1)∨∃ a,x = .ref a∧(∃ xs,SqT X.K H1 a xs)∧R (Ien fun H xs => SqT X.K H a xs) H1) := by
  intro pins s σ H R I h
  refine Call_ (zft I hg hm boot_enumerate (PyProof.Rows.callWith_type1 (thn (zbB he zdy hs pos pins s σ H (fun vs H1 => match vs with
    | [x] => (∃ a,x = .ref a∧(∃ xs,SqL X.K H1 a xs)∧R (Ien fun H xs => SqL X.K H a xs) H1)∨∃ a,x = .ref a∧(∃ xs,SqT X.K H1 a xs)∧R (Ien fun H xs => SqT X.K H a xs) H1
    | _ => False) I h) fun us s1 ⟨vs,H1,I1,r1,q1⟩ => ?_) hs rfl))
  · cases r1 with
    | nil => exact q1.elim
    | @cons x u xs us rx rt =>
    cases rt with
    | cons _ _ => exact q1.elim
    | nil =>
    have fin : ∀ {h' : Heap},h'.objs.size = s1.heap.objs.size + 2→(∀ b o,s1.heap.get? b = some o→h'.get? b = some o)→∀ b∈[s1.heap.objs.size + 1,s1.heap.objs.size],FpOk X pins H1 b := fun hz kp b hb => by
      have hge : s1.heap.objs.size≤b := by
        rcases List.mem_cons.mp hb with rfl | hb
        · exact Nat.le_succ _
        · rw [List.mem_singleton.mp hb]; exact Nat.le_refl _
      exact I1.fpOk hge (I1.hok.fresh hge)
    rcases q1 with ⟨a,rfl,⟨xs,hq⟩,q⟩ | ⟨a,rfl,⟨xs,hq⟩,q⟩
    · cases rx
      obtain ⟨its,rv,pl,hz⟩ := I1.list hq
      refine call_enumerate_list pl.isList fun h' he hi hsz kp => wpAny_pyIter_enum he ?_
      exact ⟨_,[s1.heap.objs.size + 1,s1.heap.objs.size],_,_,H1,rfl,I1.kept (t' := s1.toks) kp,zhU a _ _ (Nat.ne_of_gt (Nat.lt_succ_self _)),⟨⟨_,he⟩,hi⟩,fin hsz kp,q⟩
    · cases rx
      obtain ⟨its,rv,pl,hz⟩ := I1.tuple hq
      refine ze5 (show s1.heap.IsTuple a its.toArray from pl) fun h' he hi hsz kp => wpAny_pyIter_enum he ?_
      exact ⟨_,[s1.heap.objs.size + 1,s1.heap.objs.size],_,_,H1,rfl,I1.kept (t' := s1.toks) kp,zhT a _ _ (Nat.ne_of_gt (Nat.lt_succ_self _)),⟨⟨_,he⟩,hi⟩,fin hsz kp,q⟩
theorem zlJ (hg : Gl X "enumerate") (hm : X.mg "enumerate" = none) (he : SE X g m e f) (hs : starEach [e] X.env = (false,eval e X.env)::starEach [] X.env := by rfl) : SIt X g m (.Tuple elts kk pos2) (.Call (.Name "enumerate" p) [e] [] pos) (fEnu f) := by
  refine PI.imp (zme hg hm he hs) fun σ H R ⟨r,G,si,q⟩ => ⟨r,G,si,zah (zag q) fun d q v G' H' w rv => ?_⟩
  obtain ⟨ds,e,q⟩ := zav (zag q)
  cases d with
  | lst ds' =>
    cases e
    obtain ⟨a,xs,rfl,s,rs⟩ := rv.lst w.ok
    refine .inl ⟨a,rfl,⟨xs,s⟩,q _ G' H' w (zin fun G H le gk => ?_)⟩
    obtain ⟨b,ys,e,s',r'⟩ := (rv.mono le).lst gk
    cases e
    exact ⟨ys,s',r'⟩
  | tup ds' =>
    cases e
    obtain ⟨a,xs,rfl,s,rs⟩ := rv.tup w.ok
    refine .inr ⟨a,rfl,⟨xs,s⟩,q _ G' H' w (zin fun G H le gk => ?_)⟩
    obtain ⟨b,ys,e,s',r'⟩ := (rv.mono le).tup gk
    cases e
    exact ⟨ys,s',r'⟩
  | _ => cases e
end
end DL
end
section
namespace DL
open PySem PySem.Spec PyProof.Rows L2
inductive TupI (h : Heap) : Value→List Int→Prop where
  | mk {a : Addr} {items : Array Value} {ns : List Int} : IsTup h a items→IntsAre items.toList ns→TupI h (.ref a) ns
inductive TupsI (h : Heap) : List Value→List (List Int)→Prop where
  | nil : TupsI h [] []
  | cons {p : Value} {k : List Int} {ps : List Value} {ks : List (List Int)} : TupI h p k→TupsI h ps ks→TupsI h (p::ps) (k::ks)
theorem TupsI.length {h : Heap} : ∀ {ps : List Value} {ks : List (List Int)},TupsI h ps ks→ps.length = ks.length
  | _,_,.nil => rfl
  | _,_,.cons _ t => congrArg (· + 1) t.length
section
variable {prog : Program} {w : World} {A : Around} {s : Shared}
inductive TupR (h : Heap) : Value→List (List Int)→Prop where
  | mk {a : Addr} {items : List Value} {ks : List (List Int)} : IsTup h a items.toArray→TupsI h items ks→ks≠[]→TupR h (.ref a) ks
end
end DL
end
section
namespace DL
open PySem PySem.Spec PyProof.Rows L2
noncomputable def zcg (ns : List Int) : List Int := ns.foldl step_dedup []
theorem zg8 (ns : List Int) : firstMet (fun i => ns.getD i 0) ns.length = zcg ns := by
  unfold firstMet zcg
  congr 1
  refine List.ext_getElem (by simp) fun i h1 h2 => ?_
  simp [List.getD_eq_getElem?_getD,h2]
noncomputable def zdd : List D→Option (List Int)
  | [] => some []
  | .int i::ds => (zdd ds).map (i::·)
  | _ => none
theorem zhK {K : PySem.W.Frag} {G : GH} {H : Hp} (gk : GOk K G H) : ∀ {ds : List D} {xs : List V} {ns : List Int},RGs K G xs ds→zdd ds = some ns→xs = ns.map V.int
  | [],_,_,.nil,e => by cases e; rfl
  | d::ds,_,ns,.cons r t,e => by
    cases d with
    | int i =>
      have e' : (zdd ds).map (i::·) = some ns := e
      cases q : zdd ds with
      | none => rw [q] at e'; cases e'
      | some ms =>
        rw [q] at e'
        cases e'
        have h1 := r.int gk
        have h2 := zhK gk t q
        rw [h1,h2]; rfl
    | _ => cases e
section
variable {X : Cx} {g : GE} {m : List Md} {e a : Expr} {f : FE} {pos p pos2 p2 : Pos}
theorem zjY (hc : X.calm = true) : zc4 X (.type "set") (fun xs H Q => ∃ p ns,xs = [.ref p]∧(SqL X.K H p (ns.map V.int)∨SqT X.K H p (ns.map V.int))∧ns.length + 1 < scanBound∧∀ l,H l = none→Q (.ref l) (upd H l (.set (fun k => (zcg ns).any (· == k)) (zcg ns).length))) := by
  intro pins s σ H xs us Q I r h
  obtain ⟨p,ns,rfl,hq,hb,q⟩ := h
  obtain ⟨u,rfl,rx⟩ := zd3 r
  cases rx
  have fin : ∀ (its : List Value) (h' : Heap) (tk : Nat),its.length = ns.length→h'.SetOf (intKind X.prog X.w) s.heap.objs.size (fun k => (firstMet (fun i => ns.getD i 0) its.toArray.size).any (· == k)) (firstMet (fun i => ns.getD i 0) its.toArray.size).length →
      (∀ b o,b < s.heap.objs.size→s.heap.get? b = some o→h'.get? b = some o)→EP X pins σ Q (.ref s.heap.objs.size) { s with heap := h',toks := tk } := fun its h' tk hl hS kp => by
    rw [show its.toArray.size = ns.length by rw [List.size_toArray]; exact hl,zg8] at hS
    exact ⟨.ref s.heap.objs.size,_,I.laid (t' := tk) (fun b o e => kp b o (Heap.lt_size e) e) (Nat.le_refl _) (show zbe X.prog X.w _ h' _ (.set _ _) from hS),rfl,q _ (I.hok.fresh (Nat.le_refl _))⟩
  rcases hq with hq | hq
  · obtain ⟨its,r',pl,hz⟩ := I.list hq
    have hl := r'.length
    rw [List.length_map] at hl
    exact call_set_list (I.ok.hd hc) pl.isList (by simpa using zfv r') (by rw [List.size_toArray]; omega) fun h' tk hS kp => fin its h' tk hl.symm hS kp
  · obtain ⟨its,r',pl,hz⟩ := I.tuple hq
    have hl := r'.length
    rw [List.length_map] at hl
    exact zgD (I.ok.hd hc) (show s.heap.IsTuple p its.toArray from pl) (by simpa using zfv r') (by rw [List.size_toArray]; omega) fun h' tk he => fin its h' tk hl.symm he.1 he.2
theorem zj0 : zc4 X (.builtin "len") (fun xs H Q => ∃ p S n,xs = [.ref p]∧H p = some (.set S n)∧Q (.int n) H) := by
  intro pins s σ H xs us Q I r h
  obtain ⟨p,S,n,rfl,hp,q⟩ := h
  obtain ⟨u,rfl,rx⟩ := zd3 r
  cases rx
  obtain ⟨o,es,ep,t,ho,hex,hd,_,_,hb,hf,hn⟩ := (show zbe X.prog X.w H s.heap p (.set S n) from I.hok p _ hp)
  refine call_len_set ho hex hd hf ?_ ⟨.int n,H,I.tok _,⟨_,by rw [hn]⟩,q⟩
  have h4 : (es.size : Int) < 4096 := by unfold scanBound at hb; omega
  exact Int.lt_of_lt_of_le h4 (by decide)
noncomputable def zlY : D→Option D
  | .lst ds => (zdd ds).bind fun ns => if ns.length + 1 < scanBound then some (.int (zcg ns).length) else none
  | .tup ds => (zdd ds).bind fun ns => if ns.length + 1 < scanBound then some (.int (zcg ns).length) else none
  | _ => none
theorem zkp (hc : X.calm = true) (hg : Gl X "len") (hm : X.mg "len" = none) (hgs : Gl X "set") (hms : X.mg "set" = none) (ha : SB X g m a f)
    (hs : starEach [a] X.env = (false,eval a X.env)::starEach [] X.env := by rfl)
    (hs2 : starEach [.Call (.Name "set" p2) [a] [] pos2] X.env = (false,eval (.Call (.Name "set" p2) [a] [] pos2) X.env)::starEach [] X.env := by rfl) :
    SE X g m (.Call (.Name "len" p) [.Call (.Name "set" p2) [a] [] pos2] [] pos) (f1 f zlY) := by
  refine PE.imp (zez zj0 hg hm PySem.boot_len (zbB (zcC (zjY hc) hgs hms (by first | exact PyProof.Rows.boot_set | rfl) (zbB ha zdy hs) (by decide) (by decide) hs rfl) zdy hs2) (by decide) (by decide) hs2 rfl) fun σ H Q ⟨r,G,si,q⟩ => ⟨r,G,si,zah (zag q) fun d q1 v G1 H1 w1 r1 => ?_⟩
  obtain ⟨d',e,q2⟩ := zav q1
  have core : ∀ {ds : List D} {xs : List V} {b : Addr},RGs X.K G1 xs ds→v = .ref b→(SqL X.K H1 b xs∨SqT X.K H1 b xs)→(zdd ds).bind (fun ns => if ns.length + 1 < scanBound then some (D.int (zcg ns).length) else none) = some d' →
      ∃ p ns,[v] = [V.ref p]∧(SqL X.K H1 p (ns.map V.int)∨SqT X.K H1 p (ns.map V.int))∧ns.length + 1 < scanBound∧∀ l,H1 l = none→∃ p S n,[V.ref l] = [V.ref p]∧upd H1 l (.set (fun k => (zcg ns).any (· == k)) (zcg ns).length) p = some (.set S n)∧Q (.int n) (upd H1 l (.set (fun k => (zcg ns).any (· == k)) (zcg ns).length)) := fun {ds xs b} rs ev hs he => by
    cases ea : zdd ds with
    | none => rw [ea] at he; cases he
    | some ns =>
      rw [ea] at he
      have he' : (if ns.length + 1 < scanBound then some (D.int (zcg ns).length) else none) = some d' := he
      by_cases hl : ns.length + 1 < scanBound
      · rw [if_pos hl] at he'
        cases he'
        have ex := zhK w1.ok rs ea
        subst ex
        exact ⟨b,ns,by rw [ev],hs,hl,fun l hl' => ⟨l,_,_,rfl,zar,q2 _ G1 _ (w1.trans (Grow.new w1.ok hl' _)) (.scl (.int _))⟩⟩
      · rw [if_neg hl] at he'; cases he'
  cases d with
  | lst ds => obtain ⟨b,xs,ev,hs,rs⟩ := r1.lst w1.ok; exact core rs ev (.inl hs) e
  | tup ds => obtain ⟨b,xs,ev,hs,rs⟩ := r1.tup w1.ok; exact core rs ev (.inr hs) e
  | _ => cases e
end
end DL
end
section
namespace DL
open PySem PySem.Spec PyProof.Rows L2
section
variable {X : Cx} {pins : List (Addr × Obj)} {σ : L2.St} {H : Hp} {s : Shared}
end
end DL
end
section
namespace DL
open PySem PySem.Spec PyProof.Rows L2
section
variable {K : PySem.W.Frag} {G : GH} {H : Hp}
end
section
variable {X : Cx} {g : GE} {m : List Md} {a : Expr} {fl : Rho → Res (List D)} {pos p : Pos} {k : Nat}
end
end DL
end
section
namespace DL
open PySem PyProof.Rows PySem.SeqAt PySem.MeetsSeq PySem.MeetsSeq2 PySem.MeetsSeq3 L2
open PySem.AutoSeq1 (wpAny_loadPart')
end DL
end
section
namespace DL
open PySem PyProof.Rows L2
section
variable {prog : Program} {w : World} {A : Around} {E : Value → Shared → Prop} {s : Shared}
end
end DL
end
section
namespace DL
open PySem PySem.Spec PyProof.Rows L2
section
variable {X : Cx} {pins : List (Addr × Obj)} {σ : L2.St} {H : Hp} {s : Shared}
end
section
variable {K : PySem.W.Frag} {G : GH} {H : Hp}
end
section
variable {X : Cx} {g : GE} {m : List Md} {a : Expr} {fl : Rho → Res (List D)} {pos p : Pos} {k : Nat}
end
end DL
end
section
namespace DL
open PySem PySem.Spec PyProof.Rows L2
section
variable {X : Cx} {pins : List (Addr × Obj)} {σ : L2.St} {H : Hp} {s : Shared}
theorem Inv.keptN {h' : Heap} (I : Inv X pins σ H s) (k : ∀ b o,b≠X.env.locals→s.heap.get? b = some o→h'.get? b = some o)
    (hns : ∀ m,s.heap.Ns X.env.locals m→h'.Ns X.env.locals m) (t' : Nat) : Inv X pins σ H { s with heap := h',toks := t' } := by
  have trkL : ∀ b u,H b = some u→b≠X.env.locals := fun b u e z => by rw [z,I.free] at e; cases e
  refine I.step (g' := s.gens) (d' := s.drawn) (ch := []) (fun b hb => absurd hb (by simp)) (fun b ob hL _ _ e _ => k b ob hL e) (fun b ob hL _ _ e _ => ⟨ob.slots,k b ob hL e⟩) (fun b ob _ e n => n)
    (fun b ob _ e => ?_) (fun b xs e => e) (fun b ob u e => e) (fun b ps e => ⟨#[],by rw [e]; simp⟩) hns (fun b u e => ?_) I.bare
  · by_cases hb : b = X.env.locals
    · subst hb
      obtain ⟨m,hn,_⟩ := I.loc
      obtain ⟨o,_,_,ho',_⟩ := hns m hn
      exact ⟨o,ho'⟩
    · exact ⟨ob,k b ob hb e⟩
  · refine (I.hok b u e).stay (fun cc v hc q => k cc v ?_ q) (fun cc q => q) fun cc xs q => q
    rcases hc with z | z
    · rw [z]; exact trkL b u e
    · exact trkL cc _ z
end
section
variable {X : Cx} {g : GE} {m : List Md} {e a b : Expr} {es : List Expr} {fl : Rho → Res (List D)} {fa fb : FE} {pos p : Pos}
noncomputable def znD (K : PySem.W.Frag) : R2 := fun x y H Q => ∃ a b ys,x = .ref a∧y = .ref b∧SqT K H a []∧SqT K H b ys∧Q (.ref b) H
theorem zmq : OpR X (binaryOp .Add) (znD X.K) := by
  intro pins s σ H x y v u Q I rx ry h
  obtain ⟨a,b,ys,rfl,rfl,ha,hb,q⟩ := h
  cases rx
  cases ry
  obtain ⟨its,r1,p1,_⟩ := I.tuple ha
  obtain ⟨its2,r2,p2,_⟩ := I.tuple hb
  cases r1
  obtain ⟨⟨cls,dd,data,sl⟩,ho,hc,n,hd⟩ := id p1
  obtain ⟨⟨cls2,dd2,data2,sl2⟩,ho2,hc2,n2,hd2⟩ := id p2
  simp only at hc hd hc2 hd2
  subst hc hd hc2 hd2
  exact concat_meets ⟨_,ho,rfl⟩ ⟨_,ho2,rfl⟩ noFill_tuple_add seq_tuple_add PySem.F.slot_tuple_add PySem.F.entry_tuple_add (PySem.F.args_tuple_add_2 _ _)
    (tuple_addW0 a b _ _ n n2 dd dd2 sl sl2 rfl) ⟨ho,ho2,⟨.ref b,H,I,rfl,q⟩⟩
noncomputable def addE : D→D→Option D
  | .tup [],.tup b => some (.tup b)
  | a,b => addA a b
theorem zmY {K : PySem.W.Frag} : OpD K (fun x y H Q => znD K x y H Q∨((∃ i j,x = .int i∧y = .int j∧Q (.int (i + j)) H)∨(∃ i j,x = .str i∧y = .str j∧i.length + j.length≤sizeLine∧Q (.str (i++j)) H)∨zl7 K x y H Q∨zl6 K x y H Q)) addE := by
  intro G H v1 v2 d1 d2 d Q gk r1 r2 e q
  unfold addE at e
  split at e
  · cases e
    rcases r1 with r1 | ⟨a',_,oo⟩
    · rcases r2 with r2 | ⟨a',_,oo⟩
      · obtain ⟨a,xs,rfl,s1,t1⟩ := r1.tup gk
        obtain ⟨b,ys,rfl,s2,t2⟩ := r2.tup gk
        cases t1
        exact .inl ⟨a,b,ys,rfl,rfl,s1,s2,q _ G H (Grow.refl gk) r2⟩
      · cases oo.ob
    · cases oo.ob
  · exact .inr (zj9 G H v1 v2 d1 d2 d Q gk r1 r2 e q)
theorem znv (ha : SB X g m a fa) (hb : SB X g m b fb) : SE X g m (.BinOp a .Add b pos) (f2 fa fb addE) := zgT (OpR.or zmq (OpR.or zlv (OpR.or zfq (OpR.or ziZ ziY)))) zmY ha hb
end
end DL
end
section
namespace DL
open PySem PyProof.Rows L2
open PySem.AutoSeq1 (wpAny_loadPart')
theorem zeV (l b : Addr) (items items2 : Array Value) (n n2 : Nat) (dd2 : Option Addr) (sl2 : Array (Option Value)) (hz : items.size + items2.size≤sizeLine) :
    Meets (Builtin.«list.extend» ⟨[.ref l,.ref b],[]⟩)
      (fun _ R s => s.heap.get? l = some { cls := .type "list",data := .seq items n }∧s.heap.get? b = some { cls := .type "list",dict := dd2,data := .seq items2 n2,slots := sl2 } ∧
        R (.ok (.ret .none)) { s with heap := s.heap.update l (Obj.mapSeq fun x => x++items2) }) := by
  refine .of_wp fun prog w A R s h => ?_
  obtain ⟨hp,g,d,tk,os⟩ := s; obtain ⟨hl,hb,h⟩ := h
  wp_walk using wpAny_loadPart' hl,wpAny_loadPart' hb
  have hlong : ¬ (!items.isEmpty && Builtin.List.listTooLong (items.size + items2.size)) = true := by
    rw [zkI hz,Bool.and_false]
    exact Bool.false_ne_true
  rw [if_neg hlong]
  refine wpAny_bind (listUpdate_at hl rfl (wpAny_pure ⟨_,rfl,h⟩) (by omega) (by rw [Array.size_append]; omega))
noncomputable def zhv (K : PySem.W.Frag) : V→List V→Hp→VK→Prop := fun x vs H Q => ∃ l b xs zs,x = .ref l∧vs = [.ref b]∧H l = some (.lst xs)∧SqL K H b zs∧xs.length + zs.length≤sizeLine∧Q .non (upd H l (.lst (xs++zs)))
section
variable {X : Cx}
theorem zfr : MtM X "list.extend" (zhv X.K) := by
  intro pins s σ H x vs v us Q I rx rv h
  obtain ⟨l,b,xs,zs,rfl,rfl,hH,hB,hz,q⟩ := h
  cases rx
  obtain ⟨u,rfl,ru⟩ := rv.one
  cases ru
  obtain ⟨z,its,n,r,hl,e⟩ := I.lstM hH
  obtain ⟨its2,r2,⟨⟨c2,d2,x2,s2⟩,n2,e2,f1,f2,f3⟩,z2⟩ := I.list hB
  simp only at f1 f2 f3
  subst f1 f2 f3
  have hl1 := r.length
  have hl2 := r2.length
  refine call_meets F.slot_list_extend ⟨_,e,rfl⟩ F.entry_list_extend (F.args_list_extend_2 _ _)
    (zeV l b its.toArray its2.toArray n n2 _ s2 (by rw [List.size_toArray,List.size_toArray]; omega)) ⟨e,e2,?_⟩
  refine ⟨.non,_,I.lset (its' := its++its2) hH e (by simp) (r.append r2) ?_,rfl,q⟩
  rw [List.length_append]
  omega
end
end DL
end
section
namespace DL
open PySem PyProof.Rows PySem.W
section
variable {n : Nat} {c : Nat → Nat → Bool} (as : ∀ i j, c i j = true → c j i = false) (tr : ∀ i j k, c j i = false → c k j = false → c k i = false)
noncomputable def Le (c : Nat→Nat→Bool) (i j : Nat) : Prop := c j i = false
noncomputable def Eqv (c : Nat→Nat→Bool) (i j : Nat) : Prop := Le c i j∧Le c j i
include tr in
theorem Eqv.trans {i j k : Nat} (h1 : Eqv c i j) (h2 : Eqv c j k) : Eqv c i k := ⟨tr _ _ _ h1.1 h2.1,tr _ _ _ h2.2 h1.2⟩
theorem Eqv.symm {i j : Nat} (h : Eqv c i j) : Eqv c j i := ⟨h.2,h.1⟩
include as tr in
include tr in
include as tr in
include as tr in
include as tr in
include as tr in
include as tr in
include as tr in
include as tr in
include as tr in
include as tr in
end
end DL
end
section
namespace DL
section
variable {α : Type} {lt : α → α → Bool} {d : α}
end
end DL
end
section
namespace DL
open PySem PySem.Spec PyProof.Rows L2
noncomputable def extD : D→List D→Option D
  | .lst ds,[.lst es] => if ds.length + es.length≤sizeLine then some (.lst (ds++es)) else none
  | _,_ => none
theorem zlM {K : PySem.W.Frag} : MutD K (zhv K) extD := by
  intro G H a d vs ds d' Q gk ow rs e q
  unfold extD at e
  split at e
  · split at e
    · rename_i hl
      cases e
      cases ow.ob with
      | lst r s =>
        cases rs with
        | cons r1 t =>
          cases t
          obtain ⟨b,zs,rfl,s2,r2⟩ := r1.lst gk
          have l1 := Paired.length s
          have l2 := Paired.length r2
          exact ⟨a,b,_,_,rfl,rfl,r,s2,by omega,q _ (.lst zar (Paired.app s r2))⟩
    · cases e
  · cases e
section
variable {X : Cx} {pins : List (Addr × Obj)} {σ : L2.St} {H : Hp} {s : Shared}
end
section
variable {X : Cx} {g : GE} {m : List Md} {a : Expr} {fl : Rho → Res (List D)} {pos p : Pos} {k : Nat}
end
end DL
end
section
namespace DL
open PySem PySem.Spec PyProof.Rows L2
section
variable {X : Cx} {pins : List (Addr × Obj)} {σ : L2.St} {H : Hp} {s : Shared}
theorem zj8 (bs : List Bool) : ((List.range bs.length).all fun i => bs.getD i true) = bs.all id := by
  rw [Bool.eq_iff_iff,List.all_eq_true,List.all_eq_true]
  constructor
  · intro h b hb
    obtain ⟨i,hi,rfl⟩ := List.getElem_of_mem hb
    have := h i (List.mem_range.mpr hi)
    simpa [List.getD_eq_getElem?_getD,hi] using this
  · intro h i hi
    have hi := List.mem_range.mp hi
    have := h bs[i] (List.getElem_mem _)
    simpa [List.getD_eq_getElem?_getD,hi] using this
theorem zhQ (hc : X.calm = true) (I : Inv X pins σ H s) {p : Addr} {bs : List Bool} (hq : SqL X.K H p (bs.map V.bl)) {A : Around} (hA : A.handled = none) {E : Value→Shared→Prop} {Q : Value→Shared→Prop}
    (h : ∀ I fp wr n P St tr it s₂,it = Value.ref I→Walks X.prog X.w A I fp wr n P St→St 0 s₂.heap→TruthOf X.prog X.w A P tr→n = bs.length→(∀ i,tr i = bs.getD i true) →
      (∀ (h' : Heap) (tk : Nat),(∀ (b : Addr) (o : Obj),¬b∈wr→s₂.heap.get? b = some o→h'.get? b = some o)→Inv X pins σ H { heap := h',gens := s₂.gens,drawn := s₂.drawn,toks := tk,os := s₂.os })→Q it s₂) :
    wpAny (model X.prog X.w) A (pyIter (.ref p)) Q E s := by
  obtain ⟨its,rv,pl,hz⟩ := I.list hq
  have hl := rv.length
  rw [List.length_map] at hl
  refine PySem.Flt.iter_list_ pl.isList fun s₂ e2 hi hlt hne => ?_
  refine h s.heap.objs.size [s.heap.objs.size,p] [s.heap.objs.size] its.toArray.size _ _ (fun i => bs.getD i true) _ s₂ rfl (Walks.list hA _ p hne its.toArray) hi ?_ (by rw [List.size_toArray,hl]) (fun i => rfl) fun h' tk k => ?_
  · intro i v s' Q' E' hv hq'
    have hv' : its[i]? = some v := by simpa using hv
    have hi : i < its.length := (List.getElem?_eq_some_iff.mp hv').1
    have hki : i < (bs.map V.bl).length := by rw [List.length_map]; omega
    obtain ⟨u,h1,h3⟩ := rv.get (i := i) (x := (bs.map V.bl)[i]) (List.getElem?_eq_getElem hki)
    rw [hv'] at h1
    cases h1
    rw [List.getElem_map] at h3
    have h3' : v = Value.bool bs[i] := h3
    subst h3'
    have e : bs.getD i true = bs[i] := by
      have hb : i < bs.length := by omega
      simp [List.getD_eq_getElem?_getD,hb]
    have hq2 : Q' (bs.getD i true) s' := hq'
    rw [e] at hq2
    exact wpAny_pure hq2
  · subst e2
    have ne : ∀ b o,s.heap.get? b = some o→¬ b∈[s.heap.objs.size] := fun b o e z => by
      have := List.mem_singleton.mp z
      subst this
      exact absurd (Heap.lt_size e) (Nat.lt_irrefl _)
    exact Inv.keptN I (fun b o _ e => k b o (ne b o e) (Heap.get?_push_of_some _ e)) (fun m ⟨o,es,ep,e,z⟩ => ⟨o,es,ep,k _ _ (ne _ _ e) (Heap.get?_push_of_some _ e),z⟩) tk
theorem zla (hc : X.calm = true) : zc4 X (.builtin "all") (fun xs H Q => ∃ (p : Addr) (bs : List Bool),xs = [.ref p]∧SqL X.K H p (bs.map V.bl)∧Q (.bl (bs.all id)) H) := by
  intro pins s σ H xs us Q I r h
  obtain ⟨p,bs,rfl,hq,q⟩ := h
  obtain ⟨u,rfl,rx⟩ := zd3 r
  cases rx
  refine call_all_walk (zhQ hc I hq (show X.A.in1.handled = none from I.ok.hd hc) fun J fp wr n P St tr it s₂ e1 e2 e3 e4 e5 e6 e7 => ⟨J,fp,wr,n,P,St,tr,e1,e2,e3,e4,fun h' tk k => ?_⟩)
  have et : tr = fun i => bs.getD i true := funext e6
  rw [e5,et,zj8]
  exact ⟨.bl (bs.all id),H,e7 h' tk k,rfl,q⟩
end
noncomputable def zfZ : List D→Option (List Bool)
  | [] => some []
  | .bl b::ds => (zfZ ds).map (b::·)
  | _ => none
theorem zj6 {K : PySem.W.Frag} {G : GH} {H : Hp} (gk : GOk K G H) : ∀ {ds : List D} {xs : List V} {bs : List Bool},RGs K G xs ds→zfZ ds = some bs→xs = bs.map V.bl
  | [],_,_,.nil,e => by cases e; rfl
  | d::ds,_,bs,.cons r t,e => by
    cases d with
    | bl b =>
      have e' : (zfZ ds).map (b::·) = some bs := e
      cases e1 : zfZ ds with
      | none => rw [e1] at e'; cases e'
      | some bs' =>
        rw [e1] at e'; cases e'
        rw [zj6 gk t e1,List.map_cons,(RG.rb (H := H) r).bl gk]
    | _ => cases e
noncomputable def allD : List D→Option D
  | [.lst ds] => (zfZ ds).map fun bs => .bl (bs.all id)
  | _ => none
theorem zoV {K : PySem.W.Frag} : zle K (fun xs H Q => ∃ (p : Addr) (bs : List Bool),xs = [.ref p]∧SqL K H p (bs.map V.bl)∧Q (.bl (bs.all id)) H) allD := by
  intro G H vs ds d Q gk rs e q
  unfold allD at e
  split at e
  · rename_i zs
    cases ek : zfZ zs with
    | none => rw [ek] at e; cases e
    | some bs =>
      rw [ek] at e; cases e
      cases rs with
      | cons r1 t =>
        cases t
        obtain ⟨b,xs,rfl,s,r⟩ := r1.lst gk
        have ex := zj6 gk r ek
        subst ex
        exact ⟨b,bs,rfl,s,q _ G H (Grow.refl gk) (.scl (.bl _))⟩
  · cases e
section
variable {X : Cx} {g : GE} {m : List Md} {e : Expr} {es : List Expr} {fl : Rho → Res (List D)} {pos p : Pos}
theorem zpo (hc : X.calm = true) (hg : Gl X "all") (hm : X.mg "all" = none) (ha : SAB X g m (e::es) fl) (he : starEach (e::es) X.env = (false,eval e X.env)::starEach es X.env := by rfl) (hpl : (backTo pos (starEach es X.env)).any (·.1) = false := by rfl) :
    SE X g m (.Call (.Name "all" p) (e::es) [] pos) (fC fl allD) := s_cb zoV (zez (zla hc) hg hm PyProof.Rows.boot_all ha (by decide) (by decide) he hpl)
end
end DL
end
section
namespace DL
open PySem PySem.Spec PyProof.Rows L2
section
variable {X : Cx} {pins : List (Addr × Obj)} {σ : L2.St} {H : Hp} {s : Shared}
end
section
variable {X : Cx} {g : GE} {m : List Md} {e : Expr} {es : List Expr} {fl : Rho → Res (List D)} {pos p : Pos}
end
end DL
end
section
namespace DL
open PySem PySem.Spec PyProof.Rows L2
noncomputable def zhl (h0 H : Hp) : Prop := ∀ a o,h0 a = some o→H a = some o
structure YieldsB (K : PySem.W.Frag) (h0 : Hp) (J : It) (ds : List D) (G0 : GH) : Prop where
  go : ∀ G H (i : Nat),Gle G0 G→GOk K G H→zhl h0 H→i < ds.length→J.go i H
  yld : ∀ G H (i : Nat) x H' d,Gle G0 G→GOk K G H→zhl h0 H→J.yld i H x H'→ds[i]? = some d→∃ G',Grow K G H G' H'∧RG K G' x d
  stop : ∀ G H,Gle G0 G→GOk K G H→zhl h0 H→J.stop ds.length H
theorem Yields.toH {K : PySem.W.Frag} {h0 : Hp} {J : It} {ds : List D} {G0 : GH} (y : Yields K J ds G0) : YieldsB K h0 J ds G0 :=
  ⟨fun G H i w gk _ hi => y.go G H i w gk hi,fun G H i x H' d w gk _ q e => y.yld G H i x H' d w gk q e,fun G H w gk _ => y.stop G H w gk⟩
noncomputable def tIB (X : Cx) (g : GE) (m : List Md) (f : FI) : TI := fun σ H R => ∃ r G,SI X g m r G σ H∧fin (f r) (fun ds => ∀ J G' H',Grow X.K G H G' H'→YieldsB X.K g.h0 J ds G'→R J H') (XW X σ G H)
noncomputable def SItB (X : Cx) (g : GE) (m : List Md) (tg iter : Expr) (f : FI) : Prop := PI X tg iter (tIB X g m f)
noncomputable def tBw (X : Cx) (g : GE) (m : List Md) (f : FE) : TE := fun σ H Q => ∃ r G,SI X g m r G σ H∧fin (f r) (fun d => ∀ v G' H',Grow X.K G H G' H'→Bw X.K g.h0 G' H' v d→Q v H') (XW X σ G H)
noncomputable def SBw (X : Cx) (g : GE) (m : List Md) (e : Expr) (f : FE) : Prop := PE X e (tBw X g m f)
section
variable {X : Cx} {g : GE} {m m' mb : List Md} {tg e a iter : Expr} {f : FE} {pos p pos2 : Pos} {ro : Bool} {sts : List Stmt} {s1 : FS} {elts : List Expr} {kk : Nat}
theorem vw_ (i : Nat) {x : Str} (hm : m[i]? = some .bw := by rfl) (hN : X.N[i]? = some x := by rfl) (hv : Vis X.env.scope x := by first | exact Or.inl rfl | exact Or.inr (Or.inl rfl) | exact Or.inr (Or.inr rfl)) (hd : (x == ("__debug__" : Str)) = false := by decide) (hcd : (x == ("__classdict__" : Str)) = false := by decide) :
    SBw X g m (.Name x pos) fun r => getV r i := by
  refine PE.imp (zgk hN hv hd hcd) fun σ H Q ⟨r,G,si,q⟩ => ?_
  obtain ⟨d,e,k⟩ := zfS q
  obtain ⟨v,e1,e2⟩ := si.bw i d e hm
  exact ⟨v,e1,k _ G H (Grow.refl si.gok) e2⟩
theorem zmk {K : PySem.W.Frag} {h0 : Hp} {G0 G : GH} {H0 H : Hp} {a : Addr} {ds : List D} (o : Own K G0 H0 a (.lst ds)) (h : h0 a≠none) (o0 : zhl h0 H0) (le : Gle G0 G) (o1 : zhl h0 H) : ∃ xs,SqL K H a xs∧RGs K G xs ds := by
  cases e : h0 a with
  | none => exact absurd e h
  | some u =>
    have h1 := o0 a u e
    have h2 := o1 a u e
    cases o.ob with
    | lst r s =>
      rw [h1] at r
      cases r
      exact ⟨_,SqL.of h2,RGs.mono s le⟩
theorem zm6 {K : PySem.W.Frag} {h0 : Hp} {ds : List D} {G0 : GH} {a : Addr} (h : ∀ G H,Gle G0 G→GOk K G H→zhl h0 H→∃ xs,SqL K H a xs∧RGs K G xs ds) : YieldsB K h0 (Itl K a) ds G0 := by
  refine ⟨fun G H i w gk o hi => ?_,fun G H i x H' d w gk o y e => ?_,fun G H w gk o => ?_⟩
  · obtain ⟨xs,s,r⟩ := h G H w gk o
    have hl := Paired.length r
    exact ⟨xs,xs[i],s,List.getElem?_eq_getElem (by omega)⟩
  · obtain ⟨xs,s,r⟩ := h G H w gk o
    obtain ⟨rfl,y⟩ := y
    obtain ⟨v,e1,rv⟩ := Paired.get r e
    have := y xs s
    rw [e1] at this; cases this
    exact ⟨G,Grow.refl gk,rv⟩
  · obtain ⟨xs,s,r⟩ := h G H w gk o
    exact ⟨xs,s,Nat.le_of_eq (Paired.length r)⟩
theorem SI.oldIn {r : Rho} {G : GH} {st : L2.St} {H : Hp} (s : SI X g m r G st H) : zhl g.h0 H := s.old
theorem zov (h : SBw X g m e f) : SItB X g m tg e (fSeq zbk f) := by
  refine PI.imp (ziP h) fun σ H R ⟨r,G,si,q⟩ => ⟨r,G,si,zah (zag q) fun d q v G' H' w rv => ?_⟩
  obtain ⟨ds,e,q⟩ := zav q
  cases d with
  | lst ds' =>
    cases e
    rcases rv with rv | ⟨a,rfl,o,ho⟩
    · obtain ⟨a,xs,rfl,s,rs⟩ := rv.lst w.ok
      exact .inl ⟨a,rfl,⟨xs,s⟩,q _ G' H' w (zgM rv).toH⟩
    · cases o.ob with
      | lst r s => exact .inl ⟨a,rfl,⟨_,SqL.of r⟩,q _ G' H' w (zm6 fun G2 H2 le _ o2 => zmk o ho (si.grow w).oldIn le o2)⟩
  | tup ds' =>
    cases e
    rcases rv with rv | ⟨a,rfl,o,ho⟩
    · obtain ⟨a,xs,rfl,s,rs⟩ := rv.tup w.ok
      exact .inr ⟨a,rfl,⟨xs,s⟩,q _ G' H' w (zim rv).toH⟩
    · cases o.ob
  | _ => cases e
theorem zns (hp : PassesOwn (model X.prog X.w) X.A X.env X.xe) (hc : X.calm = true) {ft : FT} {fi : FI} (hi : SItB X g m tg iter fi) (hg : SG X g m tg ft m) (hb : SSs X g ro m m sts s1 m)
    (hs : ∀ x,foldedSetIterable iter X.env x = pure x := by intro _; rfl) : SS X g ro mb m (.For tg iter sts [] pos) (zcf m fi ft s1) m := by
  refine ⟨rfl,PS.imp (ziL hp hc hi hg.2 hb.2 hs) fun D σ H ⟨r,G,si,q⟩ => ⟨r,G,si,zah (zbZ si rfl q) fun ds q J G0 H0 w0 Y => ?_⟩⟩
  refine ⟨fun i n σ H => ∃ r G,SI X g m r G σ H∧Gle G0 G∧i≤ds.length∧n = ds.length - i∧oTo X g ro m mb G D (forF ft s1 (ds.drop i) r),⟨ds.length,r,G0,si.grow w0,Gle.refl G0,Nat.zero_le _,rfl,oTo.gle q w0.ge⟩,?_⟩
  rintro i n σ1 H1 ⟨r1,G1,si1,le1,hi,rfl,q1⟩
  by_cases hlt : i < ds.length
  · have hd : ds.drop i = ds[i]::ds.drop (i + 1) := List.drop_eq_getElem_cons hlt
    rw [hd] at q1
    unfold forF at q1
    refine .inr ⟨Y.go G1 H1 i le1 si1.gok si1.oldIn hlt,fun σ' H' => ∃ r G,SI X g m r G σ' H'∧Gle G0 G∧oTo X g ro m mb G D (forF ft s1 (ds.drop (i + 1)) r),fun σ' H' ⟨r',G',si',le',q'⟩ => ⟨ds.length - (i + 1),by omega,r',G',si',le',hlt,rfl,q'⟩,fun x H' y => ?_⟩
    obtain ⟨G',w',rv⟩ := Y.yld G1 H1 i x H' ds[i] le1 si1.gok si1.oldIn y (List.getElem?_eq_getElem hlt)
    have le' : Gle G0 G' := le1.trans w'.ge
    cases eft : ft ds[i] r1 with
    | none => simp only [eft] at q1; exact q1.elim
    | some r2 =>
      simp only [eft] at q1
      refine ⟨r1,G',ds[i],si1.grow w',rv,r2,eft,fun σ2 si2 => ⟨r2,G',si2,?_⟩⟩
      cases eb : s1 r2 with
      | nx r' => simp only [eb] at q1; exact fun σ3 G3 H3 le3 si3 => ⟨r',G3,si3,le'.trans le3,oTo.gle q1 (Gle.trans w'.ge le3)⟩
      | ct r' => simp only [eb] at q1; exact fun σ3 G3 H3 le3 si3 => ⟨r',G3,si3,le'.trans le3,oTo.gle q1 (Gle.trans w'.ge le3)⟩
      | bk r' => simp only [eb] at q1; exact fun σ3 G3 H3 le3 si3 => q1 σ3 G3 H3 (Gle.trans w'.ge le3) si3
      | rt d => simp only [eb] at q1; exact q1
      | exc x r' => simp only [eb] at q1; exact fun pins e s' σ3 G3 H3 le3 => q1 pins e s' σ3 G3 H3 (Gle.trans w'.ge le3)
      | stuck => simp only [eb] at q1; exact q1
  · have e : i = ds.length := by omega
    subst e
    rw [List.drop_length] at q1
    exact .inl ⟨Y.stop G1 H1 le1 si1.gok si1.oldIn,q1 σ1 G1 H1 (Gle.refl _) si1⟩
end
end DL
end
section
namespace DL
open PySem PySem.Spec PyProof.Rows L2
open HT (sIx)
section
variable {prog : Program} {w : World} {A : Around} {E : Value → Shared → Prop} {s : Shared}
theorem zfP {t sl : Addr} {items : Array Value} {vl vu : Value} {lo hi : Option Int} {Q : Value→Shared→Prop} (ht : IsTup s.heap t items) (hs : s.heap.IsSliceOf sl vl vu .none) (pl : IsPart vl lo) (pu : IsPart vu hi)
    (hw : sIx items.size 0 lo = 0∧sIx items.size items.size hi = items.size) (h : Q (.ref t) s) : wpAny (model prog w) A (getItem (.ref t) (.ref sl)) Q E s := by
  obtain ⟨os,hos,hcs,hds⟩ := id hs
  have hTs : s.TypeIs (.ref sl) "slice" := ⟨os,hos,hcs⟩
  unfold getItem
  try with_reducible refine wpAny_holding ?_
  first | refine wpAny_bind (wpAny_pure ?_) | skip
  refine wpAny_bind (wpAny_sequenceKey ht.typeIs (by decide) (wpAny_bind (wpAny_callSpecial?_slot (name := Str.ofString "__getitem__") ht.typeIs PyProof.Rows.slot_tuple_getitem (wpAny_call_entry PyProof.Rows.slot_tuple_getitem ht.typeIs PyProof.Rows.entry_tuple_getitem ?_ (PyProof.Rows.args_tuple_getitem _ _)))))
  show wpAny _ _ (Builtin.Tuple.tupleItemsOf (.ref t) >>= _) _ _ s
  refine wpAny_bind (PyProof.Rows.tupleItemsOf_ ht (wpAny_bind (wpAny_typeOf hTs ?_)))
  rw [if_pos (by decide)]
  refine wpAny_bind (HT.sliceApplied_gen hs pl pu ?_)
  rw [hw.1,hw.2]
  show wpAny _ _ (if (((0 : Nat) : Int) == 0 && (1 : Int) == 1 && (items.size - 0) == items.size) = true then _ else _) _ _ s
  rw [if_pos (by simp)]
  show wpAny _ _ (Builtin.Tuple.tupleIsExact (.ref t) >>= _) _ _ s
  unfold Builtin.Tuple.tupleIsExact
  refine wpAny_bind (wpAny_bind (wpAny_typeOf ht.typeIs (wpAny_pure ?_)))
  rw [if_pos (by decide)]
  refine wpAny_bind (wpAny_rule ?_)
  show wpAny _ _ (ret (.ref t)) _ _ s
  exact wpAny_pure ⟨_,rfl,wpAny_pure h⟩
end
noncomputable def rSlW (K : PySem.W.Frag) : V→Option Int→Option Int→Hp→VK→Prop := fun x lo hi H Q => ∃ a xs,x = .ref a∧SqT K H a xs∧(sIx xs.length 0 lo = 0∧sIx xs.length xs.length hi = xs.length)∧Q (.ref a) H
theorem zkm {X : Cx} : SlR X (rSlW X.K) := by
  intro pins s σ H x v vl vu lo hi sl Q I rx hs pl pu h
  obtain ⟨a,xs,rfl,hx,hw,q⟩ := h
  cases rx
  obtain ⟨its,r,ht,hz⟩ := I.tuple hx
  have hlen : its.toArray.size = xs.length := by rw [List.size_toArray]; exact r.length.symm
  exact ⟨"tuple",_,PyProof.Rows.slot_tuple_getitem.lookup,ht.typeIs,zfP ht hs pl pu (by rw [hlen]; exact hw) ⟨.ref a,H,I,rfl,q⟩⟩
noncomputable def slA (d : D) (lo hi : Option Int) : Option D := match d with
  | .tup ds => some (.tup (cutL ds lo hi))
  | .lst ds => some (.lst (cutL ds lo hi))
  | _ => none
noncomputable def fSlA (fa : FE) (fl fh : FP) : FE := fun r => (fa r).bind fun d => (fl r).bind fun lo => (fh r).bind fun hi => opt (slA d lo hi)
section
variable {X : Cx} {g : GE} {m : List Md} {e : Expr} {f fa : FE} {pos p2 : Pos}
theorem zlX {R : V→Option Int→Option Int→Hp→Prop} {fl fh : FP} {r : Rho} {G : GH} {σ : L2.St} {H : Hp} {q : D→Prop} (si : SI X g m r G σ H) (h : fin (fSlA fa fl fh r) q (XW X σ G H))
    (hk : ∀ d lo hi v G2 H2 d',Grow X.K G H G2 H2→RB X.K G2 H2 v d→slA d lo hi = some d'→q d'→R v lo hi H2) :
    tB X g m fa σ H fun x H1 => tP X g m fl σ H1 fun l H2 => tP X g m fh σ H2 fun u H3 => R x l u H3 := by
  refine ⟨r,G,si,zah (zag h) fun d h1 v G1 H1 w1 r1 => ⟨r,G1,si.grow w1,zaO (zag h1) w1 fun lo h2 G2 H2 w2 => ⟨r,G2,(si.grow w1).grow w2,?_⟩⟩⟩
  refine zaO (zag h2) (w1.trans w2) fun hi h3 G3 H3 w3 => ?_
  obtain ⟨d',e,h4⟩ := zav h3
  exact hk d lo hi v G3 H3 d' ((w1.trans w2).trans w3) ((r1.mono w2).mono w3) e h4
theorem zjS {α : Type} {ds : List α} {lo hi : Option Int} (h : sIx ds.length 0 lo = 0∧sIx ds.length ds.length hi = ds.length) : cutL ds lo hi = ds := by
  unfold cutL
  rw [h.1,h.2]; simp
theorem zgS {lo hi : Option Expr} {fl fh : FP} (he : SB X g m e f) (hl : SP1 X g m lo fl) (hu : SP1 X g m hi fh) : SE X g m (.Subscript e (.Slice lo hi none p2) pos) (fSlA f fl fh) := by
  refine PE.imp (zkA (SlR.or zkm (SlR.or zlW znm)) he hl hu) fun σ H Q ⟨r,G,si,q⟩ => ?_
  refine zlX si q fun d lo hi v G2 H2 d' w r1 e q2 => ?_
  cases d with
  | tup ds =>
    cases e
    rcases r1 with r1 | ⟨a',_,oo⟩
    · obtain ⟨a,xs,rfl,s,r⟩ := r1.tup w.ok
      by_cases hw : sIx ds.length 0 lo = 0∧sIx ds.length ds.length hi = ds.length
      · refine .inl ⟨a,xs,rfl,s,by rw [Paired.length r]; exact hw,?_⟩
        rw [zjS hw] at q2
        exact q2 _ G2 H2 w r1
      · rw [← Paired.length r] at hw
        refine .inr (.inr ⟨a,xs,rfl,s,hw,fun p hp => ?_⟩)
        exact q2 _ _ _ (w.trans (Grow.newF w.ok hp (.tup (.inl zar) (zoR r lo hi)))) (.ref za7)
    · cases oo.ob
  | lst ds =>
    cases e
    obtain ⟨a,xs,rfl,s,r⟩ := r1.lst w.ok
    exact .inr (.inl ⟨a,xs,rfl,s,fun p hp => q2 _ _ _ (w.trans (Grow.newF w.ok hp (.lst (.inl zar) (zoR r lo hi)))) (.ref za7)⟩)
  | _ => cases e
end
end DL
end
section
namespace DL
open PySem PySem.Spec PyProof.Rows L2
open AutoSeq1 (wpAny_loadPart')
structure ZA (zp ti to u1 u2 : Addr) (f1 f2 : List Addr) : Prop where
  a1 : ti≠zp
  a2 : to≠zp
  a3 : u1≠zp
  a4 : u2≠zp
  a5 : to≠u1
  a6 : to≠u2
  a7 : u1≠u2
  a8 : ti≠to∧ti≠u1∧ti≠u2
  b1 : zp∉f1∧to∉f1∧u2∉f1
  b2 : zp∉f2∧to∉f2∧u1∉f2
theorem _root_.PySem.Draws.at' {prog : Program} {w : World} {A : Around} {it : Addr} {fp : List Addr} {n : Nat} {P : Nat→Value→Prop} {St : Nat→Heap→Prop} (D : Draws prog w A it fp n P St) {i : Nat} {h h' : Heap} {c : Addr} (st : St i h) (e : Heap.ExtBut c h h') (hc : c∉fp) : St i h' :=
  D.frame i h h' st fun b hb o q => e b o (by rintro rfl; exact hc hb) q
section
variable {prog : Program} {w : World} {A : Around} {E : Value → Shared → Prop} {s : Shared} {zp ti to u1 u2 : Addr} {f1 f2 : List Addr} {n1 n2 : Nat} {P1 P2 : Nat → Value → Prop} {St1 St2 : Nat → Heap → Prop} {p q : Value}
theorem zil {i : Nat} {Q : Value→Shared→Prop} (Z : ZA zp ti to u1 u2 f1 f2) (D1 : Draws prog w A u1 f1 n1 P1 St1) (D2 : Draws prog w A u2 f2 n2 P2 St2) (hz : IsZip s.heap zp ti to .none) (hi : IsPair s.heap ti (.ref u1) (.ref u2)) (ho : IsPair s.heap to p q)
    (s1 : St1 i s.heap) (s2 : St2 i s.heap) (l1 : i < n1) (l2 : i < n2)
    (hQ : ∀ x y h' tk,P1 i x→P2 i y→IsZip h' zp ti to (rawInt s.heap.objs.size)→IsPair h' to x y→St1 (i + 1) h'→St2 (i + 1) h'→IsPair h' s.heap.objs.size x y→h'.objs.size = s.heap.objs.size + 1 →
      (∀ c o,c≠zp→c≠to→c≠u1→c≠u2→s.heap.get? c = some o→h'.get? c = some o)→Q (.ref s.heap.objs.size) { s with heap := h',toks := tk }) :
    wpAny (model prog w) A (Builtin.«zip.__next__» ⟨[.ref zp],[]⟩) (fun fin s' => ∃ v,fin = .done (.ret v)∧Q v s') E s := by
  show wpAny _ _ (field (.ref zp) 2 >>= _) _ _ _
  refine wpAny_bind (wpAny_field hz rfl (x := .bool false) rfl ?_)
  show wpAny _ _ (field (.ref zp) 3 >>= _) _ _ _
  refine wpAny_bind (wpAny_field hz rfl (x := .ref ti) rfl (wpAny_bind (wpAny_seqItems hi rfl ?_)))
  show wpAny _ _ (Builtin.SmallTypes.ownedTupleIsFree (.ref zp) >>= _) _ _ _
  refine wpAny_bind ?_
  unfold Builtin.SmallTypes.ownedTupleIsFree
  refine wpAny_bind (wpAny_field hz rfl (x := .none) rfl (wpAny_pure ?_))
  simp only [if_true]
  refine wpAny_bind (wpAny_rule (wpAny_bind (wpAny_field hz rfl (x := .ref to) rfl (wpAny_bind (wpAny_setField_rec hz (by simp) fun g1 hz1 k1 => ?_)))))
  replace hz1 : IsZip g1 zp ti to .ellipsis := hz1
  refine wpAny_bind ?_
  simp only [List.zipIdx_cons,List.zipIdx_nil,List.forIn_cons,List.forIn_nil]
  refine wpAny_bind (wpAny_bind (wpAny_onRaise ?_))
  show wpAny _ _ (Builtin.SmallTypes.nextOf (.ref u1) >>= _) _ _ _
  refine wpAny_bind (D1.item i _ _ _ l1 (D1.at' s1 k1.extBut Z.b1.1) fun x g2 t2 px st1 k2 => wpAny_pure ?_)
  have ho2 : IsPair g2 to p q := k2.extBut _ _ Z.a5 (k1.extBut _ _ Z.a2 ho)
  refine wpAny_bind (wpAny_seqItems ho2 rfl (wpAny_bind (wpAny_updateSeq_pair ho2 fun g3 ho3 k3 => ?_)))
  replace ho3 : IsPair g3 to x q := ho3
  refine wpAny_bind (wpAny_letGo (wpAny_pure ?_))
  refine wpAny_bind (wpAny_bind (wpAny_onRaise ?_))
  show wpAny _ _ (Builtin.SmallTypes.nextOf (.ref u2) >>= _) _ _ _
  refine wpAny_bind (D2.item i _ _ _ l2 (D2.at' (D2.at' (D2.at' s2 k1.extBut Z.b2.1) k2.extBut Z.b2.2.2) k3.extBut Z.b2.2.1) fun y g4 t4 py st2 k4 => wpAny_pure ?_)
  have ho4 : IsPair g4 to x q := k4.extBut _ _ Z.a6 ho3
  refine wpAny_bind (wpAny_seqItems ho4 rfl (wpAny_bind (wpAny_updateSeq_pair ho4 fun g5 ho5 k5 => ?_)))
  replace ho5 : IsPair g5 to x y := ho5
  refine wpAny_bind (wpAny_letGo (wpAny_pure (wpAny_pure ?_)))
  refine wpAny_bind (wpAny_seqItems ho5 rfl (wpAny_bind (wpAny_newTuple ?_)))
  have hsz : g5.objs.size = s.heap.objs.size := by rw [k5.1,k4.1,k3.1,k2.1,k1.1]
  have hz5 : IsZip g5 zp ti to .ellipsis := k5.extBut _ _ Z.a2.symm (k4.extBut _ _ Z.a4.symm (k3.extBut _ _ Z.a2.symm (k2.extBut _ _ Z.a3.symm hz1)))
  have st15 : St1 (i + 1) g5 := D1.at' (D1.at' (D1.at' st1 k3.extBut Z.b1.2.1) k4.extBut Z.b1.2.2) k5.extBut Z.b1.2.1
  have st25 : St2 (i + 1) g5 := D2.at' st2 k5.extBut Z.b2.2.1
  have hzlt : zp < g5.objs.size := Heap.lt_size hz5
  show wpAny _ _ (Builtin.SmallTypes.ownedTupleHandOut (.ref zp) (.ref g5.objs.size) >>= _) _ _ _
  refine wpAny_bind ?_
  unfold Builtin.SmallTypes.ownedTupleHandOut
  have hz6 : IsZip (g5.push { cls := .type "tuple",data := .seq #[x,y] }) zp ti to .ellipsis := Heap.get?_push_of_some _ hz5
  refine wpAny_bind (wpAny_setField_rec hz6 (by simp) fun g7 hz7 k7 => ?_)
  replace hz7 : IsZip g7 zp ti to (rawInt g5.objs.size) := hz7
  refine wpAny_setField_rec hz7 (by simp) fun g8 hz8 k8 => ?_
  replace hz8 : IsZip g8 zp ti to (rawInt g5.objs.size) := hz8
  have up : ∀ c o,c≠zp→g5.get? c = some o→g8.get? c = some o := fun c o c1 e => k8.extBut _ _ c1 (k7.extBut _ _ c1 (Heap.get?_push_of_some _ e))
  have hT8 : IsPair g8 g5.objs.size x y := k8.extBut _ _ (Nat.ne_of_gt hzlt) (k7.extBut _ _ (Nat.ne_of_gt hzlt) (Heap.get?_push_size _ rfl))
  have sz8 : g8.objs.size = g5.objs.size + 1 := by rw [k8.1,k7.1,Heap.size_push]
  rw [hsz] at hz8 hT8 sz8
  refine wpAny_pure ⟨_,rfl,?_⟩
  show Q (.ref g5.objs.size) _
  rw [hsz]
  refine hQ x y g8 _ px py hz8 (up _ _ Z.a2 ho5) (D1.frame _ _ _ st15 fun b hb o e => up b o (by rintro rfl; exact Z.b1.1 hb) e) (D2.frame _ _ _ st25 fun b hb o e => up b o (by rintro rfl; exact Z.b2.1 hb) e) hT8 sz8 fun c o c1 c2 c3 c4 e => up c o c1 ?_
  exact k5.extBut _ _ c2 (k4.extBut _ _ c4 (k3.extBut _ _ c2 (k2.extBut _ _ c3 (k1.extBut _ _ c1 e))))
theorem zki {i : Nat} {Q : Fin→Shared→Prop} (Z : ZA zp ti to u1 u2 f1 f2) (D1 : Draws prog w A u1 f1 n1 P1 St1) (D2 : Draws prog w A u2 f2 n2 P2 St2) (hz : IsZip s.heap zp ti to .none) (hi : IsPair s.heap ti (.ref u1) (.ref u2)) (ho : IsPair s.heap to p q)
    (s1 : St1 i s.heap) (s2 : St2 i s.heap) (hend : i = n1∨(i < n1∧i = n2))
    (hE : ∀ h' e tk,(∀ c o,c≠zp→c≠to→c≠u1→c≠u2→s.heap.get? c = some o→h'.get? c = some o)→(∃ o,h'.get? e = some o∧o.cls = .type "StopIteration")→E (.ref e) { s with heap := h',toks := tk }) :
    wpAny (model prog w) A (Builtin.«zip.__next__» ⟨[.ref zp],[]⟩) Q E s := by
  show wpAny _ _ (field (.ref zp) 2 >>= _) _ _ _
  refine wpAny_bind (wpAny_field hz rfl (x := .bool false) rfl ?_)
  show wpAny _ _ (field (.ref zp) 3 >>= _) _ _ _
  refine wpAny_bind (wpAny_field hz rfl (x := .ref ti) rfl (wpAny_bind (wpAny_seqItems hi rfl ?_)))
  show wpAny _ _ (Builtin.SmallTypes.ownedTupleIsFree (.ref zp) >>= _) _ _ _
  refine wpAny_bind ?_
  unfold Builtin.SmallTypes.ownedTupleIsFree
  refine wpAny_bind (wpAny_field hz rfl (x := .none) rfl (wpAny_pure ?_))
  simp only [if_true]
  refine wpAny_bind (wpAny_rule (wpAny_bind (wpAny_field hz rfl (x := .ref to) rfl (wpAny_bind (wpAny_setField_rec hz (by simp) fun g1 hz1 k1 => ?_)))))
  replace hz1 : IsZip g1 zp ti to .ellipsis := hz1
  refine wpAny_bind ?_
  simp only [List.zipIdx_cons,List.zipIdx_nil,List.forIn_cons,List.forIn_nil]
  refine wpAny_bind (wpAny_bind (wpAny_onRaise ?_))
  show wpAny _ _ (Builtin.SmallTypes.nextOf (.ref u1) >>= _) _ _ _
  rcases hend with hend | ⟨hlt,hend⟩
  · subst hend
    refine wpAny_bind (D1.done _ _ _ (D1.at' s1 k1.extBut Z.b1.1) fun g2 e k2 he => ?_)
    obtain ⟨oe,hoe,hce⟩ := he
    have hz2 : IsZip g2 zp ti to .ellipsis := k2 _ _ Z.a3.symm hz1
    have hez : e≠zp := fun x => by subst x; rw [hz2] at hoe; cases hoe; simp at hce
    exact wpAny_setField_rec hz2 (by simp) fun g3 _ k3 => hE g3 e _ (fun c o c1 _ c3 _ x => k3.extBut _ _ c1 (k2 _ _ c3 (k1.extBut _ _ c1 x))) ⟨oe,k3.extBut _ _ hez hoe,hce⟩
  · subst hend
    refine wpAny_bind (D1.item _ _ _ _ hlt (D1.at' s1 k1.extBut Z.b1.1) fun x g2 t2 px st1 k2 => wpAny_pure ?_)
    have ho2 : IsPair g2 to p q := k2.extBut _ _ Z.a5 (k1.extBut _ _ Z.a2 ho)
    refine wpAny_bind (wpAny_seqItems ho2 rfl (wpAny_bind (wpAny_updateSeq_pair ho2 fun g3 ho3 k3 => ?_)))
    refine wpAny_bind (wpAny_letGo (wpAny_pure ?_))
    refine wpAny_bind (wpAny_bind (wpAny_onRaise ?_))
    show wpAny _ _ (Builtin.SmallTypes.nextOf (.ref u2) >>= _) _ _ _
    refine wpAny_bind (D2.done _ _ _ (D2.at' (D2.at' (D2.at' s2 k1.extBut Z.b2.1) k2.extBut Z.b2.2.2) k3.extBut Z.b2.2.1) fun g4 e k4 he => ?_)
    obtain ⟨oe,hoe,hce⟩ := he
    have hz4 : IsZip g4 zp ti to .ellipsis := k4 _ _ Z.a4.symm (k3.extBut _ _ Z.a2.symm (k2.extBut _ _ Z.a3.symm hz1))
    have hez : e≠zp := fun x => by subst x; rw [hz4] at hoe; cases hoe; simp at hce
    exact wpAny_setField_rec hz4 (by simp) fun g5 _ k5 => hE g5 e _ (fun c o c1 c2 c3 c4 x => k5.extBut _ _ c1 (k4 _ _ c4 (k3.extBut _ _ c2 (k2.extBut _ _ c3 (k1.extBut _ _ c1 x))))) ⟨oe,k5.extBut _ _ hez hoe,hce⟩
theorem zgW {i : Nat} {Q : Option Value→Shared→Prop} (Z : ZA zp ti to u1 u2 f1 f2) (D1 : Draws prog w A.in1 u1 f1 n1 P1 St1) (D2 : Draws prog w A.in1 u2 f2 n2 P2 St2) (hz : IsZip s.heap zp ti to .none) (hi : IsPair s.heap ti (.ref u1) (.ref u2)) (ho : IsPair s.heap to p q)
    (s1 : St1 i s.heap) (s2 : St2 i s.heap) (l1 : i < n1) (l2 : i < n2)
    (hQ : ∀ x y h' tk,P1 i x→P2 i y→IsZip h' zp ti to (rawInt s.heap.objs.size)→IsPair h' to x y→St1 (i + 1) h'→St2 (i + 1) h'→IsPair h' s.heap.objs.size x y→h'.objs.size = s.heap.objs.size + 1 →
      (∀ c o,c≠zp→c≠to→c≠u1→c≠u2→s.heap.get? c = some o→h'.get? c = some o)→Q (some (.ref s.heap.objs.size)) { s with heap := h',toks := tk }) :
    wpAny (model prog w) A (pyNext (.ref zp)) Q E s := by
  have hT : s.TypeIs (.ref zp) "zip" := ⟨_,hz,rfl⟩
  unfold pyNext
  exact wpAny_bind (wpAny_attempt (wpAny_callSpecial?_slot (name := Str.ofString "__next__") hT F.slot_zip_next (wpAny_call_entry F.slot_zip_next hT F.entry_zip_next
      (zil Z D1 D2 hz hi ho s1 s2 l1 l2 fun x y h' tk b1 b2 b3 b4 b5 b6 b7 b8 b9 => wpAny_pure (hQ x y h' tk b1 b2 b3 b4 b5 b6 b7 b8 b9)) (F.args_zip_next_1 _))))
theorem zfg {i : Nat} {Q : Option Value→Shared→Prop} (Z : ZA zp ti to u1 u2 f1 f2) (D1 : Draws prog w A.in1 u1 f1 n1 P1 St1) (D2 : Draws prog w A.in1 u2 f2 n2 P2 St2) (hz : IsZip s.heap zp ti to .none) (hi : IsPair s.heap ti (.ref u1) (.ref u2)) (ho : IsPair s.heap to p q)
    (s1 : St1 i s.heap) (s2 : St2 i s.heap) (hend : i = n1∨(i < n1∧i = n2)) (hQ : ∀ h' tk,(∀ c o,c≠zp→c≠to→c≠u1→c≠u2→s.heap.get? c = some o→h'.get? c = some o)→Q none { s with heap := h',toks := tk }) :
    wpAny (model prog w) A (pyNext (.ref zp)) Q E s := by
  have hT : s.TypeIs (.ref zp) "zip" := ⟨_,hz,rfl⟩
  unfold pyNext
  refine wpAny_bind (wpAny_attempt (wpAny_callSpecial?_slot (name := Str.ofString "__next__") hT F.slot_zip_next (wpAny_call_entry F.slot_zip_next hT F.entry_zip_next (zki Z D1 D2 hz hi ho s1 s2 hend fun h' e tk hk he => ?_) (F.args_zip_next_1 _))))
  obtain ⟨o,ho,hc⟩ := he
  exact wpAny_bind (wpAny_isInstance (T := "StopIteration") (b := true) ⟨o,ho,hc⟩ isSubtype_stop (wpAny_pure (hQ _ _ hk)))
end
noncomputable abbrev itO (c : String) (l : Addr) : Obj := { cls := .type c,data := .fields #[.ref l,.int 0 0] }
noncomputable abbrev zg2 (h : Heap) (c1 c2 : String) (l1 l2 : Addr) : Heap := (h.push (itO c1 l1)).push (itO c2 l2)
noncomputable abbrev zg3 (h : Heap) (c1 c2 : String) (l1 l2 : Addr) : Heap := (zg2 h c1 c2 l1 l2).push { cls := .type "tuple",data := .seq #[.ref h.objs.size,.ref (h.push (itO c1 l1)).objs.size] }
noncomputable abbrev zg4 (h : Heap) (c1 c2 : String) (l1 l2 : Addr) : Heap := (zg3 h c1 c2 l1 l2).push { cls := .type "tuple",data := .seq #[.none,.none] }
noncomputable abbrev zg5 (h : Heap) (c1 c2 : String) (l1 l2 : Addr) : Heap := (zg4 h c1 c2 l1 l2).push { cls := .type "zip",data := .fields #[.none,.bool false,.bool false,.ref (zg2 h c1 c2 l1 l2).objs.size,.ref (zg3 h c1 c2 l1 l2).objs.size] }
theorem zho {h : Heap} {a : Addr} {xs : Array Value} (x : h.IsTuple a xs) (o : Obj) : (h.push o).IsTuple a xs := let ⟨u,hu,r⟩ := x; ⟨u,Heap.get?_push_of_some _ hu,r⟩
theorem zje (l1 l2 : Addr) (xs ys : Array Value) : Meets (Builtin.«zip.__new__» ⟨[.type "zip",.ref l1,.ref l2],[]⟩) (fun _ R s => s.heap.IsList l1 xs∧s.heap.IsList l2 ys ∧
      R (.ok (.ret (.ref (zg4 s.heap "list_iterator" "list_iterator" l1 l2).objs.size))) { s with heap := zg5 s.heap "list_iterator" "list_iterator" l1 l2 }) :=
  .of_wp fun prog w A R s h => by
    obtain ⟨hp,gg,dd,tk,os⟩ := s; obtain ⟨q1,q2,h⟩ := h
    have hsub := sub_zip
    have e1 : Heap.IsList (Shared.heap ⟨hp,gg,dd,tk,os⟩) l1 xs := q1
    have e2 : Heap.IsList (Shared.heap ⟨hp.push (itO "list_iterator" l1),gg,dd,tk,os⟩) l2 ys := Heap.IsList.push q2 _
    wp_walk using wpAny_pyIter_list e1,wpAny_pyIter_list e2
    exact ⟨_,rfl,h⟩
theorem zjc (l1 l2 : Addr) (xs ys : Array Value) : Meets (Builtin.«zip.__new__» ⟨[.type "zip",.ref l1,.ref l2],[]⟩) (fun _ R s => s.heap.IsTuple l1 xs∧s.heap.IsList l2 ys ∧
      R (.ok (.ret (.ref (zg4 s.heap "tuple_iterator" "list_iterator" l1 l2).objs.size))) { s with heap := zg5 s.heap "tuple_iterator" "list_iterator" l1 l2 }) :=
  .of_wp fun prog w A R s h => by
    obtain ⟨hp,gg,dd,tk,os⟩ := s; obtain ⟨q1,q2,h⟩ := h
    have hsub := sub_zip
    have e1 : Heap.IsTuple (Shared.heap ⟨hp,gg,dd,tk,os⟩) l1 xs := q1
    have e2 : Heap.IsList (Shared.heap ⟨hp.push (itO "tuple_iterator" l1),gg,dd,tk,os⟩) l2 ys := Heap.IsList.push q2 _
    wp_walk using wpAny_pyIter_tuple e1,wpAny_pyIter_list e2
    exact ⟨_,rfl,h⟩
theorem zjb (l1 l2 : Addr) (xs ys : Array Value) : Meets (Builtin.«zip.__new__» ⟨[.type "zip",.ref l1,.ref l2],[]⟩) (fun _ R s => s.heap.IsTuple l1 xs∧s.heap.IsTuple l2 ys ∧
      R (.ok (.ret (.ref (zg4 s.heap "tuple_iterator" "tuple_iterator" l1 l2).objs.size))) { s with heap := zg5 s.heap "tuple_iterator" "tuple_iterator" l1 l2 }) :=
  .of_wp fun prog w A R s h => by
    obtain ⟨hp,gg,dd,tk,os⟩ := s; obtain ⟨q1,q2,h⟩ := h
    have hsub := sub_zip
    have e1 : Heap.IsTuple (Shared.heap ⟨hp,gg,dd,tk,os⟩) l1 xs := q1
    have e2 : Heap.IsTuple (Shared.heap ⟨hp.push (itO "tuple_iterator" l1),gg,dd,tk,os⟩) l2 ys := zho q2 _
    wp_walk using wpAny_pyIter_tuple e1,wpAny_pyIter_tuple e2
    exact ⟨_,rfl,h⟩
theorem zjd (l1 l2 : Addr) (xs ys : Array Value) : Meets (Builtin.«zip.__new__» ⟨[.type "zip",.ref l1,.ref l2],[]⟩) (fun _ R s => s.heap.IsList l1 xs∧s.heap.IsTuple l2 ys ∧
      R (.ok (.ret (.ref (zg4 s.heap "list_iterator" "tuple_iterator" l1 l2).objs.size))) { s with heap := zg5 s.heap "list_iterator" "tuple_iterator" l1 l2 }) :=
  .of_wp fun prog w A R s h => by
    obtain ⟨hp,gg,dd,tk,os⟩ := s; obtain ⟨q1,q2,h⟩ := h
    have hsub := sub_zip
    have e1 : Heap.IsList (Shared.heap ⟨hp,gg,dd,tk,os⟩) l1 xs := q1
    have e2 : Heap.IsTuple (Shared.heap ⟨hp.push (itO "list_iterator" l1),gg,dd,tk,os⟩) l2 ys := zho q2 _
    wp_walk using wpAny_pyIter_list e1,wpAny_pyIter_tuple e2
    exact ⟨_,rfl,h⟩
section
variable {prog : Program} {w : World} {A : Around} {E : Value → Shared → Prop} {s : Shared}
noncomputable def Made (s : Shared) (c1 c2 : String) (l1 l2 : Addr) (Q : Value→Shared→Prop) : Prop :=
  ∀ h',IsZip h' (s.heap.objs.size + 4) (s.heap.objs.size + 2) (s.heap.objs.size + 3) .none→IsPair h' (s.heap.objs.size + 2) (.ref s.heap.objs.size) (.ref (s.heap.objs.size + 1)) →
      IsPair h' (s.heap.objs.size + 3) .none .none→h'.get? s.heap.objs.size = some (itO c1 l1)→h'.get? (s.heap.objs.size + 1) = some (itO c2 l2) →
      (∀ c o,s.heap.get? c = some o→h'.get? c = some o)→Q (.ref (s.heap.objs.size + 4)) { s with heap := h' }
theorem zfM {c1 c2 : String} {l1 l2 : Addr} {Q : Value→Shared→Prop} (h : Made s c1 c2 l1 l2 Q) : (∃ o,(zg5 s.heap c1 c2 l1 l2).get? (zg4 s.heap c1 c2 l1 l2).objs.size = some o∧o.cls = .type "zip")∧Q (.ref (zg4 s.heap c1 c2 l1 l2).objs.size) { s with heap := zg5 s.heap c1 c2 l1 l2 } := by
  have z1 : (s.heap.push (itO c1 l1)).objs.size = s.heap.objs.size + 1 := Heap.size_push ..
  have z2 : (zg2 s.heap c1 c2 l1 l2).objs.size = s.heap.objs.size + 2 := by rw [Heap.size_push,z1]
  have z3 : (zg3 s.heap c1 c2 l1 l2).objs.size = s.heap.objs.size + 3 := by rw [Heap.size_push,z2]
  have z4 : (zg4 s.heap c1 c2 l1 l2).objs.size = s.heap.objs.size + 4 := by rw [Heap.size_push,z3]
  have g5 : (zg5 s.heap c1 c2 l1 l2).get? (zg4 s.heap c1 c2 l1 l2).objs.size = some _ := Heap.get?_push_size _ rfl
  have g4 : (zg5 s.heap c1 c2 l1 l2).get? (zg3 s.heap c1 c2 l1 l2).objs.size = some _ := Heap.get?_push_of_some _ (Heap.get?_push_size _ rfl)
  have g3 : (zg5 s.heap c1 c2 l1 l2).get? (zg2 s.heap c1 c2 l1 l2).objs.size = some _ := Heap.get?_push_of_some _ (Heap.get?_push_of_some _ (Heap.get?_push_size _ rfl))
  have g2 : (zg5 s.heap c1 c2 l1 l2).get? (s.heap.push (itO c1 l1)).objs.size = some (itO c2 l2) := Heap.get?_push_of_some _ (Heap.get?_push_of_some _ (Heap.get?_push_of_some _ (Heap.get?_push_size _ rfl)))
  have g1 : (zg5 s.heap c1 c2 l1 l2).get? s.heap.objs.size = some (itO c1 l1) := Heap.get?_push_of_some _ (Heap.get?_push_of_some _ (Heap.get?_push_of_some _ (Heap.get?_push_of_some _ (Heap.get?_push_size _ rfl))))
  rw [z2,z3,z4] at g5
  rw [z1,z2] at g3
  rw [z3] at g4
  rw [z1] at g2
  rw [z4]
  exact ⟨⟨_,g5,rfl⟩,h _ g5 g3 g4 g1 g2 fun c o x => Heap.get?_push_of_some _ (Heap.get?_push_of_some _ (Heap.get?_push_of_some _ (Heap.get?_push_of_some _ (Heap.get?_push_of_some _ x))))⟩
theorem zk7 {l1 l2 : Addr} {xs ys : Array Value} {Q : Value→Shared→Prop} (q1 : s.heap.IsList l1 xs) (q2 : s.heap.IsList l2 ys) (h : Made s "list_iterator" "list_iterator" l1 l2 Q) : wpAny (model prog w) A (call (.type "zip") [.ref l1,.ref l2]) Q E s :=
  callType_new F.called_zip (by decide) (F.typeCall_zip_2 _ _) (F.newCall_zip_2 _ _) (fun obj => F.args_object_init_3 obj _ _) F.entry_zip_new (zje l1 l2 xs ys) ⟨q1,q2,zfM h⟩
theorem zk5 {l1 l2 : Addr} {xs ys : Array Value} {Q : Value→Shared→Prop} (q1 : s.heap.IsTuple l1 xs) (q2 : s.heap.IsList l2 ys) (h : Made s "tuple_iterator" "list_iterator" l1 l2 Q) : wpAny (model prog w) A (call (.type "zip") [.ref l1,.ref l2]) Q E s :=
  callType_new F.called_zip (by decide) (F.typeCall_zip_2 _ _) (F.newCall_zip_2 _ _) (fun obj => F.args_object_init_3 obj _ _) F.entry_zip_new (zjc l1 l2 xs ys) ⟨q1,q2,zfM h⟩
theorem zk4 {l1 l2 : Addr} {xs ys : Array Value} {Q : Value→Shared→Prop} (q1 : s.heap.IsTuple l1 xs) (q2 : s.heap.IsTuple l2 ys) (h : Made s "tuple_iterator" "tuple_iterator" l1 l2 Q) : wpAny (model prog w) A (call (.type "zip") [.ref l1,.ref l2]) Q E s :=
  callType_new F.called_zip (by decide) (F.typeCall_zip_2 _ _) (F.newCall_zip_2 _ _) (fun obj => F.args_object_init_3 obj _ _) F.entry_zip_new (zjb l1 l2 xs ys) ⟨q1,q2,zfM h⟩
theorem zk6 {l1 l2 : Addr} {xs ys : Array Value} {Q : Value→Shared→Prop} (q1 : s.heap.IsList l1 xs) (q2 : s.heap.IsTuple l2 ys) (h : Made s "list_iterator" "tuple_iterator" l1 l2 Q) : wpAny (model prog w) A (call (.type "zip") [.ref l1,.ref l2]) Q E s :=
  callType_new F.called_zip (by decide) (F.typeCall_zip_2 _ _) (F.newCall_zip_2 _ _) (fun obj => F.args_object_init_3 obj _ _) F.entry_zip_new (zjd l1 l2 xs ys) ⟨q1,q2,zfM h⟩
end
end DL
end
section
namespace DL
open PySem PySem.Spec PyProof.Rows L2
noncomputable def sqK (K : PySem.W.Frag) (t : Bool) (a : Addr) (H : Hp) (xs : List V) : Prop := match t with
  | false => SqL K H a xs
  | true => SqT K H a xs
noncomputable def itK (t : Bool) (a u : Addr) (i : Nat) (h : Heap) : Prop := match t with
  | false => h.IsListIter u a i
  | true => h.IsTupleIter u a i
noncomputable abbrev nmK (t : Bool) : String := match t with
  | false => "list_iterator"
  | true => "tuple_iterator"
theorem zju {t : Bool} {a u : Addr} {h : Heap} (e : h.get? u = some (itO (nmK t) a)) : itK t a u 0 h := by cases t <;> exact ⟨_,e,rfl,rfl⟩
theorem zfN {t : Bool} {a u : Addr} {i : Nat} {h : Heap} (e : itK t a u i h) : ∃ o,h.get? u = some o∧∀ v,o.data≠.cell v := by
  cases t <;> (obtain ⟨o,ho,hc,hd⟩ := e; exact ⟨o,ho,fun v z => by rw [hd] at z; cases z⟩)
theorem zeB {t : Bool} {a u : Addr} {i : Nat} {h h' : Heap} (e : itK t a u i h) (k : ∀ o,h.get? u = some o→h'.get? u = some o) : itK t a u i h' := by
  cases t <;> (obtain ⟨o,ho,r⟩ := e; exact ⟨o,k o ho,r⟩)
section
variable {X : Cx} {pins : List (Addr × Obj)} {σ : L2.St} {H : Hp} {s : Shared} {t : Bool} {a u : Addr} {xs ys : List V} {i : Nat}
theorem zk1 (I : Inv X pins σ H s) (hc : X.calm = true) (hq : sqK X.K t a H xs) (hau : a≠u) (hi : itK t a u i s.heap) : ∃ (its : List Value) (St : Nat→Heap→Prop),Vals xs its∧Draws X.prog X.w X.A.in1 u [u,a] its.toArray.size (fun i v => its.toArray[i]? = some v) St∧St i s.heap∧∀ j h',St j h'→itK t a u j h' := by
  cases t with
  | false =>
    obtain ⟨its,rv,p,hz⟩ := I.list hq
    exact ⟨its,_,rv,Draws.list (A := X.A.in1) (show X.A.in1.handled = none from I.ok.hd hc) u a hau its.toArray,⟨hi,p.isList⟩,fun j h' st => st.1⟩
  | true =>
    obtain ⟨its,rv,p,hz⟩ := I.tuple hq
    exact ⟨its,_,rv,zjL (A := X.A.in1) (show X.A.in1.handled = none from I.ok.hd hc) u a hau its.toArray,⟨hi,p⟩,fun j h' st => st.1⟩
theorem ziu (I : Inv X pins σ H s) (h1 : sqK X.K t a H xs) (h2 : sqK X.K t a H ys) : xs = ys := by
  cases t with
  | false => exact I.list_inj h1 h2
  | true => exact I.tuple_inj h1 h2
theorem zf8 (I : Inv X pins σ H s) (h1 : sqK X.K t a H xs) : a < s.heap.objs.size := by
  cases t with
  | false => obtain ⟨its,rv,p,hz⟩ := I.list h1; obtain ⟨o,ho,_⟩ := p.isList; exact Heap.lt_size ho
  | true => obtain ⟨its,rv,p,hz⟩ := I.tuple h1; obtain ⟨o,ho,_⟩ := id p; exact Heap.lt_size ho
theorem zjv {h' : Heap} {ch : List Addr} {t' : Nat} (I : Inv X pins σ H s) (hch : ∀ b∈ch,FpOk X pins H b) (k : ∀ b ob,b∉ch→s.heap.get? b = some ob→h'.get? b = some ob) : Inv X pins σ H { s with heap := h',toks := t' } := by
  have trk : ∀ b u,H b = some u→b∉ch := fun b u e hb => by rw [(hch b hb).1] at e; cases e
  refine I.step (g' := s.gens) (d' := s.drawn) (ch := ch) (fun b hb => ?_) (fun b ob _ _ hc e _ => k b ob hc e) (fun b ob _ _ hc e _ => ⟨ob.slots,k b ob hc e⟩) (fun b ob hc e n => n)
    (fun b ob hc e => ⟨ob,k b ob hc e⟩) (fun b xs e => e) (fun b ob u e => e) (fun b ps e => ⟨#[],by rw [e]; simp⟩) (fun m hm => ?_) (fun b u e => ?_) I.bare
  · obtain ⟨z0,z1,z2,z3,z4,z5⟩ := hch b hb
    exact ⟨z3,z1,z4,z5⟩
  · obtain ⟨ob,es,ep,ho,r⟩ := hm
    exact ⟨ob,es,ep,k _ ob (fun hb => (hch _ hb).2.1 rfl) ho,r⟩
  · refine (I.hok b u e).stay (fun c v hc q => k c v ?_ q) (fun c q => q) fun c xs q => q
    rcases hc with z | z
    · rw [z]; exact trk b u e
    · exact trk c _ z
end
noncomputable def Izp (sq1 sq2 : Hp→List V→Prop) : It :=
  ⟨fun i H => ∃ xs ys x y,sq1 H xs∧sq2 H ys∧xs[i]? = some x∧ys[i]? = some y,fun i H x H' => ∃ p v u,H p = none∧x = .ref p∧H' = upd H p (.tup [v,u])∧(∀ xs,sq1 H xs→xs[i]? = some v)∧∀ ys,sq2 H ys→ys[i]? = some u,
    fun i H => ∃ xs ys,sq1 H xs∧sq2 H ys∧min xs.length ys.length = i⟩
theorem zkE {P : Program} {w : World} {H : Hp} {h : Heap} {T : Addr} {x y : Value} {v u : V} (hT : h.get? T = some { cls := .type "tuple",data := .seq #[x,y] }) (r1 : L2.RelV v x) (r2 : L2.RelV u y) : zbe P w H h T (.tup [v,u]) :=
  ⟨by show 2≤sizeLine; decide,[x,y],.cons r1 (.cons r2 .nil),⟨_,hT,rfl,0,rfl⟩,_,hT,rfl⟩
theorem zkk {P : Program} {w : World} {K : PySem.W.Frag} {elts : List Expr} {k : Nat} {pos : Pos} {t1 t2 : Bool} (a b zp ti to u1 u2 : Addr) (Z : ZA zp ti to u1 u2 [u1,a] [u2,b]) (h1 : a≠u1) (h2 : b≠u2) :
    Turn P w K (.Tuple elts k pos) (Izp (sqK K t1 a) (sqK K t2 b)) [zp,ti,to,u1,u2] zp (fun i h => IsZip h zp ti to .none∧IsPair h ti (.ref u1) (.ref u2)∧(∃ p q,IsPair h to p q)∧itK t1 a u1 i h∧itK t2 b u2 i h) where
  mem := by simp
  obj := fun i h st c hc => by
    obtain ⟨hz,hi,⟨p,q,ho⟩,s1,s2⟩ := st
    simp only [List.mem_cons,List.not_mem_nil,or_false] at hc
    rcases hc with rfl | rfl | rfl | rfl | rfl
    · exact ⟨_,hz,fun v z => by have z' : Data.fields _ = Data.cell v := z; cases z'⟩
    · exact ⟨_,hi,fun v z => by have z' : Data.seq _ _ = Data.cell v := z; cases z'⟩
    · exact ⟨_,ho,fun v z => by have z' : Data.seq _ _ = Data.cell v := z; cases z'⟩
    · exact zfN s1
    · exact zfN s2
  keep := fun i h h' st kk => by
    obtain ⟨hz,hi,⟨p,q,ho⟩,s1,s2⟩ := st
    exact ⟨kk zp (by simp) _ hz,kk ti (by simp) _ hi,⟨p,q,kk to (by simp) _ ho⟩,zeB s1 fun o e => kk u1 (by simp) o e,zeB s2 fun o e => kk u2 (by simp) o e⟩
  item := by
    intro X hP hw hK hc i pins s σ H E I hf st hg
    subst hP hw hK
    obtain ⟨xs,ys,x,y,q1,q2,hx,hy⟩ := hg
    obtain ⟨hz,hi,⟨p,q,ho⟩,s1,s2⟩ := st
    obtain ⟨its1,St1,rv1,D1,d1,f1⟩ := zk1 I hc q1 h1 s1
    obtain ⟨its2,St2,rv2,D2,d2,f2⟩ := zk1 I hc q2 h2 s2
    have l1 : i < its1.toArray.size := by
      have := (List.getElem?_eq_some_iff.mp hx).1
      rw [List.size_toArray,← rv1.length]; exact this
    have l2 : i < its2.toArray.size := by
      have := (List.getElem?_eq_some_iff.mp hy).1
      rw [List.size_toArray,← rv2.length]; exact this
    refine zgW Z D1 D2 hz hi ho d1 d2 l1 l2 fun vx vy h' tk px py hz' hto' st1' st2' hT hsz hk => ⟨_,rfl,wpAny_letOwnedTupleGo_zip hz' fun h'' hz'' hs'' => ?_⟩
    obtain ⟨wx,e1,r1⟩ := rv1.get hx
    obtain ⟨wy,e2,r2⟩ := rv2.get hy
    have ex : vx = wx := by
      have : its1[i]? = some vx := by simpa using px
      rw [e1] at this; exact (Option.some.inj this).symm
    have ey : vy = wy := by
      have : its2[i]? = some vy := by simpa using py
      rw [e2] at this; exact (Option.some.inj this).symm
    subst ex ey
    have nT : ∀ c o,s.heap.get? c = some o→s.heap.objs.size≠c := fun c o e => Nat.ne_of_gt (Heap.lt_size e)
    have hT'' : h''.get? s.heap.objs.size = some { cls := .type "tuple",data := .seq #[vx,vy] } := (hs''.2 _ (nT _ _ hz)).trans hT
    obtain ⟨o1,ho1,_⟩ := zfN s1
    obtain ⟨o2,ho2,_⟩ := zfN s2
    refine ⟨.ref s.heap.objs.size,upd H s.heap.objs.size (.tup [x,y]),zfO (s := s) (h' := h'') (t' := tk) (ch := [zp,to,u1,u2]) I (fun c hc => hf c ?_) (fun c ob hb e => ?_) (Nat.le_refl _) (zkE hT'' r1 r2),rfl,⟨_,x,y,I.hok.fresh (Nat.le_refl _),rfl,rfl,fun zs hz => by rw [ziu I hz q1]; exact hx,fun zs hz => by rw [ziu I hz q2]; exact hy⟩,⟨hz'',?_,⟨vx,vy,?_⟩,?_,?_⟩,fun c hc => ?_⟩
    · simp only [List.mem_cons,List.not_mem_nil,or_false] at hc ⊢
      rcases hc with rfl | rfl | rfl | rfl <;> simp
    · simp only [List.mem_cons,List.not_mem_nil,or_false,not_or] at hb
      exact (hs''.2 c hb.1).trans (hk c ob hb.1 hb.2.1 hb.2.2.1 hb.2.2.2 e)
    · exact (hs''.2 _ Z.a1).trans (hk _ _ Z.a1 Z.a8.1 Z.a8.2.1 Z.a8.2.2 hi)
    · exact (hs''.2 _ Z.a2).trans hto'
    · exact zeB (f1 _ _ st1') fun o e => (hs''.2 _ Z.a3).trans e
    · exact zeB (f2 _ _ st2') fun o e => (hs''.2 _ Z.a4).trans e
    · rw [zaC ?_]
      · exact (hf c hc).1
      · simp only [List.mem_cons,List.not_mem_nil,or_false] at hc
        rcases hc with rfl | rfl | rfl | rfl | rfl
        · exact (nT _ _ hz).symm
        · exact (nT _ _ hi).symm
        · exact (nT _ _ ho).symm
        · exact (nT _ _ ho1).symm
        · exact (nT _ _ ho2).symm
  done := by
    intro X hP hw hK hc i pins s σ H E I hf st hg
    subst hP hw hK
    obtain ⟨xs,ys,q1,q2,hm⟩ := hg
    obtain ⟨hz,hi,⟨p,q,ho⟩,s1,s2⟩ := st
    obtain ⟨its1,St1,rv1,D1,d1,f1⟩ := zk1 I hc q1 h1 s1
    obtain ⟨its2,St2,rv2,D2,d2,f2⟩ := zk1 I hc q2 h2 s2
    have l1 := rv1.length
    have l2 := rv2.length
    refine zfg Z D1 D2 hz hi ho d1 d2 ?_ fun h' tk hk => ⟨rfl,zjv (h' := h') (t' := tk) (ch := [zp,to,u1,u2]) I (fun c hc => hf c ?_) fun c ob hb e => ?_⟩
    · rw [List.size_toArray,List.size_toArray]
      omega
    · simp only [List.mem_cons,List.not_mem_nil,or_false] at hc ⊢
      rcases hc with rfl | rfl | rfl | rfl <;> simp
    · simp only [List.mem_cons,List.not_mem_nil,or_false,not_or] at hb
      exact hk c ob hb.1 hb.2.1 hb.2.2.1 hb.2.2.2 e
  self := fun _ _ _ _ _ st h => wpAny_pyIter_zip st.1 h
noncomputable def fZip (fa fb : FE) : FI := fun r => (fa r).bind fun d => (fb r).bind fun e => (opt (zbk d)).bind fun ds => (opt (zbk e)).bind fun es => .ok (List.zipWith (fun a b => D.tup [a,b]) ds es)
theorem zkh {α β γ : Type} (f : α→β→γ) : ∀ (l : List α) (r : List β) (i : Nat),(List.zipWith f l r)[i]? = (match l[i]?,r[i]? with | some a,some b => some (f a b) | _,_ => none) := fun l r i => by
  rw [List.getElem?_zipWith]
  cases l[i]? <;> cases r[i]? <;> rfl
theorem zm3 {K : PySem.W.Frag} {ds es : List D} {G0 : GH} {sq1 sq2 : Hp→List V→Prop} (h1 : ∀ G H,Gle G0 G→GOk K G H→∃ xs,sq1 H xs∧RGs K G xs ds) (h2 : ∀ G H,Gle G0 G→GOk K G H→∃ xs,sq2 H xs∧RGs K G xs es) : Yields K (Izp sq1 sq2) (List.zipWith (fun a b => D.tup [a,b]) ds es) G0 := by
  refine ⟨fun G H i w gk hi => ?_,fun G H i x H' d w gk y e => ?_,fun G H w gk => ?_⟩
  · obtain ⟨xs,s1,r1⟩ := h1 G H w gk
    obtain ⟨ys,s2,r2⟩ := h2 G H w gk
    rw [List.length_zipWith] at hi
    have l1 := Paired.length r1
    have l2 := Paired.length r2
    exact ⟨xs,ys,xs[i]'(by omega),ys[i]'(by omega),s1,s2,List.getElem?_eq_getElem _,List.getElem?_eq_getElem _⟩
  · obtain ⟨xs,s1,r1⟩ := h1 G H w gk
    obtain ⟨ys,s2,r2⟩ := h2 G H w gk
    obtain ⟨p,v,u,hp,rfl,rfl,hv,hu⟩ := y
    rw [zkh] at e
    cases e1 : ds[i]? with
    | none => rw [e1] at e; cases e
    | some d1 =>
      cases e2 : es[i]? with
      | none => rw [e1,e2] at e; cases e
      | some d2 =>
        rw [e1,e2] at e
        cases e
        obtain ⟨v',z1,rv⟩ := Paired.get r1 e1
        obtain ⟨u',z2,ru⟩ := Paired.get r2 e2
        have a1 := hv xs s1
        have a2 := hu ys s2
        rw [z1] at a1; cases a1
        rw [z2] at a2; cases a2
        exact ⟨_,Grow.newF gk hp (.tup (.inl zar) (.cons rv (.cons ru .nil))),.ref za7⟩
  · obtain ⟨xs,s1,r1⟩ := h1 G H w gk
    obtain ⟨ys,s2,r2⟩ := h2 G H w gk
    refine ⟨xs,ys,s1,s2,?_⟩
    rw [List.length_zipWith,Paired.length r1,Paired.length r2]
section
variable {X : Cx} {g : GE} {m : List Md} {e1 e2 : Expr} {fa fb : FE} {pos p pos2 : Pos} {elts : List Expr} {kk : Nat}
theorem zmV {pins : List (Addr × Obj)} {σ : L2.St} {H : Hp} {s : Shared} {t1 t2 : Bool} {a b : Addr} {xs ys : List V} {E : Value→Shared→Prop} {Q : Value→Shared→Prop} (I : Inv X pins σ H s) (q1 : sqK X.K t1 a H xs) (q2 : sqK X.K t2 b H ys) (h : Made s (nmK t1) (nmK t2) a b Q) : wpAny (model X.prog X.w) X.A (call (.type "zip") [.ref a,.ref b]) Q E s := by
  cases t1 with
  | false =>
    obtain ⟨its1,_,p1,_⟩ := I.list q1
    cases t2 with
    | false => obtain ⟨its2,_,p2,_⟩ := I.list q2; exact zk7 p1.isList p2.isList h
    | true => obtain ⟨its2,_,p2,_⟩ := I.tuple q2; exact zk6 p1.isList (show s.heap.IsTuple b its2.toArray from p2) h
  | true =>
    obtain ⟨its1,_,p1,_⟩ := I.tuple q1
    cases t2 with
    | false => obtain ⟨its2,_,p2,_⟩ := I.list q2; exact zk5 (show s.heap.IsTuple a its1.toArray from p1) p2.isList h
    | true => obtain ⟨its2,_,p2,_⟩ := I.tuple q2; exact zk4 (show s.heap.IsTuple a its1.toArray from p1) (show s.heap.IsTuple b its2.toArray from p2) h
theorem zdz {x y : Nat} (h : x≠y) : (show Addr from x)≠(show Addr from y) := h
theorem zd7 {x u a : Nat} (h1 : x≠u) (h2 : x≠a) : (show Addr from x)∉[(show Addr from u),(show Addr from a)] := fun h => by
  rcases List.mem_cons.mp h with h | h
  · exact h1 h
  · exact h2 (List.mem_singleton.mp h)
theorem zm2 {a b k : Nat} (la : a < k) (lb : b < k) : ZA (show Addr from k + 4) (show Addr from k + 2) (show Addr from k + 3) (show Addr from k) (show Addr from k + 1) [(show Addr from k),(show Addr from a)] [(show Addr from k + 1),(show Addr from b)] :=
  ⟨zdz (by omega),zdz (by omega),zdz (by omega),zdz (by omega),zdz (by omega),zdz (by omega),zdz (by omega),⟨zdz (by omega),zdz (by omega),zdz (by omega)⟩,
    ⟨zd7 (by omega) (by omega),zd7 (by omega) (by omega),zd7 (by omega) (by omega)⟩,⟨zd7 (by omega) (by omega),zd7 (by omega) (by omega),zd7 (by omega) (by omega)⟩⟩
theorem zoy {c k : Nat} (h : c = k + 4∨c = k + 2∨c = k + 3∨c = k∨c = k + 1) : k≤c := by omega
theorem znK {ta tb : TE} (hg : Gl X "zip") (hm : X.mg "zip" = none) (ha : PE X e1 ta) (hb : PE X e2 tb) (hs : starEach [e1,e2] X.env = (false,eval e1 X.env)::starEach [e2] X.env := by rfl) (hs2 : starEach [e2] X.env = (false,eval e2 X.env)::starEach [] X.env := by rfl) (hpl : (backTo pos (starEach [e2] X.env)).any (·.1) = false := by rfl) :
    PI X (.Tuple elts kk pos2) (.Call (.Name "zip" p) [e1,e2] [] pos) (fun σ H R => ta σ H fun x H1 => tb σ H1 fun y H2 => ∃ (t1 t2 : Bool) (a b : Addr),x = .ref a∧y = .ref b∧(∃ xs,sqK X.K t1 a H2 xs)∧(∃ ys,sqK X.K t2 b H2 ys)∧R (Izp (sqK X.K t1 a) (sqK X.K t2 b)) H2) := by
  intro pins s σ H R I h
  refine Call_ (zft I hg hm boot_zip (PyProof.Rows.callWith_type1 (thn (zbB ha (zbB hb zdy hs2) hs pos pins s σ H (fun vs H2 => match vs with
    | [x,y] => ∃ (t1 t2 : Bool) (a b : Addr),x = .ref a∧y = .ref b∧(∃ xs,sqK X.K t1 a H2 xs)∧(∃ ys,sqK X.K t2 b H2 ys)∧R (Izp (sqK X.K t1 a) (sqK X.K t2 b)) H2
    | _ => False) I h) fun us s1 ⟨vs,H1,I1,r1,q1⟩ => ?_) hs hpl))
  cases r1 with
  | nil => exact q1.elim
  | @cons x u xs us rx rt =>
  cases rt with
  | nil => exact q1.elim
  | @cons y u' xs' us' ry rt' =>
  cases rt' with
  | cons _ _ => exact q1.elim
  | nil =>
  obtain ⟨t1,t2,a,b,rfl,rfl,⟨zs,z1⟩,⟨ws,z2⟩,q⟩ := q1
  cases rx
  cases ry
  have la := zf8 I1 z1
  have lb := zf8 I1 z2
  refine zmV I1 z1 z2 fun h' hz hi ho o1 o2 kp => wpAny_pyIter_zip hz ?_
  refine ⟨_,[s1.heap.objs.size + 4,s1.heap.objs.size + 2,s1.heap.objs.size + 3,s1.heap.objs.size,s1.heap.objs.size + 1],_,_,H1,rfl,I1.kept (t' := s1.toks) kp,zkk (t1 := t1) (t2 := t2) a b _ _ _ _ _ (zm2 la lb) (Nat.ne_of_lt la) (Nat.ne_of_lt (Nat.lt_succ_of_lt lb)),⟨hz,hi,⟨_,_,ho⟩,zju o1,zju o2⟩,fun c hc => ?_,q⟩
  have hge : s1.heap.objs.size≤c := by
    simp only [List.mem_cons,List.not_mem_nil,or_false] at hc
    exact zoy hc
  exact I1.fpOk hge (I1.hok.fresh hge)
theorem zmK (hg : Gl X "zip") (hm : X.mg "zip" = none) (ha : SE X g m e1 fa) (hb : SE X g m e2 fb) (hs : starEach [e1,e2] X.env = (false,eval e1 X.env)::starEach [e2] X.env := by rfl) (hs2 : starEach [e2] X.env = (false,eval e2 X.env)::starEach [] X.env := by rfl) (hpl : (backTo pos (starEach [e2] X.env)).any (·.1) = false := by rfl) : SIt X g m (.Tuple elts kk pos2) (.Call (.Name "zip" p) [e1,e2] [] pos) (fZip fa fb) := by
  refine PI.imp (znK hg hm ha hb hs hs2 hpl) fun σ H R ⟨r,G,si,q⟩ => ⟨r,G,si,zah (zag q) fun d q v G1 H1 w1 rv => ⟨r,G1,si.grow w1,?_⟩⟩
  refine zaO (zag q) w1 fun e q u G2 H2 w2 ru => ?_
  obtain ⟨ds,ed,q⟩ := zav (zag q)
  obtain ⟨es,ee,q⟩ := zav (zag q)
  have rv2 := rv.mono w2.ge
  have one : ∀ {v : V} {d : D} {ds : List D},RG X.K G2 v d→zbk d = some ds→∃ (t : Bool) (a : Addr),v = .ref a∧(∃ xs,sqK X.K t a H2 xs)∧∀ G H,Gle G2 G→GOk X.K G H→∃ xs,sqK X.K t a H xs∧RGs X.K G xs ds := by
    intro v d ds rv ed
    cases d with
    | lst ds' =>
      cases ed
      obtain ⟨a,xs,rfl,s,rs⟩ := rv.lst w2.ok
      refine ⟨false,a,rfl,⟨xs,s⟩,fun G H le gk => ?_⟩
      obtain ⟨b,ys,e,s',r'⟩ := (rv.mono le).lst gk
      cases e
      exact ⟨ys,s',r'⟩
    | tup ds' =>
      cases ed
      obtain ⟨a,xs,rfl,s,rs⟩ := rv.tup w2.ok
      refine ⟨true,a,rfl,⟨xs,s⟩,fun G H le gk => ?_⟩
      obtain ⟨b,ys,e,s',r'⟩ := (rv.mono le).tup gk
      cases e
      exact ⟨ys,s',r'⟩
    | _ => cases ed
  obtain ⟨t1,a,rfl,x1,y1⟩ := one rv2 ed
  obtain ⟨t2,b,rfl,x2,y2⟩ := one ru ee
  exact ⟨t1,t2,a,b,rfl,rfl,x1,x2,q _ G2 H2 (w1.trans w2) (zm3 y1 y2)⟩
end
end DL
end
section
namespace DL
open PySem PySem.Spec PyProof.Rows L2
noncomputable def kyD : Key→D
  | .inl i => .int i
  | .inr x => .str x
theorem zmB (k : Key) : Scl (kV k) (kyD k) := by
  cases k with
  | inl i => exact .int i
  | inr x => exact .str x
theorem zok {P : Program} {w : World} {k : Key} {u : Value} (h : (zbi P w).is k u = true) : RelV (kV k) u := by
  rcases keyIs_shape h with ⟨i,t,rfl,rfl⟩ | ⟨x,t,rfl,rfl⟩
  · exact ⟨t,rfl⟩
  · exact ⟨t,rfl⟩
section
variable {X : Cx} {pins : List (Addr × Obj)} {σ : L2.St} {H : Hp} {s : Shared} {a : Addr} {ob : Obj} {ps : List (Key × V)}
end
section
variable {X : Cx} {g : GE} {m m' m1 mb : List Md} {tg e a b c iter : Expr} {f fa fb : FE} {p : FQ} {pos pos' : Pos} {ro : Bool} {fl : Rho → Res (List D)} {sts : List Stmt} {s1 : FS}
structure Had (g : GE) (a : Addr) (d : D) (u : HO) : Prop where
  h0 : ∀ o,g.h0 a = some o→o = u
  gh : ∀ x,g.gh a = some x→x = d
  gf : g.h0 a≠none→g.gh a = some d
end
end DL
end
section
namespace DL
open PySem PySem.Spec PyProof.Rows L2
section
variable {X : Cx} {g : GE} {m : List Md} {e o : Expr} {es : List Expr} {fo : FE} {fl : Rho → Res (List D)} {pos p pos' : Pos}
theorem zfj (hc : X.calm = true) : zc4 X (.type "list") (fun xs H Q => ∃ d kvs,xs = [.ref d]∧Rd H d (.dK kvs)∧∀ l,H l = none→Q (.ref l) (upd H l (.lst (kvs.map fun kv => kV kv.1)))) := by
  intro pins s σ H xs us Q I r h
  obtain ⟨d,kvs,rfl,hd,q⟩ := h
  obtain ⟨u,rfl,rx⟩ := zd3 r
  cases rx
  obtain ⟨z1,ns1,vs1,r1,dd1⟩ := (show zbe X.prog X.w H s.heap d (.dK kvs) from hd.ok I.hok)
  obtain ⟨ep,hat⟩ := dd1.dictAt
  have l1 := Paired.length r1
  refine PySem.W.kdl_call (PySem.W.kdl_dict (knd := zbi X.prog X.w) (kvs := vs1) (ep := ep) ns1) (I.ok.hd hc) hat (by omega) fun h' tk acc c' kp hS hacc => ?_
  have hvals : Vals (kvs.map fun kv => kV kv.1) acc.toList := by
    refine zcJ (by have h1 := hacc.1; have h2 : acc.toList.length = acc.size := Array.length_toList; rw [List.length_map]; omega) fun j v u e1 e2 => ?_
    obtain ⟨k,x,hk,hi⟩ := hacc.2 j u (by rw [← Array.getElem?_toList]; exact e2)
    rw [List.getElem?_map] at e1
    cases e3 : kvs[j]? with
    | none => rw [e3] at e1; cases e1
    | some kv =>
      rw [e3] at e1
      cases e1
      obtain ⟨kv',e4,e5⟩ := DL.Paired.get r1 hk
      rw [e3] at e4
      cases e4
      have e6 : kv.1 = k := e5.1
      show L2.RelV (kV kv.1) u
      rw [e6]
      exact zok hi
  refine ⟨.ref s.heap.objs.size,_,I.laid (t' := tk) kp (Nat.le_refl _) (show zbe X.prog X.w _ h' _ (.lst (kvs.map fun kv => kV kv.1)) from ⟨by rw [List.length_map]; exact z1,acc.toList,c',hvals,by rw [Array.toArray_toList]; exact hS⟩),rfl,q _ (I.hok.fresh (Nat.le_refl _))⟩
noncomputable def zjl : D→Option D
  | .dic kvs => some (.lst (kvs.map fun kv => kyD kv.1))
  | _ => none
theorem zof {K : PySem.W.Frag} {G : GH} : ∀ {ps : List (Key × V)} {kvs : List (Key × D)},RKs K G ps kvs→RGs K G (ps.map fun kv => kV kv.1) (kvs.map fun kv => kyD kv.1)
  | _,_,.nil => .nil
  | p::_,q::_,.cons r t => .cons (show RG K G (kV p.1) (kyD q.1) by rw [r.1]; exact .scl (zmB _)) (zof t)
theorem zn3 (hc : X.calm = true) (hg : Gl X "list") (hm : X.mg "list" = none) (ho : SB X g m o fo) (hs2 : starEach [o] X.env = (false,eval o X.env)::starEach [] X.env := by rfl) :
    SO X g m (.Call (.Name "list" pos') [o] [] pos) (f1 fo zjl) := by
  refine PE.imp (zcC (zfj hc) hg hm rfl (zbB ho zdy hs2) (by decide) (by decide) hs2 rfl) fun σ H Q ⟨r,G,si,q⟩ => ⟨r,G,si,zah (zag q) fun d q1 v G1 H1 w1 r1 => ?_⟩
  obtain ⟨d',e,q2⟩ := zav q1
  cases d with
  | dic kvs =>
    cases e
    obtain ⟨a,ps,rfl,hs,rs⟩ := r1.dic w1.ok
    refine ⟨a,ps,rfl,hs,fun l hl => ?_⟩
    have w3 := Grow.new w1.ok hl (.lst (ps.map fun kv => kV kv.1))
    exact q2 l G1 _ (w1.trans w3) (by
      cases q : H l with
      | none => rfl
      | some u => rw [w1.he _ _ q] at hl; cases hl) ⟨w1.ok.isN hl,.lst zar (zof rs)⟩
  | _ => cases e
end
end DL
end
section
namespace Rg
theorem zdY {α : Type} [DecidableEq α] : ∀ {l m : List α},l.Nodup→(∀ x∈l,x∈m)→l.length≤m.length
  | [],_,_,_ => Nat.zero_le _
  | a::l,m,hn,hs => by
    have hn' := List.nodup_cons.mp hn
    have h1 := zdY (l := l) (m := m.erase a) hn'.2 fun x hx => by
      have hxa : x≠a := by rintro rfl; exact hn'.1 hx
      exact (List.mem_erase_of_ne hxa).mpr (hs x (List.mem_cons_of_mem _ hx))
    have ha : a∈m := hs a List.mem_cons_self
    rw [List.length_erase_of_mem ha] at h1
    have := List.length_pos_of_mem ha
    simp only [List.length_cons]; omega
theorem zlA {α : Type} {p : α→Bool} {l : List α} (h : l.Nodup) : (l.filter p).Nodup := List.Pairwise.filter p h
structure S where
  line : List Nat
  things : List Nat
section
variable (W : Nat → List Nat) (O : Nat → Option Nat)
noncomputable def best (row things : List Nat) : Nat := (row.find? fun x => decide (x∈things)).getD 0
noncomputable def tgt (s : S) (h : Nat) : Nat := best (W h) s.things
noncomputable def pt (s : S) (x : Nat) : Nat := (s.line.find? fun h => decide (O h = some x)).getD (s.line.headD 0)
noncomputable def nxt (s : S) (h : Nat) : Nat := pt O s (tgt W s h)
noncomputable def zpG (s : S) (C : List Nat) : S := ⟨s.line.filter fun h => decide (h∉C),s.things.filter fun x => decide (x∉C.map (tgt W s))⟩
noncomputable def it {α : Type} (f : α→α) : Nat→α→α
  | 0,x => x
  | n + 1,x => it f n (f x)
theorem zjt {α : Type} (f : α→α) : ∀ (a b : Nat) (x : α),it f (a + b) x = it f b (it f a x)
  | 0,b,x => by rw [Nat.zero_add]; rfl
  | a + 1,b,x => by rw [Nat.add_right_comm]; exact zjt f a b (f x)
theorem zg0 {α : Type} (f : α→α) (n : Nat) (x : α) : it f (n + 1) x = f (it f n x) := zjt f n 1 x
structure Ok (s : S) : Prop where
  nl : s.line.Nodup
  nt : s.things.Nodup
  le : s.line.length≤s.things.length
  row : ∀ h∈s.line,∀ x∈s.things,x∈W h
  inj : ∀ h k x,O h = some x→O k = some x→h = k
  own : ∀ h∈s.line,∀ x,O h = some x→x∈s.things
structure Cyc (s : S) (C : List Nat) : Prop where
  sub : ∀ h∈C,h∈s.line
  cl : ∀ h∈C,nxt W O s h∈C
  per : ∀ h∈C,∃ k,it (nxt W O s) (k + 1) h = h
variable {W O}
theorem zhI {row things : List Nat} (h : ∃ x∈row,x∈things) : best row things∈things := by
  unfold best
  cases e : row.find? fun x => decide (x∈things) with
  | none =>
    obtain ⟨x,h1,h2⟩ := h
    have := List.find?_eq_none.mp e x h1
    simp [h2] at this
  | some x => have := List.find?_some e; simpa using this
variable {s : S}
theorem znG (k : Ok W O s) {h x : Nat} (hh : h∈s.line) (ho : O h = some x) : pt O s x = h := by
  unfold pt
  cases e : s.line.find? fun h => decide (O h = some x) with
  | none =>
    have := List.find?_eq_none.mp e h hh
    simp [ho] at this
  | some y =>
    have := List.find?_some e
    simp only [decide_eq_true_eq] at this
    exact k.inj y h x this ho
theorem Cyc.it_mem {C : List Nat} (c : Cyc W O s C) {h : Nat} (hh : h∈C) : ∀ n,it (nxt W O s) n h∈C := by
  intro n
  induction n generalizing h with
  | zero => exact hh
  | succ n ih => exact ih (c.cl h hh)
theorem zoF {p q : Nat→Bool} {l : List Nat} (h : ∀ x∈l,p x = q x) : l.filter p = l.filter q := by
  induction l with
  | nil => rfl
  | cons a l ih =>
    rw [List.filter_cons,List.filter_cons,h a List.mem_cons_self,ih fun x hx => h x (List.mem_cons_of_mem _ hx)]
inductive TTC (W : Nat→List Nat) (O : Nat→Option Nat) (a : Nat→Nat) : S→Prop where
  | nil {s : S} : s.line = []→TTC W O a s
  | step {s : S} (C : List Nat) : Cyc W O s C→(∀ h∈C,a h = tgt W s h)→TTC W O a (zpG W s C)→TTC W O a s
end
end Rg
end
section
namespace Rg
section
variable {W : Nat → List Nat} {O : Nat → Option Nat} {s : S} {a : Nat → Nat}
noncomputable def orb (f : Nat→Nat) (x n : Nat) : List Nat := (List.range n).map fun i => it f i x
theorem zhx (f : Nat→Nat) (x n : Nat) : orb f x (n + 1) = orb f x n++[it f n x] := by
  unfold orb; rw [List.range_succ,List.map_append]; rfl
theorem zml (f : Nat→Nat) (x n : Nat) : (orb f x n).length = n := by simp [orb]
end
end Rg
end
section
namespace Rg
section
variable {W W' : Nat → List Nat} {O : Nat → Option Nat} {s : S} {a b : Nat → Nat}
theorem zhJ {row T : List Nat} {x : Nat} (hx : x∈T) (hr : x∈row) : row.idxOf (best row T)≤row.idxOf x := by
  unfold best
  cases e : row.find? fun y => decide (y∈T) with
  | none => have := List.find?_eq_none.mp e x hr; simp [hx] at this
  | some y =>
    obtain ⟨hy,as,bs,rfl,h2⟩ := List.find?_eq_some_iff_append.mp e
    have n1 : ∀ z∈as,z∉T := fun z hz => by have := h2 z hz; simpa using this
    simp only [decide_eq_true_eq] at hy
    have hya : y∉as := fun q => n1 y q hy
    have hxa : x∉as := fun q => n1 x q hx
    simp only [Option.getD_some]
    rw [List.idxOf_append,List.idxOf_append,if_neg hya,if_neg hxa]
    simp
theorem zo3 {l : List Nat} {h : Nat} (hn : l.Nodup) : l.erase h = l.filter fun x => decide (x≠h) := by
  induction l with
  | nil => rfl
  | cons b l ih =>
    have hn' := List.nodup_cons.mp hn
    by_cases q : b = h
    · subst q
      rw [List.erase_cons_head,List.filter_cons,if_neg (by simp)]
      symm
      rw [List.filter_eq_self]
      intro x hx
      have : x≠b := by rintro rfl; exact hn'.1 hx
      simpa using this
    · rw [List.erase_cons_tail (by simpa using q),List.filter_cons,if_pos (by simpa using q),ih hn'.2]
noncomputable def ziR (f : Nat→Nat) : Nat→List Nat→Nat→List Nat × Nat
  | 0,path,here => (path,here)
  | n + 1,path,here => if here∈path then (path,here) else ziR f n (path++[here]) (f here)
theorem zm0 {f : Nat→Nat} {x : Nat} {l : List Nat} (hcl : ∀ h∈l,f h∈l) (hx : x∈l) : ∀ (n i : Nat),(orb f x i).Nodup→l.length < n + i→∃ k,(orb f x k).Nodup∧it f k x∈orb f x k∧ziR f n (orb f x i) (it f i x) = (orb f x k,it f k x) := by
  have mem : ∀ i,it f i x∈l := by
    intro i
    induction i with
    | zero => exact hx
    | succ i ih => rw [zg0]; exact hcl _ ih
  intro n
  induction n with
  | zero =>
    intro i hn hl
    have := zdY hn (m := l) fun y hy => by obtain ⟨j,_,rfl⟩ := List.mem_map.mp hy; exact mem j
    rw [zml] at this; omega
  | succ n ih =>
    intro i hn hl
    unfold ziR
    by_cases q : it f i x∈orb f x i
    · rw [if_pos q]; exact ⟨i,hn,q,rfl⟩
    · rw [if_neg q,← zhx,← zg0 f]
      refine ih (i + 1) ?_ (by omega)
      rw [zhx]
      refine List.nodup_append.mpr ⟨hn,by simp,fun y hy z hz => ?_⟩
      rw [List.mem_singleton] at hz
      rw [hz]
      rintro rfl
      exact q hy
theorem zo1 (f : Nat→Nat) (x : Nat) : ∀ (k i : Nat),i≤k→(orb f x k).drop i = orb f (it f i x) (k - i) := by
  intro k i h
  refine List.ext_getElem? fun j => ?_
  unfold orb
  rw [List.getElem?_drop,List.getElem?_map,List.getElem?_map]
  by_cases hj : i + j < k
  · rw [List.getElem?_range hj,List.getElem?_range (by omega)]
    simp only [Option.map_some]
    rw [zjt]
  · rw [List.getElem?_eq_none (by simp; omega),List.getElem?_eq_none (by simp; omega)]
    rfl
end
end Rg
end
section
namespace Rg
section
variable (W : Nat → List Nat) (d : Nat → Nat)
noncomputable def zeL (hands things : List Nat) : List Nat := hands.filter fun h => decide (best (W h) things = d h)
noncomputable def beh : Nat→List Nat→List Nat→List Nat→Option (List Nat)
  | 0,_,_,_ => none
  | k + 1,hands,things,order => if hands = [] then some order else match zeL W d hands things with
    | [] => none
    | s::_ => beh k (hands.erase s) (things.erase (d s)) (order++[s])
noncomputable def Ser : List Nat→List Nat→Prop
  | [],_ => True
  | h::l,T => best (W h) T = d h∧Ser l (T.erase (d h))
variable {W d}
theorem zmW : ∀ {k : Nat} {hands T order o : List Nat},beh W d k hands T order = some o→∃ o',o = order++o'∧o'.Perm hands∧Ser W d o' T
  | 0,_,_,_,_,h => (nomatch h)
  | k + 1,hands,T,order,o,h => by
    unfold beh at h
    by_cases e : hands = []
    · rw [if_pos e] at h
      cases h
      exact ⟨[],by simp,by rw [e],trivial⟩
    · rw [if_neg e] at h
      cases q : zeL W d hands T with
      | nil => rw [q] at h; cases h
      | cons s t =>
        rw [q] at h
        have hs : s∈zeL W d hands T := by rw [q]; exact List.mem_cons_self
        obtain ⟨h1,h2⟩ := List.mem_filter.mp hs
        obtain ⟨o',e1,e2,e3⟩ := zmW h
        exact ⟨s::o',by rw [e1]; simp,(List.Perm.cons s e2).trans (List.perm_cons_erase h1).symm,by simpa using h2,e3⟩
end
end Rg
end
section
namespace Rg
section
variable {W : Nat → List Nat} {O : Nat → Option Nat} {s : S} {a b : Nat → Nat}
theorem zmJ {row : List Nat} {x y : Nat} (hx : x∈row) (hy : y∈row) (h : row.idxOf x = row.idxOf y) : x = y := by
  have h1 := List.getElem_idxOf (List.idxOf_lt_length_iff.mpr hx)
  have h2 := List.getElem_idxOf (List.idxOf_lt_length_iff.mpr hy)
  rw [← h1,← h2]
  congr 1
theorem Cyc.pre {C : List Nat} (c : Cyc W O s C) {h : Nat} (hh : h∈C) : ∃ l∈C,nxt W O s l = h := by
  obtain ⟨k,e⟩ := c.per h hh
  rw [zg0] at e
  exact ⟨_,c.it_mem hh k,e⟩
end
end Rg
end
section
namespace Rg
section
variable {W : Nat → List Nat} {O : Nat → Option Nat} {s : S} {a : Nat → Nat}
structure Chain (W : Nat→List Nat) (O : Nat→Option Nat) (s : S) (A : List Nat) : Prop where
  nd : A.Nodup
  sub : ∀ h∈A,h∈s.line
  hd : ∀ h l,A = h::l→s.line.headD 0 = h
  nx : ∀ (i : Nat) h l,A[i]? = some h→A[i + 1]? = some l→O l = some (tgt W s h)
variable {A : List Nat}
theorem Chain.at (c : Chain W O s A) {i h : Nat} (e : A[i]? = some h) : h∈A := List.mem_of_getElem? e
theorem Chain.nxt (c : Chain W O s A) (k : Ok W O s) {i h l : Nat} (e1 : A[i]? = some h) (e2 : A[i + 1]? = some l) : Rg.nxt W O s h = l :=
  znG k (c.sub l (c.at e2)) (c.nx i h l e1 e2)
theorem Chain.take (c : Chain W O s A) {s' : S} (i : Nat) (hl : ∀ (j : Nat) h,j < i→A[j]? = some h→h∈s'.line) (hh : ∀ h l,A = h::l→0 < i→s'.line.headD 0 = h) (ht : ∀ (j : Nat) h l,j + 1 < i→A[j]? = some h→A[j + 1]? = some l→tgt W s' h = tgt W s h) : Chain W O s' (A.take i) := by
  refine ⟨c.nd.sublist (List.take_sublist _ _),fun h hm => ?_,fun h l e => ?_,fun j h l e1 e2 => ?_⟩
  · obtain ⟨j,hj⟩ := List.getElem?_of_mem hm
    rw [List.getElem?_take] at hj
    split at hj
    · rename_i q; exact hl j h q hj
    · cases hj
  · cases i with
    | zero => cases e
    | succ i =>
      cases A with
      | nil => cases e
      | cons b t => cases e; exact hh _ _ rfl (by omega)
  · rw [List.getElem?_take] at e1 e2
    split at e1
    · split at e2
      · rename_i q1 q2
        rw [ht j h l q2 e1 e2]; exact c.nx j h l e1 e2
      · cases e2
    · cases e1
end
end Rg
end
section
namespace Rg
end Rg
end
section
namespace Rg
section
variable {W : Nat → List Nat} {O : Nat → Option Nat} {a : Nat → Nat} {f : Nat → Nat}
end
end Rg
end
section
namespace Rg
section
variable {W : Nat → List Nat} {d : Nat → Nat}
noncomputable def lk (W : Nat→List Nat) (h x y : Nat) : Prop := (W h).idxOf x < (W h).idxOf y
instance (W : Nat→List Nat) (h x y : Nat) : Decidable (lk W h x y) := by unfold lk; infer_instance
theorem ziw : ∀ {o T : List Nat},Ser W d o T→∀ U h V,o = U++h::V→∀ x,x∈T→x∉U.map d→x∈W h→(W h).idxOf (d h)≤(W h).idxOf x
  | [],T,_,U,h,V,e,_,_,_,_ => by simp at e
  | a::o,T,s,U,h,V,e,x,hx,hn,hr => by
    cases U with
    | nil =>
      rw [List.nil_append] at e
      cases e
      rw [← s.1]
      exact zhJ hx hr
    | cons b U =>
      rw [List.cons_append] at e
      cases e
      simp only [List.map_cons,List.mem_cons,not_or] at hn
      exact ziw s.2 U h V rfl x ((List.mem_erase_of_ne hn.1).mpr hx) hn.2 hr
theorem zhD {C : List Nat} : ∀ {o : List Nat},(∃ h∈o,h∈C)→∃ U h V,o = U++h::V∧h∈C∧∀ u∈U,u∉C
  | [],h => by obtain ⟨_,h1,_⟩ := h; cases h1
  | a::o,h => by
    by_cases c : a∈C
    · exact ⟨[],a,o,rfl,c,fun _ z => (nomatch z)⟩
    · obtain ⟨b,b1,b2⟩ := h
      rcases List.mem_cons.mp b1 with rfl | b1
      · exact absurd b2 c
      · obtain ⟨U,k,V,e,e2,e3⟩ := zhD ⟨b,b1,b2⟩
        exact ⟨a::U,k,V,by rw [e]; rfl,e2,fun u hu => by
          rcases List.mem_cons.mp hu with rfl | hu
          · exact c
          · exact e3 u hu⟩
theorem zl0 {o T C : List Nat} (s : Ser W d o T) (hne : C≠[]) (hC : ∀ h∈C,h∈o) (he : ∀ h∈C,∃ l∈C,lk W h (d l) (d h)) (hm : ∀ h∈o,d h∈T) (hi : ∀ h∈o,∀ l∈o,d h = d l→h = l) (hr : ∀ h∈o,∀ x∈T,x∈W h) : False := by
  obtain ⟨c,hc⟩ := List.exists_mem_of_ne_nil _ hne
  obtain ⟨U,h,V,e,h1,h2⟩ := zhD (C := C) (o := o) ⟨c,hC c hc,hc⟩
  obtain ⟨l,l1,l2⟩ := he h h1
  have hho := hC h h1
  have hlo := hC l l1
  have := ziw s U h V e (d l) (hm l hlo) (fun z => by
    obtain ⟨u,u1,u2⟩ := List.mem_map.mp z
    have huo : u∈o := by rw [e]; exact List.mem_append_left _ u1
    have := hi u huo l hlo u2
    subst this
    exact h2 u u1 l1) (hr h hho _ (hm l hlo))
  unfold lk at l2
  omega
theorem zl1 {o T : List Nat} {h x : Nat} (s : Ser W d o T) (hh : h∈o) (hx : x∈T) (hn : ∀ l∈o,d l≠x) (hl : lk W h x (d h)) (hr : x∈W h) : False := by
  obtain ⟨U,V,e⟩ := List.append_of_mem hh
  have := ziw s U h V e x hx (fun z => by
    obtain ⟨u,u1,u2⟩ := List.mem_map.mp z
    exact hn u (by rw [e]; exact List.mem_append_left _ u1) u2) hr
  unfold lk at hl
  omega
theorem zoT : ∀ {k : Nat} {hands T order : List Nat},(∀ h∈hands,d h∈T)→T.Nodup→hands.Nodup→hands.length < k→(∀ h∈hands,∀ x∈T,x∈W h)→(∀ h∈hands,∀ x∈T,(∀ l∈hands,d l≠x)→¬ lk W h x (d h))→(∀ C : List Nat,C≠[]→(∀ h∈C,h∈hands)→¬ ∀ h∈C,∃ l∈C,lk W h (d l) (d h))→(∀ h∈hands,∀ l∈hands,d h = d l→h = l)→beh W d k hands T order≠none
  | 0,_,_,_,_,_,_,hk,_,_,_,_ => absurd hk (Nat.not_lt_zero _)
  | k + 1,hands,T,order,hm,hT,hn,hk,hr,hl,hc,hi => by
    unfold beh
    by_cases e : hands = []
    · rw [if_pos e]; simp
    · rw [if_neg e]
      have hs : zeL W d hands T≠[] := fun z => by
        refine hc hands e (fun h hh => hh) fun h hh => ?_
        have hb : best (W h) T∈T := zhI ⟨d h,hr h hh _ (hm h hh),hm h hh⟩
        have hbr := hr h hh _ hb
        have hne : best (W h) T≠d h := fun q => by
          have : h∈zeL W d hands T := List.mem_filter.mpr ⟨hh,by simpa using q⟩
          rw [z] at this; cases this
        have hle := zhJ (hm h hh) (hr h hh _ (hm h hh))
        have hlt : lk W h (best (W h) T) (d h) := by
          unfold lk
          rcases Nat.lt_or_ge ((W h).idxOf (best (W h) T)) ((W h).idxOf (d h)) with q | q
          · exact q
          · exact absurd (zmJ hbr (hr h hh _ (hm h hh)) (by omega)) hne
        by_cases q : ∀ l∈hands,d l≠best (W h) T
        · exact absurd hlt (hl h hh _ hb q)
        · simp only [Classical.not_forall,Classical.not_not] at q
          obtain ⟨l,l1,l2⟩ := q
          exact ⟨l,l1,by rw [l2]; exact hlt⟩
      cases z : zeL W d hands T with
      | nil => exact absurd z hs
      | cons s t =>
        have hsm : s∈zeL W d hands T := by rw [z]; exact List.mem_cons_self
        have hso : s∈hands := (List.mem_filter.mp hsm).1
        have sub : ∀ h,h∈hands.erase s→h∈hands := fun h hh => List.mem_of_mem_erase hh
        refine zoT (fun h hh => ?_) (hT.erase _) (hn.erase _) ?_ (fun h hh x hx => hr h (sub h hh) x (List.mem_of_mem_erase hx)) (fun h hh x hx hno => hl h (sub h hh) x (List.mem_of_mem_erase hx) fun l hl' q => ?_) (fun C hC hs => hc C hC fun h hh => sub h (hs h hh)) (fun h hh l hl' => hi h (sub h hh) l (sub l hl'))
        · have hne : h≠s := ((List.Nodup.mem_erase_iff hn).mp hh).1
          exact (List.mem_erase_of_ne fun q => hne (hi h (sub h hh) s hso q)).mpr (hm h (sub h hh))
        · have := List.length_erase_of_mem hso
          have := List.length_pos_of_mem hso
          omega
        · by_cases ls : l = s
          · subst ls
            subst q
            exact ((List.Nodup.mem_erase_iff hT).mp hx).1 rfl
          · exact hno l ((List.mem_erase_of_ne ls).mpr hl') q
noncomputable def env (W : Nat→List Nat) (d : Nat→Nat) (h : Nat) (others : List Nat) : List Nat := others.filter fun o => decide (lk W h (d o) (d h))
end
end Rg
end
section
namespace Fq
theorem zmM (t : Int) {b : Nat} (h : 0 < b) : 0 < Int.gcd t b := Nat.pos_of_ne_zero fun z => by
  have := Int.gcd_eq_zero_iff.mp z
  omega
noncomputable def low (t : Int) (b : Nat) : Int × Nat := (t / (Int.gcd t b : Int),b / Int.gcd t b)
noncomputable def Same (a b : Int × Nat) : Prop := a.1 * (b.2 : Int) = b.1 * (a.2 : Int)
theorem zjg (t : Int) {b : Nat} (h : 0 < b) : 0 < (low t b).2 := by
  have h1 : Int.gcd t b ∣ b := Int.natCast_dvd_natCast.mp (Int.gcd_dvd_right t b)
  exact Nat.div_pos (Nat.le_of_dvd h h1) (zmM t h)
theorem zob (t : Int) (b : Nat) : (low t b).2≤b := Nat.div_le_self _ _
theorem zmx (t : Int) (b : Nat) : (low t b).1.natAbs≤t.natAbs := Int.natAbs_ediv_le_natAbs _ _
theorem zkL (t : Int) (b : Nat) : Same (low t b) (t,b) := by
  unfold Same low
  have h1 : (Int.gcd t b : Int) ∣ t := Int.gcd_dvd_left t b
  have h2 : (Int.gcd t b : Int) ∣ (b : Int) := Int.gcd_dvd_right t b
  obtain ⟨x,hx⟩ := h1
  obtain ⟨y,hy⟩ := h2
  generalize hg : (Int.gcd t b : Int) = g at hx hy
  show t / g * (b : Int) = t * ((b / Int.gcd t b : Nat) : Int)
  rw [Int.natCast_ediv,hg]
  by_cases z : g = 0
  · subst z
    rw [Int.zero_mul] at hx hy
    rw [hx,hy]; simp
  · rw [hx,hy,Int.mul_ediv_cancel_left _ z,Int.mul_ediv_cancel_left _ z]
    rw [← Int.mul_assoc,Int.mul_comm x g]
structure Bd (k : Nat) (a : Int × Nat) : Prop where
  pos : 0 < a.2
  bot : a.2 < 2 ^ k
  top : a.1.natAbs < 2 ^ k
theorem Bd.low {k : Nat} {t : Int} {b : Nat} (h : 0 < b) (h1 : b < 2 ^ k) (h2 : t.natAbs < 2 ^ k) : Bd k (low t b) :=
  ⟨zjg t h,Nat.lt_of_le_of_lt (zob t b) h1,Nat.lt_of_le_of_lt (zmx t b) h2⟩
noncomputable def zpI (a b : Int × Nat) : Bool := decide (a.1 * (b.2 : Int) < b.1 * (a.2 : Int))
end Fq
end
section
namespace Rg
end Rg
namespace Fq
noncomputable def W (N : Nat) (a : Int × Nat) (S : Nat) : Prop := 0 < a.2∧a.1 * (N : Int) = (S : Int) * (a.2 : Int)
theorem W.low {N c : Nat} (hN : 0 < N) : W N (low c N) c := by
  have := zkL (c : Int) N
  exact ⟨zjg _ hN,this⟩
theorem W.ge {N S S' : Nat} {a b : Int × Nat} (hN : 0 < N) (ha : W N a S) (hb : W N b S') (h : S'≤S) : zpI a b = false := by
  refine decide_eq_false fun hlt => ?_
  have h1 := Int.mul_lt_mul_of_pos_right hlt (show (0 : Int) < (N : Int) by omega)
  have e1 : a.1 * (b.2 : Int) * (N : Int) = (S : Int) * ((a.2 : Int) * (b.2 : Int)) := by
    rw [Int.mul_assoc,Int.mul_comm (b.2 : Int),← Int.mul_assoc,ha.2,Int.mul_assoc]
  have e2 : b.1 * (a.2 : Int) * (N : Int) = (S' : Int) * ((a.2 : Int) * (b.2 : Int)) := by
    rw [Int.mul_assoc,Int.mul_comm (a.2 : Int),← Int.mul_assoc,hb.2,Int.mul_assoc,Int.mul_comm (b.2 : Int)]
  rw [e1,e2] at h1
  have hp : (0 : Int)≤(a.2 : Int) * (b.2 : Int) := by
    rw [← Int.natCast_mul]; exact Int.natCast_nonneg _
  have := Int.lt_of_mul_lt_mul_right h1 hp
  omega
end Fq
end
section
namespace Fq
noncomputable def DD : Nat := 420 ^ 7
theorem DD_pos : 0 < DD := by decide
end Fq
namespace Et
open Rg
noncomputable def zlD : List Nat→Nat
  | [] => 0
  | x::l => l.foldl (fun m y => if y < m then y else m) x
theorem zjE : ∀ (l : List Nat) (m : Nat),l.foldl (fun m y => if y < m then y else m) m≤m∧(∀ y∈l,l.foldl (fun m y => if y < m then y else m) m≤y)∧(l.foldl (fun m y => if y < m then y else m) m = m∨l.foldl (fun m y => if y < m then y else m) m∈l)
  | [],m => ⟨Nat.le_refl _,fun _ h => (nomatch h),.inl rfl⟩
  | y::l,m => by
    rw [List.foldl_cons]
    obtain ⟨h1,h2,h3⟩ := zjE l (if y < m then y else m)
    have hm : (if y < m then y else m)≤m∧(if y < m then y else m)≤y := by split <;> omega
    refine ⟨Nat.le_trans h1 hm.1,fun z hz => ?_,?_⟩
    · rcases List.mem_cons.mp hz with rfl | hz
      · exact Nat.le_trans h1 hm.2
      · exact h2 z hz
    · rcases h3 with h3 | h3
      · rw [h3]
        by_cases hy : y < m
        · rw [if_pos hy]; exact .inr List.mem_cons_self
        · rw [if_neg hy]; exact .inl rfl
      · exact .inr (List.mem_cons_of_mem _ h3)
theorem zjj {l : List Nat} (h : l≠[]) : zlD l∈l := by
  cases l with
  | nil => exact absurd rfl h
  | cons x l =>
    obtain ⟨_,_,h3⟩ := zjE l x
    rcases h3 with h3 | h3
    · show l.foldl (fun m y => if y < m then y else m) x∈_
      rw [h3]; exact List.mem_cons_self
    · exact List.mem_cons_of_mem _ h3
variable (W : Nat → List Nat) (n : Nat)
noncomputable def tgs (T : List Nat) : List Nat := (List.range n).map fun h => best (W h) T
noncomputable def spn (T : List Nat) (a : Nat→Nat) : Nat := zlD ((tgs W n T).map fun x => a x / (tgs W n T).count x)
noncomputable def aft (T : List Nat) (a : Nat→Nat) (x : Nat) : Nat := a x - (tgs W n T).count x * spn W n T a
noncomputable def lft (T : List Nat) (a : Nat→Nat) : List Nat := T.filter fun x => decide (aft W n T a x≠0)
structure Ok (T : List Nat) (a : Nat→Nat) : Prop where
  nd : T.Nodup
  lt : ∀ x∈T,x < n
  pos : ∀ x∈T,0 < a x
  dv : ∀ x∈T,420 ^ T.length ∣ a x
variable {W n}
variable {T : List Nat} {a : Nat → Nat}
structure Rw (W : Nat→List Nat) (n : Nat) : Prop where
  n1 : 1≤n
  n7 : n≤7
  has : ∀ h x,h < n→x < n→x∈W h
theorem zng (R : Rw W n) (S : Ok n T a) (hT : T≠[]) {h : Nat} (hh : h < n) : best (W h) T∈T := by
  have hp := List.length_pos_iff.mpr hT
  exact zhI ⟨T[0],R.has h _ hh (S.lt _ (List.getElem_mem _)),List.getElem_mem _⟩
theorem zir : (tgs W n T).length = n := by unfold tgs; simp
theorem zgO (R : Rw W n) (S : Ok n T a) (hT : T≠[]) {x : Nat} (h : x∈tgs W n T) : x∈T := by
  obtain ⟨k,hk,rfl⟩ := List.mem_map.mp h
  exact zng R S hT (List.mem_range.mp hk)
theorem zlP (x : Nat) : (tgs W n T).count x≤n := by
  have := List.count_le_length (a := x) (l := tgs W n T)
  rw [zir] at this; exact this
theorem zlN {c : Nat} (h1 : 1≤c) (h7 : c≤7) : c ∣ 420 := by
  match c,h1,h7 with
  | 1,_,_ => decide
  | 2,_,_ => decide
  | 3,_,_ => decide
  | 4,_,_ => decide
  | 5,_,_ => decide
  | 6,_,_ => decide
  | 7,_,_ => decide
theorem zjV (R : Rw W n) (S : Ok n T a) (hT : T≠[]) {x : Nat} (hx : x∈tgs W n T) : (tgs W n T).count x ∣ a x∧0 < (tgs W n T).count x := by
  have h1 : 0 < (tgs W n T).count x := List.count_pos_iff.mpr hx
  have h2 := zlP (W := W) (n := n) (T := T) x
  have hp := List.length_pos_iff.mpr hT
  have hd := S.dv x (zgO R S hT hx)
  obtain ⟨k,hk⟩ : ∃ k,T.length = k + 1 := ⟨T.length - 1,by omega⟩
  rw [hk,Nat.pow_succ] at hd
  exact ⟨Nat.dvd_trans (zlN h1 (by have := R.n7; omega)) (Nat.dvd_trans (Nat.dvd_mul_left _ _) hd),h1⟩
theorem zlm (R : Rw W n) : ∃ x∈tgs W n T,spn W n T a = a x / (tgs W n T).count x := by
  have hne : (tgs W n T).map (fun x => a x / (tgs W n T).count x)≠[] := by
    intro e
    have h1 := congrArg List.length e
    rw [List.length_map,zir] at h1
    have h2 := R.n1
    rw [List.length_nil] at h1; omega
  obtain ⟨x,h1,h2⟩ := List.mem_map.mp (zjj hne)
  exact ⟨x,h1,h2.symm⟩
theorem znl (R : Rw W n) (S : Ok n T a) (hT : T≠[]) : 420 ^ (T.length - 1) ∣ spn W n T a := by
  obtain ⟨x,h1,h2⟩ := zlm (T := T) (a := a) R
  have hp := List.length_pos_iff.mpr hT
  have hd := S.dv x (zgO R S hT h1)
  obtain ⟨hc,hc0⟩ := zjV R S hT h1
  have hc7 := zlN (c := (tgs W n T).count x) hc0 (by have := zlP (W := W) (n := n) (T := T) x; have := R.n7; omega)
  obtain ⟨k,hk⟩ : ∃ k,T.length = k + 1 := ⟨T.length - 1,by omega⟩
  rw [hk,Nat.pow_succ] at hd
  obtain ⟨q,hq⟩ := hd
  obtain ⟨m,hm⟩ := hc7
  rw [h2,hk,Nat.add_sub_cancel,hq]
  generalize (tgs W n T).count x = c at *
  refine ⟨m * q,?_⟩
  rw [hm]
  have : 420 ^ k * (c * m) * q = c * (420 ^ k * (m * q)) := by simp only [Nat.mul_assoc,Nat.mul_comm,Nat.mul_left_comm]
  rw [← hm] at this ⊢
  rw [hm] at this ⊢
  rw [this,Nat.mul_div_cancel_left _ hc0]
theorem zoc (R : Rw W n) (S : Ok n T a) (hT : T≠[]) : (lft W n T a).length < T.length := by
  obtain ⟨x,h1,h2⟩ := zlm (T := T) (a := a) R
  obtain ⟨hc,hc0⟩ := zjV R S hT h1
  have hx := zgO R S hT h1
  have h0 : aft W n T a x = 0 := by
    unfold aft
    rw [h2,Nat.mul_div_cancel' hc,Nat.sub_self]
  unfold lft
  refine Nat.lt_of_le_of_ne (List.length_filter_le _ _) fun e => ?_
  have := List.length_filter_eq_length_iff.mp e x hx
  simp [h0] at this
theorem Ok.next (R : Rw W n) (S : Ok n T a) (hT : T≠[]) : Ok n (lft W n T a) (aft W n T a) where
  nd := S.nd.sublist List.filter_sublist
  lt := fun x hx => S.lt x (List.mem_filter.mp hx).1
  pos := fun x hx => Nat.pos_of_ne_zero (by simpa using (List.mem_filter.mp hx).2)
  dv := fun x hx => by
    have hx' := (List.mem_filter.mp hx).1
    have hlt := zoc R S hT
    have h1 : 420 ^ (T.length - 1) ∣ a x := Nat.dvd_trans (Nat.pow_dvd_pow 420 (by omega)) (S.dv x hx')
    have h2 : 420 ^ (T.length - 1) ∣ (tgs W n T).count x * spn W n T a := Nat.dvd_trans (znl R S hT) (Nat.dvd_mul_left _ _)
    exact Nat.dvd_trans (Nat.pow_dvd_pow 420 (by omega)) (Nat.dvd_sub h1 h2)
theorem Ok.init (R : Rw W n) : Ok n (List.range n) fun _ => Fq.DD :=
  ⟨List.nodup_range,fun x hx => List.mem_range.mp hx,fun _ _ => Fq.DD_pos,fun _ _ => by
    rw [List.length_range]
    exact Nat.pow_dvd_pow 420 R.n7⟩
end Et
end
section
namespace Gr
variable (E : Nat → List Nat) (n : Nat)
noncomputable def elim (S : List Nat) : List Nat := S.filter fun x => (E x).any fun y => decide (y∈S)
noncomputable def core : Nat→List Nat→List Nat
  | 0,S => S
  | k + 1,S => if (elim E S).length = S.length then S else core k (elim E S)
variable {E n}
theorem elim_len (S : List Nat) : (elim E S).length≤S.length := List.length_filter_le _ _
theorem zmP {S : List Nat} (h : (elim E S).length = S.length) : ∀ x∈S,∃ y∈E x,y∈S := fun x hx => by
  have := List.length_filter_eq_length_iff.mp h x hx
  obtain ⟨y,h1,h2⟩ := List.any_eq_true.mp this
  exact ⟨y,h1,by simpa using h2⟩
theorem core_sub : ∀ (k : Nat) (S : List Nat),∀ x∈core E k S,x∈S
  | 0,S,x,h => h
  | k + 1,S,x,h => by
    unfold core at h
    by_cases e : (elim E S).length = S.length
    · rw [if_pos e] at h; exact h
    · rw [if_neg e] at h
      exact (List.mem_filter.mp (core_sub k _ x h)).1
theorem core_nd : ∀ (k : Nat) (S : List Nat),S.Nodup→(core E k S).Nodup
  | 0,S,h => h
  | k + 1,S,h => by
    unfold core
    by_cases e : (elim E S).length = S.length
    · rw [if_pos e]; exact h
    · rw [if_neg e]; exact core_nd k _ (h.sublist List.filter_sublist)
theorem core_go : ∀ (k : Nat) (S : List Nat),S.length < k→∀ x∈core E k S,∃ y∈E x,y∈core E k S
  | 0,S,h => absurd h (by omega)
  | k + 1,S,h => by
    unfold core
    by_cases e : (elim E S).length = S.length
    · rw [if_pos e]; exact zmP e
    · rw [if_neg e]
      have := elim_len (E := E) S
      exact core_go k _ (by omega)
variable (E) in
noncomputable def rel1 (t : Nat→Nat) (x y : Nat) : Nat→Nat := fun z => if z = y then max (t y) (t x + 1) else t z
variable (E) in
noncomputable def relx (t : Nat→Nat) (x : Nat) : Nat→Nat := (E x).foldl (fun t y => rel1 t x y) t
variable (E) in
noncomputable def rnd (l : List Nat) (t : Nat→Nat) : Nat→Nat := l.foldl (relx E) t
variable (E) (n) in
noncomputable def rnds : Nat→(Nat→Nat)→Nat→Nat
  | 0,t => t
  | k + 1,t => rnds k (rnd E (List.range n) t)
theorem zfJ (t : Nat→Nat) (x y z : Nat) : t z≤rel1 t x y z := by
  unfold rel1
  by_cases h : z = y
  · rw [if_pos h,h]; omega
  · rw [if_neg h]; exact Nat.le_refl _
structure Va (E : Nat→List Nat) (n : Nat) (b : Nat→Nat) (k : Nat) (done : List (Nat × Nat)) (t : Nat→Nat) : Prop where
  v : ∀ x,x < n→∀ y∈E x,b y < k→t x + 1≤t y
  w : ∀ e∈done,b e.2 = k→t e.1 + 1≤t e.2
  g : ∀ y,t y = 0∨∃ x,x < n∧y∈E x∧t y≤t x + 1
theorem Va.step {b : Nat→Nat} {k : Nat} {done : List (Nat × Nat)} {t : Nat→Nat} (hb : ∀ x,x < n→∀ y∈E x,b x < b y) (hdn : ∀ e∈done,e.1 < n∧e.2∈E e.1) (h : Va E n b k done t) {x y : Nat} (hx : x < n) (hy : y∈E x) : Va E n b k ((x,y)::done) (rel1 t x y) := by
  have hxy : x≠y := by rintro rfl; have := hb x hx x hy; omega
  have low : ∀ z,b z < k→rel1 t x y z = t z := fun z hz => by
    unfold rel1
    by_cases e : z = y
    · subst e
      rw [if_pos rfl]
      have := h.v x hx z hy hz
      omega
    · rw [if_neg e]
  refine ⟨fun u hu v hv hk => ?_,fun e he hk => ?_,fun z => ?_⟩
  · have h1 := hb u hu v hv
    rw [low v hk,low u (by omega)]
    exact h.v u hu v hv hk
  · rcases List.mem_cons.mp he with rfl | he
    · have h1 := hb x hx y hy
      rw [low x (by simp only at hk; omega)]
      show t x + 1≤rel1 t x y y
      unfold rel1
      rw [if_pos rfl]; omega
    · obtain ⟨h2,h3⟩ := hdn e he
      have h1 := hb e.1 h2 e.2 h3
      rw [low e.1 (by omega)]
      exact Nat.le_trans (h.w e he hk) (zfJ t x y e.2)
  · by_cases e : z = y
    · subst e
      have e1 : rel1 t x z z = max (t z) (t x + 1) := by unfold rel1; rw [if_pos rfl]
      by_cases hm : t z≤t x + 1
      · right
        refine ⟨x,hx,hy,?_⟩
        have := zfJ t x z x
        omega
      · rcases h.g z with g | ⟨u,g1,g2,g3⟩
        · omega
        · right
          refine ⟨u,g1,g2,?_⟩
          have := zfJ t x z u
          omega
    · have e1 : rel1 t x y z = t z := by unfold rel1; rw [if_neg e]
      rw [e1]
      rcases h.g z with g | ⟨u,g1,g2,g3⟩
      · exact .inl g
      · exact .inr ⟨u,g1,g2,Nat.le_trans g3 (Nat.add_le_add_right (zfJ t x y u) 1)⟩
theorem Va.relx {b : Nat→Nat} {k : Nat} (hb : ∀ x,x < n→∀ y∈E x,b x < b y) {x : Nat} (hx : x < n) : ∀ (l : List Nat) (done : List (Nat × Nat)) (t : Nat→Nat),(∀ y∈l,y∈E x)→(∀ e∈done,e.1 < n∧e.2∈E e.1)→Va E n b k done t →
    ∃ done',(∀ e∈done',e.1 < n∧e.2∈E e.1)∧(∀ e∈done,e∈done')∧(∀ y∈l,(x,y)∈done')∧Va E n b k done' (l.foldl (fun t y => rel1 t x y) t)
  | [],done,t,_,hd,h => ⟨done,hd,fun _ z => z,fun _ z => (by cases z),h⟩
  | y::l,done,t,hl,hd,h => by
    obtain ⟨done',h1,h2,h3,h4⟩ := Va.relx hb hx l ((x,y)::done) (rel1 t x y) (fun z hz => hl z (List.mem_cons_of_mem _ hz)) (fun e he => by
      rcases List.mem_cons.mp he with rfl | he
      · exact ⟨hx,hl y List.mem_cons_self⟩
      · exact hd e he) (h.step hb hd hx (hl y List.mem_cons_self))
    refine ⟨done',h1,fun e he => h2 e (List.mem_cons_of_mem _ he),fun z hz => ?_,h4⟩
    rcases List.mem_cons.mp hz with rfl | hz
    · exact h2 _ List.mem_cons_self
    · exact h3 z hz
theorem Va.rnd {b : Nat→Nat} {k : Nat} (hb : ∀ x,x < n→∀ y∈E x,b x < b y) : ∀ (l : List Nat) (done : List (Nat × Nat)) (t : Nat→Nat),(∀ x∈l,x < n)→(∀ e∈done,e.1 < n∧e.2∈E e.1)→Va E n b k done t →
    ∃ done',(∀ e∈done',e.1 < n∧e.2∈E e.1)∧(∀ e∈done,e∈done')∧(∀ x∈l,∀ y∈E x,(x,y)∈done')∧Va E n b k done' (rnd E l t)
  | [],done,t,_,hd,h => ⟨done,hd,fun _ z => z,fun _ z => (by cases z),h⟩
  | x::l,done,t,hl,hd,h => by
    obtain ⟨d1,a1,a2,a3,a4⟩ := Va.relx hb (hl x List.mem_cons_self) (E x) done t (fun _ z => z) hd h
    obtain ⟨d2,b1,b2,b3,b4⟩ := Va.rnd hb l d1 _ (fun z hz => hl z (List.mem_cons_of_mem _ hz)) a1 a4
    refine ⟨d2,b1,fun e he => b2 e (a2 e he),fun z hz y hy => ?_,b4⟩
    rcases List.mem_cons.mp hz with rfl | hz
    · exact b2 _ (a3 y hy)
    · exact b3 z hz y hy
theorem Va.next {b : Nat→Nat} {k : Nat} {t : Nat→Nat} (hb : ∀ x,x < n→∀ y∈E x,b x < b y) (h : Va E n b k [] t) : Va E n b (k + 1) [] (Gr.rnd E (List.range n) t) := by
  obtain ⟨d,h1,_,h3,h4⟩ := Va.rnd hb (List.range n) [] t (fun x hx => List.mem_range.mp hx) (fun _ z => by cases z) h
  refine ⟨fun x hx y hy hk => ?_,fun _ z => by (cases z),h4.g⟩
  by_cases e : b y = k
  · exact h4.w (x,y) (h3 x (List.mem_range.mpr hx) y hy) e
  · exact h4.v x hx y hy (by omega)
theorem Va.all {b : Nat→Nat} (hb : ∀ x,x < n→∀ y∈E x,b x < b y) : ∀ (j k : Nat) (t : Nat→Nat),Va E n b k [] t→Va E n b (k + j) [] (rnds E n j t)
  | 0,k,t,h => h
  | j + 1,k,t,h => by
    have := Va.all hb j (k + 1) _ (h.next hb)
    rw [show k + (j + 1) = k + 1 + j by omega]
    exact this
end Gr
end
section
namespace Law
open PySem PySem.Spec PyProof.Rows L2 DL
noncomputable abbrev gv (i : Nat) : DL.FE := fun r => DL.getV r i
noncomputable abbrev ci (i : Int) : DL.FE := fun _ => .ok (.int i)
noncomputable abbrev q0 : List DL.Md := [.sh,.sh,.sh,.sh,.sh,.sh,.sh,.sh,.sh,.sh,.sh]
noncomputable abbrev q101 : List DL.Md := [.bw,.bw,.bw,.ow,.sh,.sh,.sh,.sh,.sh,.sh,.sh]
noncomputable abbrev q102 : List DL.Md := [.bw,.bw]
noncomputable abbrev q103 : List DL.Md := [.bw,.bw,.bw,.sh,.sh]
noncomputable abbrev q104 : List DL.Md := [.bw,.bw,.sh,.sh]
noncomputable abbrev q105 : List DL.Md := [.bw,.bw,.ow,.ow,.sh,.sh]
noncomputable abbrev q106 : List DL.Md := [.bw,.sh,.sh]
noncomputable abbrev q107 : List DL.Md := [.bw,.bw,.sh]
noncomputable abbrev q108 : List DL.Md := [.bw,.bw,.bw,.bw]
noncomputable abbrev q109 : List DL.Md := [.bw,.bw,.bw]
noncomputable abbrev q110 : List DL.Md := [.bw,.bw,.ow,.ow,.ow,.sh]
noncomputable abbrev q111 : List DL.Md := [.bw,.sh,.ow,.sh]
noncomputable abbrev q112 : List DL.Md := [.bw,.bw,.ow]
noncomputable abbrev q113 : List DL.Md := [.sh,.bw,.ow,.sh]
noncomputable abbrev q114 : List DL.Md := [.bw,.sh,.ow,.sh,.sh]
noncomputable abbrev q115 : List DL.Md := [.bw,.bw,.ow,.sh,.sh,.sh]
noncomputable abbrev q116 : List DL.Md := [.bw,.sh,.ow,.sh,.sh,.sh]
noncomputable abbrev q117 : List DL.Md := [.bw,.sh,.sh,.sh]
noncomputable abbrev q118 : List DL.Md := [.bw,.bw,.ow,.sh,.sh]
noncomputable abbrev q119 : List DL.Md := [.bw,.bw,.bw,.ow,.sh,.sh]
noncomputable abbrev q120 : List DL.Md := [.bw,.bw,.bw,.bw,.sh]
noncomputable abbrev q121 : List DL.Md := [.bw,.sh,.sh,.sh,.sh,.sh]
theorem zkO {α : Type} (us : List α) (h : us.length = 1) : ∃ a0,us = [a0] := by
  match us,h with
  | [_],_ => exact ⟨_,rfl⟩
theorem zes {α : Type} (us : List α) (h : us.length = 2) : ∃ a0 a1,us = [a0,a1] := by
  match us,h with
  | [_,_],_ => exact ⟨_,_,rfl⟩
theorem zji {α : Type} (us : List α) (h : us.length = 3) : ∃ a0 a1 a2,us = [a0,a1,a2] := by
  match us,h with
  | [_,_,_],_ => exact ⟨_,_,_,rfl⟩
theorem zmz {α : Type} (us : List α) (h : us.length = 4) : ∃ a0 a1 a2 a3,us = [a0,a1,a2,a3] := by
  match us,h with
  | [_,_,_,_],_ => exact ⟨_,_,_,_,rfl⟩
noncomputable def top (i : Nat) : Stmt := PySem.Challenge.pw_ringtrade_k18_bettered_step_by_step.main.body.getD i (.Pass ⟨0,0,0,0⟩)
structure Txt (K : PySem.W.Frag) (mg : Str→Option Value) : Prop where
  b_len : mg "len" = none
  b_range : mg "range" = none
  b_tuple : mg "tuple" = none
  b_list : mg "list" = none
  b_enumerate : mg "enumerate" = none
  b_zip : mg "zip" = none
  b_isinstance : mg "isinstance" = none
  b_bool : mg "bool" = none
  b_int : mg "int" = none
  b_all : mg "all" = none
  b_set : mg "set" = none
noncomputable abbrev zed : Stmt := top 17
noncomputable abbrev zfb : List Str := ["_law_script","_law_k","_law_cell_here","_law_stirred"]
noncomputable abbrev zcW : List Str := ["_law_script","_law_k"]
theorem zcp : FnScope zfb zcW (zae zed) := ⟨rfl,rfl,rfl,by decide +kernel,rfl,by decide +kernel,by decide +kernel⟩
noncomputable def zcn : FS :=
  (seqF (setF q104 2 (ci 0)) (seqF (ifF q104 (zaq (f2 (gv 1) (fC (zab (gv 0) lNil) lenD) ltI)) (seqF (setF q104 2 (f2 (f2 (gv 0) (gv 1) ixA) (f2 (ci 10) (ci 60) powI) modI)) zak) zak) (seqF (ifF q104 (fAnd (zaq (f2 (fC (zab (gv 0) lNil) lenD) (ci 0) gtI)) (zaq (f2 (f2 (f2 (gv 0) (ci 0) ixA) (ci 2) modI) (ci 0) eqD))) (seqF (retF q104 (gv 2)) zak) zak) (seqF (setF q104 3 (f2 (f2 (f2 (f2 (f2 (f2 (f2 (gv 2) (f2 (f2 (ci 7) (gv 1) mulI) (gv 1) mulI) addA) (f2 (ci 13) (gv 1) mulI) addA) (ci 5) addA) (ci 48271) mulI) (ci 2147483647) modI) (ci 69621) mulI) (ci 1000000007) modI)) (seqF (retF q104 (f2 (f2 (f2 (f2 (f2 (gv 3) (ci 1) addA) (ci 40692) mulI) (ci 2147483629) modI) (ci 39373) mulI) (ci 999999937) modI)) zak)))))
noncomputable def zaB : List D→Res D := fun ds => outR false (zcn (zaw zfb.length ds))
theorem zlx {P : Program} {w : World} {K : PySem.W.Frag} {mg : Str→Option Value} {base : Heap} (T : Txt K mg) (A : DefAt K mg "_law_cell" zed) : Callee P w K mg base "_law_cell" zcW [] 1 false q102 zaB := by
  refine za5 (k := 0) (fs := zcn) (m' := q104) A zcp rfl (fun _ _ _ _ _ _ us hl => by obtain ⟨u0,u1,rfl⟩ := zes us hl; kernel_rfl) fun f cdv A outer s H g E hr => ?_
  have hu1 := zb0 hr
  have hu64 := hr.units
  exact (zaa (zbw 2 zcp.nd (by rfl) (by first | exact Or.inl rfl | exact Or.inr rfl) zap)
      (zaa (s_if (q_lt (vb_ 1) (SE.toB (zb3 (by rfl) T.b_len (zao (vb_ 0) zaE)))) (zaa (zbw 2 zcp.nd (by rfl) (by first | exact Or.inl rfl | exact Or.inr rfl) (zeM (SE.toB (zaD hu1 (vb_ 0) (vb_ 1))) (SE.toB (zpi (SE.toB zap) (SE.toB zap)))))
      zaf)
      zaf)
      (zaa (s_if (SW.toQ (zh4 (q_gt (SE.toB (zb3 (by rfl) T.b_len (zao (vb_ 0) zaE))) (SE.toB zap)) (zfp (q_eq hu64 (SE.toB (zeM (SE.toB (zaD hu1 (vb_ 0) (SE.toB zap))) (SE.toB zap))) (SE.toB zap))))) (zaa (zaN (v_ 2))
      zaf)
      zaf)
      (zaa (zbw 3 zcp.nd (by rfl) (by first | exact Or.inl rfl | exact Or.inr rfl) (zeM (SE.toB (zgd (SE.toB (zeM (SE.toB (zgd (SE.toB (zcB (SE.toB (zcB (SE.toB (zcB (vb_ 2) (SE.toB (zgd (SE.toB (zgd (SE.toB zap) (vb_ 1))) (vb_ 1))))) (SE.toB (zgd (SE.toB zap) (vb_ 1))))) (SE.toB zap))) (SE.toB zap))) (SE.toB zap))) (SE.toB zap))) (SE.toB zap)))
      (zaa (zaN (zeM (SE.toB (zgd (SE.toB (zeM (SE.toB (zgd (SE.toB (zcB (vb_ 3) (SE.toB zap))) (SE.toB zap))) (SE.toB zap))) (SE.toB zap))) (SE.toB zap)))
      zaf)))))
noncomputable abbrev zeJ : Stmt := top 18
noncomputable abbrev zfA : List Str := ["_law_cell_here","_law_m","_law_row_here","_law_thing"]
noncomputable abbrev zdp : List Str := ["_law_cell_here","_law_m"]
theorem zcO : FnScope zfA zdp (zae zeJ) := ⟨rfl,rfl,rfl,by decide +kernel,rfl,by decide +kernel,by decide +kernel⟩
noncomputable abbrev zen : FS :=
  (seqF (mutF "list" q113 2 (zab (f2 (gv 0) (f2 (gv 3) (ci 1) addA) modI) (zab (gv 3) lNil)) insD) (seqF (setF q113 0 (f2 (gv 0) (f2 (gv 3) (ci 1) addA) zha)) zak))
noncomputable def zdt : FS :=
  (seqF (setF [.sh,.bw,.sh,.sh] 2 (mkL lNil)) (seqF (zcf q113 (fRng rng1 (zab (gv 1) lNil)) (ftN 3) zen) (seqF (retF q113 (fC (zab (gv 2) lNil) tupD)) zak)))
noncomputable def zbq : List D→Res D := fun ds => outR false (zdt (zaw zfA.length ds))
theorem zmu {P : Program} {w : World} {K : PySem.W.Frag} {mg : Str→Option Value} {base : Heap} (T : Txt K mg) (A : DefAt K mg "_law_row" zeJ) : Callee P w K mg base "_law_row" zdp [] 1 false [.sh,.bw] zbq := by
  refine za5 (k := 0) (fs := zdt) (m' := q113) A zcO rfl (fun _ _ _ _ _ _ us hl => by obtain ⟨u0,u1,rfl⟩ := zes us hl; kernel_rfl) fun f cdv A outer s H g E hr => ?_
  have hu1 := zb0 hr
  have hu64 := hr.units
  exact (zaa (zc9 2 zcO.nd (by rfl) (by first | exact Or.inl rfl | exact Or.inr rfl) (zfh zbA))
      (zaa (zeN PassesOwn.never rfl (zb4 (by rfl) T.b_range (zao (vb_ 1) zaE)) (zaL 3 zcO.nd (by rfl) (by first | exact Or.inl rfl | exact Or.inr rfl)) (zaa (zfH 2 rfl PySem.F.plainAttrs_list PySem.F.slot_list_insert PySem.F.type_list_insert zi8 zos (by rfl) (by first | exact Or.inl rfl | exact Or.inr (Or.inl rfl) | exact Or.inr (Or.inr rfl)) (zaJ (zeM (vb_ 0) (SE.toB (zcB (vb_ 3) (SE.toB zap)))) (zaJ (v_ 3) zbA)))
      (zaa (zbw 0 zcO.nd (by rfl) (by first | exact Or.inl rfl | exact Or.inr rfl) (ziA (vb_ 0) (SE.toB (zcB (vb_ 3) (SE.toB zap)))))
      zaf)))
      (zaa (zaN (zd4 (by rfl) T.b_tuple (zao (vb_ 2) zaE)))
      zaf)))
noncomputable abbrev zbH : Stmt := top 19
noncomputable abbrev zb5 : List Str := ["_law_script","_law_at","_law_n","_law_m"]
noncomputable abbrev zcU : List Str := ["_law_script","_law_at","_law_n","_law_m"]
theorem zdv : FnScope zb5 zcU (zae zbH) := ⟨rfl,rfl,rfl,by decide +kernel,rfl,by decide +kernel,by decide +kernel⟩
noncomputable def zca : FS :=
  (seqF (retF q108 (fC (zab (zch 1 [3,0,1] (fRng rng1 (zab (gv 2) lNil)) (ftN 0) (fun _ => Res.ok true) (zaz (zab (zaz (zab (gv 2) (zab (f2 (gv 3) (gv 0) addA) lNil)) [] zaB) (zab (gv 1) lNil)) [] zbq)) lNil) tupD)) zak)
noncomputable def zb7 : List D→Res D := fun ds => outR false (zca (zaw zb5.length ds))
theorem zkf {P : Program} {w : World} {K : PySem.W.Frag} {mg : Str→Option Value} {base : Heap} (T : Txt K mg) (A : DefAt K mg "_law_wishes" zbH) (c__law_cell : Callee P w K mg base "_law_cell" zcW [] 1 false q102 zaB) (c__law_row : Callee P w K mg base "_law_row" zdp [] 1 false [.sh,.bw] zbq) : Callee P w K mg base "_law_wishes" zcU [] 2 false q108 zb7 := by
  refine za5 (k := 1) (fs := zca) (m' := q108) A zdv rfl (fun _ _ _ _ _ _ us hl => by obtain ⟨u0,u1,u2,u3,rfl⟩ := zmz us hl; kernel_rfl) fun f cdv A outer s H g E hr => ?_
  have hu1 := zb0 hr
  have hu64 := hr.units
  exact (zaa (zaN (zd4 (by rfl) T.b_tuple (zao (SO.toB (zeT (X := (cxOf CX0 P w K mg base zb5 "_law_wishes" (zae zbH) f cdv A outer s H E).nox) (N' := ["_law_hand","_law_m","_law_script","_law_at"]) (nl := 1) (cap := [3,0,1]) zdv.nd rfl (za8 (osc := (zae zbH)) (ON := zb5) rfl rfl (by decide +kernel)) (SIt.toC (zb4 (by rfl) T.b_range (zao (vb_ 2) zaE))) (fun _ _ _ _ _ _ => (zaL 0 (show List.Nodup (["_law_hand","_law_m","_law_script","_law_at"] : List Str) by decide +kernel) (by rfl) (by first | exact Or.inl rfl | exact Or.inr rfl))) (zc1 (by decide)) (fun _ _ _ _ _ _ => zhw) (fun _ _ _ _ _ _ => (zax (dds := []) c__law_row (hr.mono (by decide)) (m_sh (zax (dds := []) c__law_cell (hr.mono (by decide)) (m_bw (vb_ 2) (m_bw (SE.toB (zcB (vb_ 3) (vb_ 0))) za2))) (m_bw (vb_ 1) za2)))))) zaE)))
      zaf)
noncomputable abbrev zdO : Stmt := top 26
noncomputable abbrev zej : List Str := ["_law_wishes_here","_law_order","_law_left","_law_got","_law_hand","_law_thing"]
noncomputable abbrev zdf : List Str := ["_law_wishes_here","_law_order"]
theorem zbv : FnScope zej zdf (zae zdO) := ⟨rfl,rfl,rfl,by decide +kernel,rfl,by decide +kernel,by decide +kernel⟩
noncomputable abbrev zbl : FS :=
  (seqF (ifF q105 (zaq (f2 (gv 5) (gv 2) inD)) (seqF (putF q105 3 (gv 4) (gv 5)) zak) zak) zak)
noncomputable abbrev zdD : FS :=
  (seqF (zcf q105 (fSeq zbk (f2 (gv 0) (gv 4) ixA)) (ftN 5) zbl) (seqF (mutF "list" q105 2 (zab (f2 (gv 3) (gv 4) ixA) lNil) remD) zak))
noncomputable def zcu : FS :=
  (seqF (setF [.bw,.bw,.sh,.sh,.sh,.sh] 2 (fC (zab (fC (zab (f2 (gv 0) (ci 0) ixA) lNil) lenD) lNil) zh8)) (seqF (setF q115 3 (fC (zab (gv 1) lNil) zgr)) (seqF (zcf q105 (fSeq zbk (gv 1)) (ftN 4) zdD) (seqF (retF q105 (fC (zab (gv 3) lNil) tupD)) zak))))
noncomputable def zcs : List D→Res D := fun ds => outR false (zcu (zaw zej.length ds))
theorem zkG {P : Program} {w : World} {K : PySem.W.Frag} {mg : Str→Option Value} {base : Heap} (T : Txt K mg) (A : DefAt K mg "_law_worst" zdO) : Callee P w K mg base "_law_worst" zdf [] 1 false q102 zcs := by
  refine za5 (k := 0) (fs := zcu) (m' := q105) A zbv rfl (fun _ _ _ _ _ _ us hl => by obtain ⟨u0,u1,rfl⟩ := zes us hl; kernel_rfl) fun f cdv A outer s H g E hr => ?_
  have hu1 := zb0 hr
  have hu64 := hr.units
  exact (zaa (zc9 2 zbv.nd (by rfl) (by first | exact Or.inl rfl | exact Or.inr rfl) (zi4 rfl (by rfl) T.b_list (by rfl) T.b_range (zao (SE.toB (zb3 (by rfl) T.b_len (zao (SE.toB (zaD hu1 (vb_ 0) (SE.toB zap))) zaE))) zaE)))
      (zaa (zc9 3 zbv.nd (by rfl) (by first | exact Or.inl rfl | exact Or.inr rfl) (zi5 (by rfl) T.b_list (zao (vb_ 1) zaE)))
      (zaa (zns PassesOwn.never rfl (zov (vw_ 1)) (zaL 4 zbv.nd (by rfl) (by first | exact Or.inl rfl | exact Or.inr rfl)) (zaa (zeN PassesOwn.never rfl (zpN (zaD hu1 (vb_ 0) (vb_ 4))) (zaL 5 zbv.nd (by rfl) (by first | exact Or.inl rfl | exact Or.inr rfl)) (zaa (s_if (q_in hu1 (vb_ 5) (vb_ 2)) (zaa (ziy 3 hu1 rfl (by rfl) (by first | exact Or.inl rfl | exact Or.inr (Or.inl rfl) | exact Or.inr (Or.inr rfl)) (vb_ 4) (v_ 5))
      zaf)
      zaf)
      zaf))
      (zaa (zfH 2 rfl PySem.F.plainAttrs_list PySem.F.slot_list_remove PySem.F.type_list_remove zgn zlq (by rfl) (by first | exact Or.inl rfl | exact Or.inr (Or.inl rfl) | exact Or.inr (Or.inr rfl)) (zaJ (zaD hu1 (vb_ 3) (vb_ 4)) zbA))
      zaf)))
      (zaa (zaN (zd4 (by rfl) T.b_tuple (zao (vb_ 3) zaE)))
      zaf))))
noncomputable abbrev zhr : Stmt := top 2
noncomputable abbrev zkd : List Str := ["wishes","hand","one","other","row"]
noncomputable abbrev zf1 : List Str := ["wishes","hand","one","other"]
theorem zht : FnScope zkd zf1 (zae zhr) := ⟨rfl,rfl,rfl,by decide +kernel,rfl,by decide +kernel,by decide +kernel⟩
noncomputable def zf3 : FS :=
  (seqF (setF q120 4 (f2 (gv 0) (gv 1) ixA)) (seqF (retF q120 (f2 (fM "tuple" (gv 4) (zab (gv 2) lNil) zcQ) (fM "tuple" (gv 4) (zab (gv 3) lNil) zcQ) ltI)) zak))
noncomputable def zdL : List D→Res D := fun ds => outR false (zf3 (zaw zkd.length ds))
theorem zo2 {P : Program} {w : World} {K : PySem.W.Frag} {mg : Str→Option Value} {base : Heap} (T : Txt K mg) (A : DefAt K mg "likes" zhr) : Callee P w K mg base "likes" zf1 [] 1 false q108 zdL := by
  refine za5 (k := 0) (fs := zf3) (m' := q120) A zht rfl (fun _ _ _ _ _ _ us hl => by obtain ⟨u0,u1,u2,u3,rfl⟩ := zmz us hl; kernel_rfl) fun f cdv A outer s H g E hr => ?_
  have hu1 := zb0 hr
  have hu64 := hr.units
  exact (zaa (zbw 4 zht.nd (by rfl) (by first | exact Or.inl rfl | exact Or.inr rfl) (zaD hu1 (vb_ 0) (vb_ 1)))
      (zaa (zaN (s_lt (SE.toB (s_bm PySem.F.plainAttrs_tuple PySem.F.slot_tuple_index PySem.F.type_tuple_index zcD zcE (vb_ 4) (zao (vb_ 2) zaE))) (SE.toB (s_bm PySem.F.plainAttrs_tuple PySem.F.slot_tuple_index PySem.F.type_tuple_index zcD zcE (vb_ 4) (zao (vb_ 3) zaE)))))
      zaf))
noncomputable abbrev zec : Stmt := top 1
noncomputable abbrev zfa : List Str := ["wishes"]
noncomputable abbrev zdJ : List Str := ["wishes"]
theorem zgc : FnScope zfa zdJ (zae zec) := ⟨rfl,rfl,rfl,by decide +kernel,rfl,by decide +kernel,by decide +kernel⟩
noncomputable def zcX : FS :=
  (seqF (retF [Md.bw] (fC (zab (f2 (gv 0) (ci 0) ixA) lNil) lenD)) zak)
noncomputable def zbF : List D→Res D := fun ds => outR false (zcX (zaw zfa.length ds))
theorem zlw {P : Program} {w : World} {K : PySem.W.Frag} {mg : Str→Option Value} {base : Heap} (T : Txt K mg) (A : DefAt K mg "things_in" zec) : Callee P w K mg base "things_in" zdJ [] 1 false [Md.bw] zbF := by
  refine za5 (k := 0) (fs := zcX) (m' := [Md.bw]) A zgc rfl (fun _ _ _ _ _ _ us hl => by obtain ⟨u0,rfl⟩ := zkO us hl; kernel_rfl) fun f cdv A outer s H g E hr => ?_
  have hu1 := zb0 hr
  have hu64 := hr.units
  exact (zaa (zaN (zb3 (by rfl) T.b_len (zao (SE.toB (zaD hu1 (vb_ 0) (SE.toB zap))) zaE)))
      zaf)
noncomputable abbrev zcK : Stmt := top 10
noncomputable abbrev zdq : List Str := ["wishes","dealing","left_over","hand","had","thing"]
noncomputable abbrev zea : List Str := ["wishes","dealing"]
theorem zce : FnScope zdq zea (zae zcK) := ⟨rfl,rfl,rfl,by decide +kernel,rfl,by decide +kernel,by decide +kernel⟩
noncomputable abbrev zbX : FS :=
  (seqF (ifF [.bw,.sh,.bw,.sh,.sh,.sh] (fTru (zaz (zab (gv 0) (zab (gv 3) (zab (gv 5) (zab (gv 4) lNil)))) [] zdL)) (seqF (retF [.bw,.sh,.bw,.sh,.sh,.sh] (mkT (zab (fun _ => Res.ok (D.str "line")) (zab (mkT (zab (gv 3) lNil)) (zab (gv 5) lNil))))) zak) zak) zak)
noncomputable abbrev zbW : FS :=
  (seqF (zcf q116 (fSeq zbk (gv 2)) (ftN 5) zbX) zak)
noncomputable def zcd : FS :=
  (seqF (setF q121 2 (zch 1 [1] (fRng rng1 (zab (zaz (zab (gv 0) lNil) [] zbF) lNil)) (ftN 0) (zaq (f2 (gv 0) (gv 1) ninD)) (gv 0))) (seqF (zcf q116 (fEnu (gv 1)) (ftT (zaS (ftN 3) (zaS (ftN 4) zdH))) zbW) (seqF (retF q116 (fun _ => Res.ok D.non)) zak)))
noncomputable def zcc : List D→Res D := fun ds => outR false (zcd (zaw zdq.length ds))
theorem zms {P : Program} {w : World} {K : PySem.W.Frag} {mg : Str→Option Value} {base : Heap} (T : Txt K mg) (A : DefAt K mg "line_for" zcK) (c_things_in : Callee P w K mg base "things_in" zdJ [] 1 false [Md.bw] zbF) (c_likes : Callee P w K mg base "likes" zf1 [] 1 false q108 zdL) : Callee P w K mg base "line_for" zea [] 2 false [.bw,.sh] zcc := by
  refine za5 (k := 1) (fs := zcd) (m' := q116) A zce rfl (fun _ _ _ _ _ _ us hl => by obtain ⟨u0,u1,rfl⟩ := zes us hl; kernel_rfl) fun f cdv A outer s H g E hr => ?_
  have hu1 := zb0 hr
  have hu64 := hr.units
  exact (zaa (zdS 2 (X := (cxOf CX0 P w K mg base zdq "line_for" (zae zcK) f cdv A outer s H E).nox) (m := q121) (N' := ["thing","dealing"]) (nl := 1) (cap := [1]) zce.nd rfl (by rfl) (by rfl) (za8 (osc := (zae zcK)) (ON := zdq) rfl rfl (by decide +kernel)) (SIt.toC (zb4 (by rfl) T.b_range (zao (SE.toB (zax (dds := []) c_things_in (hr.mono (by decide)) (m_bw (vb_ 0) za2))) zaE))) (fun _ _ _ _ _ _ => (zaL 0 (show List.Nodup (["thing","dealing"] : List Str) by decide +kernel) (by rfl) (by first | exact Or.inl rfl | exact Or.inr rfl))) (zc1 (by decide)) (fun _ _ _ _ _ _ => (zeP (ziK hu1 (vb_ 0) (vb_ 1)))) (fun _ _ _ _ _ _ => (v_ 0)))
      (zaa (zeN PassesOwn.never rfl (zlJ (by rfl) T.b_enumerate (v_ 1)) (zjB rfl (zdC (zaL 3 zce.nd (by rfl) (by first | exact Or.inl rfl | exact Or.inr rfl)) (zdC (zaL 4 zce.nd (by rfl) (by first | exact Or.inl rfl | exact Or.inr rfl)) zjC))) (zaa (zlo PassesOwn.never rfl (zdZ (vb_ 2)) (fun _ => (zaL 5 zce.nd (by rfl) (by first | exact Or.inl rfl | exact Or.inr rfl))) (fun _ => (zaa (s_if (zeQ (SE.toB (zax (dds := []) c_likes (hr.mono (by decide)) (m_bw (vb_ 0) (m_bw (vb_ 3) (m_bw (vb_ 5) (m_bw (vb_ 4) za2))))))) (zaa (zaN (zfF (zaJ zfG (zaJ (zfF (zaJ (v_ 3) zbA)) (zaJ (v_ 5) zbA)))))
      zaf)
      zaf)
      zaf)))
      zaf))
      (zaa (zaN zep)
      zaf)))
noncomputable abbrev zbt : Stmt := top 7
noncomputable abbrev zbM : List Str := ["steps","place","places"]
noncomputable abbrev zbK : List Str := ["steps","place","places"]
theorem zc7 : FnScope zbM zbK (zae zbt) := ⟨rfl,rfl,rfl,by decide +kernel,rfl,by decide +kernel,by decide +kernel⟩
noncomputable def zbR : FS :=
  (seqF (retF q109 (zch 1 [2] (fSeq zbk (f2 (gv 0) (gv 1) ixA)) (ftN 0) (zaq (f2 (gv 0) (gv 1) inD)) (gv 0))) zak)
noncomputable def za3 : List D→Res D := fun ds => outR false (zbR (zaw zbM.length ds))
theorem zi1 {P : Program} {w : World} {K : PySem.W.Frag} {mg : Str→Option Value} {base : Heap} (T : Txt K mg) (A : DefAt K mg "steps_within" zbt) : Callee P w K mg base "steps_within" zbK [] 1 false q109 za3 := by
  refine za5 (k := 0) (fs := zbR) (m' := q109) A zc7 rfl (fun _ _ _ _ _ _ us hl => by obtain ⟨u0,u1,u2,rfl⟩ := zji us hl; kernel_rfl) fun f cdv A outer s H g E hr => ?_
  have hu1 := zb0 hr
  have hu64 := hr.units
  exact (zaa (zaN (SO.toE (zeT (X := (cxOf CX0 P w K mg base zbM "steps_within" (zae zbt) f cdv A outer s H E).nox) (N' := ["other","places"]) (nl := 1) (cap := [2]) zc7.nd rfl (za8 (osc := (zae zbt)) (ON := zbM) rfl rfl (by decide +kernel)) (zdZ (SE.toB (zaD hu1 (vb_ 0) (vb_ 1)))) (fun _ _ _ _ _ _ => (zaL 0 (show List.Nodup (["other","places"] : List Str) by decide +kernel) (by rfl) (by first | exact Or.inl rfl | exact Or.inr rfl))) (zc1 (by decide)) (fun _ _ _ _ _ _ => (zeP (q_in hu1 (vb_ 0) (vb_ 1)))) (fun _ _ _ _ _ _ => (v_ 0)))))
      zaf)
noncomputable abbrev zaT : Stmt := top 6
noncomputable abbrev zaX : List Str := ["steps","places","staying"]
noncomputable abbrev zbn : List Str := ["steps"]
theorem zaF : FnScope zaX zbn (zae zaT) := ⟨rfl,rfl,rfl,by decide +kernel,rfl,by decide +kernel,by decide +kernel⟩
noncomputable abbrev zbV : FQ :=
  (zaq (f2 (fC (zab (gv 2) lNil) lenD) (fC (zab (gv 1) lNil) lenD) neD))
noncomputable abbrev za9 : FS :=
  (seqF (setF q106 1 (gv 2)) (seqF (setF q106 2 (zch 1 [0,1] (fSeq zbk (gv 1)) (ftN 0) (fTru (zaz (zab (gv 1) (zab (gv 0) (zab (gv 2) lNil))) [] za3)) (gv 0))) zak))
noncomputable def zaZ : FS :=
  (seqF (setF q106 1 (mkL lNil)) (seqF (setF q106 2 (f1 (gv 0) zjl)) (seqF (zbp q106 zbV za9 64) (seqF (retF q106 (gv 1)) zak))))
noncomputable def zaY : List D→Res D := fun ds => outR false (zaZ (zaw zaX.length ds))
theorem zgK {P : Program} {w : World} {K : PySem.W.Frag} {mg : Str→Option Value} {base : Heap} (T : Txt K mg) (A : DefAt K mg "places_that_go_on" zaT) (c_steps_within : Callee P w K mg base "steps_within" zbK [] 1 false q109 za3) : Callee P w K mg base "places_that_go_on" zbn [] 2 false [Md.bw] zaY := by
  refine za5 (k := 1) (fs := zaZ) (m' := q106) A zaF rfl (fun _ _ _ _ _ _ us hl => by obtain ⟨u0,rfl⟩ := zkO us hl; kernel_rfl) fun f cdv A outer s H g E hr => ?_
  have hu1 := zb0 hr
  have hu64 := hr.units
  exact (zaa (zbw 1 zaF.nd (by rfl) (by first | exact Or.inl rfl | exact Or.inr rfl) (SO.toE (zfh zbA)))
      (zaa (zbw 2 zaF.nd (by rfl) (by first | exact Or.inl rfl | exact Or.inr rfl) (SO.toE (zn3 rfl (by rfl) T.b_list (vb_ 0))))
      (zaa (zgR 64 PassesOwn.never (q_ne hu64 (SE.toB (zb3 (by rfl) T.b_len (zao (vb_ 2) zaE))) (SE.toB (zb3 (by rfl) T.b_len (zao (vb_ 1) zaE)))) (zf7 (m' := [.bw,.sh,.ow]) 2 (zaa (zbw 1 zaF.nd (by rfl) (by first | exact Or.inl rfl | exact Or.inr rfl) (v_ 2))
      (zaa (zdS 2 (X := (cxOf CX0 P w K mg base zaX "places_that_go_on" (zae zaT) f cdv A outer s H E).nox) (m := q106) (N' := ["place","steps","places"]) (nl := 1) (cap := [0,1]) zaF.nd rfl (by rfl) (by rfl) (za8 (osc := (zae zaT)) (ON := zaX) rfl rfl (by decide +kernel)) (zdZ (vb_ 1)) (fun _ _ _ _ _ _ => (zaL 0 (show List.Nodup (["place","steps","places"] : List Str) by decide +kernel) (by rfl) (by first | exact Or.inl rfl | exact Or.inr rfl))) (zc1 (by decide)) (fun _ _ _ _ _ _ => (zeP (zeQ (SE.toB (zax (dds := []) c_steps_within (hr.mono (by decide)) (m_bw (vb_ 1) (m_bw (vb_ 0) (m_bw (vb_ 2) za2)))))))) (fun _ _ _ _ _ _ => (v_ 0)))
      zaf)) rfl))
      (zaa (zaN (v_ 1))
      zaf))))
noncomputable abbrev zcZ : Stmt := top 8
noncomputable abbrev zdh : List Str := ["steps","places","walk","place"]
noncomputable abbrev zcj : List Str := ["steps"]
theorem za1 : FnScope zdh zcj (zae zcZ) := ⟨rfl,rfl,rfl,by decide +kernel,rfl,by decide +kernel,by decide +kernel⟩
noncomputable abbrev zbE : FQ :=
  (zaq (f2 (gv 3) (gv 2) ninD))
noncomputable abbrev zcG : FS :=
  (seqF (mutF "list" q111 2 (zab (gv 3) lNil) appD) (seqF (setF q111 3 (f2 (zaz (zab (gv 0) (zab (gv 3) (zab (gv 1) lNil))) [] za3) (ci 0) ixA)) zak))
noncomputable def zaV : FS :=
  (seqF (setF q117 1 (zaz (zab (gv 0) lNil) [] zaY)) (seqF (ifF q117 (fNot (fTru (gv 1))) (seqF (retF q117 (fun _ => Res.ok D.non)) zak) zak) (seqF (setF q117 2 (mkL lNil)) (seqF (setF q111 3 (f2 (gv 1) (ci 0) ixA)) (seqF (zbp q111 zbE zcG 64) (seqF (retF q111 (fSlA (gv 2) (zeu (fM "list" (gv 2) (zab (gv 3) lNil) zg6)) (fun _ => Res.ok none))) zak))))))
noncomputable def zbb : List D→Res D := fun ds => outR false (zaV (zaw zdh.length ds))
theorem zij {P : Program} {w : World} {K : PySem.W.Frag} {mg : Str→Option Value} {base : Heap} (T : Txt K mg) (A : DefAt K mg "ring_of_steps" zcZ) (c_places_that_go_on : Callee P w K mg base "places_that_go_on" zbn [] 2 false [Md.bw] zaY) (c_steps_within : Callee P w K mg base "steps_within" zbK [] 1 false q109 za3) : Callee P w K mg base "ring_of_steps" zcj [] 3 false [Md.bw] zbb := by
  refine za5 (k := 2) (fs := zaV) (m' := q111) A za1 rfl (fun _ _ _ _ _ _ us hl => by obtain ⟨u0,rfl⟩ := zkO us hl; kernel_rfl) fun f cdv A outer s H g E hr => ?_
  have hu1 := zb0 hr
  have hu64 := hr.units
  exact (zaa (zbw 1 za1.nd (by rfl) (by first | exact Or.inl rfl | exact Or.inr rfl) (zax (dds := []) c_places_that_go_on (hr.mono (by decide)) (m_bw (vb_ 0) za2)))
      (zaa (s_if (zgg (zeQ (vb_ 1))) (zaa (zaN zep)
      zaf)
      zaf)
      (zaa (zc9 2 za1.nd (by rfl) (by first | exact Or.inl rfl | exact Or.inr rfl) (zfh zbA))
      (zaa (zbw 3 za1.nd (by rfl) (by first | exact Or.inl rfl | exact Or.inr rfl) (zaD hu1 (vb_ 1) (SE.toB zap)))
      (zaa (zgR 64 PassesOwn.never (ziK hu1 (vb_ 3) (vb_ 2)) (zaa (zfH 2 rfl PySem.F.plainAttrs_list PySem.F.slot_list_append PySem.F.type_list_append zda zhM (by rfl) (by first | exact Or.inl rfl | exact Or.inr (Or.inl rfl) | exact Or.inr (Or.inr rfl)) (zaJ (v_ 3) zbA))
      (zaa (zbw 3 za1.nd (by rfl) (by first | exact Or.inl rfl | exact Or.inr rfl) (zaD hu1 (SE.toB (zax (dds := []) c_steps_within (hr.mono (by decide)) (m_bw (vb_ 0) (m_bw (vb_ 3) (m_bw (vb_ 1) za2))))) (SE.toB zap)))
      zaf)))
      (zaa (zaN (zgS (vb_ 2) (zeR (SE.toB (s_bm PySem.F.plainAttrs_list PySem.F.slot_list_index PySem.F.type_list_index zi9 zjy (vb_ 2) (zao (vb_ 3) zaE)))) zeS))
      zaf))))))
noncomputable abbrev zbu : Stmt := top 11
noncomputable abbrev zbN : List Str := ["wishes","dealing","hand"]
noncomputable abbrev zcy : List Str := ["wishes","dealing","hand"]
theorem zc8 : FnScope zbN zcy (zae zbu) := ⟨rfl,rfl,rfl,by decide +kernel,rfl,by decide +kernel,by decide +kernel⟩
noncomputable def zbS : FS :=
  (seqF (retF [.bw,.sh,.bw] (zch 2 [0,2,1] (fEnu (gv 1)) (ftT (zaS (ftN 0) (zaS (ftN 1) zdH))) (fTru (zaz (zab (gv 2) (zab (gv 3) (zab (gv 1) (zab (f2 (gv 4) (gv 3) ixA) lNil)))) [] zdL)) (gv 0))) zak)
noncomputable def zbP : List D→Res D := fun ds => outR false (zbS (zaw zbN.length ds))
theorem zi2 {P : Program} {w : World} {K : PySem.W.Frag} {mg : Str→Option Value} {base : Heap} (T : Txt K mg) (A : DefAt K mg "hands_envied" zbu) (c_likes : Callee P w K mg base "likes" zf1 [] 1 false q108 zdL) : Callee P w K mg base "hands_envied" zcy [] 2 false [.bw,.sh,.bw] zbP := by
  refine za5 (k := 1) (fs := zbS) (m' := [.bw,.sh,.bw]) A zc8 rfl (fun _ _ _ _ _ _ us hl => by obtain ⟨u0,u1,u2,rfl⟩ := zji us hl; kernel_rfl) fun f cdv A outer s H g E hr => ?_
  have hu1 := zb0 hr
  have hu64 := hr.units
  exact (zaa (zaN (SO.toE (zeT (X := (cxOf CX0 P w K mg base zbN "hands_envied" (zae zbu) f cdv A outer s H E).nox) (N' := ["other","thing","wishes","hand","dealing"]) (nl := 2) (cap := [0,2,1]) zc8.nd rfl (za8 (osc := (zae zbu)) (ON := zbN) rfl rfl (by decide +kernel)) (SIt.toC (zlJ (by rfl) T.b_enumerate (v_ 1))) (fun _ _ _ _ _ _ => (zjB rfl (zdC (zaL 0 (show List.Nodup (["other","thing","wishes","hand","dealing"] : List Str) by decide +kernel) (by rfl) (by first | exact Or.inl rfl | exact Or.inr rfl)) (zdC (zaL 1 (show List.Nodup (["other","thing","wishes","hand","dealing"] : List Str) by decide +kernel) (by rfl) (by first | exact Or.inl rfl | exact Or.inr rfl)) zjC)))) (zoD (zgw (zc1 (by decide)) (zgw (zc1 (by decide)) zkW))) (fun _ _ _ _ _ _ => (zeP (zeQ (SE.toB (zax (dds := []) c_likes (hr.mono (by decide)) (m_bw (vb_ 2) (m_bw (vb_ 3) (m_bw (vb_ 1) (m_bw (SE.toB (zaD hu1 (vb_ 4) (vb_ 3))) za2))))))))) (fun _ _ _ _ _ _ => (v_ 0)))))
      zaf)
noncomputable abbrev zeH : Stmt := top 12
noncomputable abbrev zfy : List Str := ["wishes","dealing","steps","hand","hands"]
noncomputable abbrev zd9 : List Str := ["wishes","dealing"]
theorem zcM : FnScope zfy zd9 (zae zeH) := ⟨rfl,rfl,rfl,by decide +kernel,rfl,by decide +kernel,by decide +kernel⟩
noncomputable abbrev zel : FS :=
  (seqF (putF q114 2 (gv 3) (zaz (zab (gv 0) (zab (gv 1) (zab (gv 3) lNil))) [] zbP)) zak)
noncomputable def zdr : FS :=
  (seqF (setF [.bw,.sh,.sh,.sh,.sh] 2 (fun _ => Res.ok (D.dic []))) (seqF (zcf q114 (fRng rng1 (zab (fC (zab (gv 0) lNil) lenD) lNil)) (ftN 3) zel) (seqF (setF q114 4 (zaz (zab (gv 2) lNil) [] zbb)) (seqF (retF q114 (fIf (zaq (f2 (gv 4) (fun _ => Res.ok D.non) isD)) (fun _ => Res.ok D.non) (mkT (zab (fun _ => Res.ok (D.str "ring")) (zab (fC (zab (gv 4) lNil) tupD) lNil))))) zak))))
noncomputable def zcH : List D→Res D := fun ds => outR false (zdr (zaw zfy.length ds))
theorem zmr {P : Program} {w : World} {K : PySem.W.Frag} {mg : Str→Option Value} {base : Heap} (T : Txt K mg) (A : DefAt K mg "ring_for" zeH) (c_hands_envied : Callee P w K mg base "hands_envied" zcy [] 2 false [.bw,.sh,.bw] zbP) (c_ring_of_steps : Callee P w K mg base "ring_of_steps" zcj [] 3 false [Md.bw] zbb) : Callee P w K mg base "ring_for" zd9 [] 4 false [.bw,.sh] zcH := by
  refine za5 (k := 3) (fs := zdr) (m' := q114) A zcM rfl (fun _ _ _ _ _ _ us hl => by obtain ⟨u0,u1,rfl⟩ := zes us hl; kernel_rfl) fun f cdv A outer s H g E hr => ?_
  have hu1 := zb0 hr
  have hu64 := hr.units
  exact (zaa (zc9 2 zcM.nd (by rfl) (by first | exact Or.inl rfl | exact Or.inr rfl) zn4)
      (zaa (zeN PassesOwn.never rfl (zb4 (by rfl) T.b_range (zao (SE.toB (zb3 (by rfl) T.b_len (zao (vb_ 0) zaE))) zaE)) (zaL 3 zcM.nd (by rfl) (by first | exact Or.inl rfl | exact Or.inr rfl)) (zaa (ziy 2 hu1 rfl (by rfl) (by first | exact Or.inl rfl | exact Or.inr (Or.inl rfl) | exact Or.inr (Or.inr rfl)) (vb_ 3) (zax (dds := []) c_hands_envied (hr.mono (by decide)) (m_bw (vb_ 0) (m_sh (v_ 1) (m_bw (vb_ 3) za2)))))
      zaf))
      (zaa (zbw 4 zcM.nd (by rfl) (by first | exact Or.inl rfl | exact Or.inr rfl) (zax (dds := []) c_ring_of_steps (hr.mono (by decide)) (m_bw (vb_ 2) za2)))
      (zaa (zaN (znq (q_is (vb_ 4) (SE.toB zep)) zep (zfF (zaJ zfG (zaJ (zd4 (by rfl) T.b_tuple (zao (vb_ 4) zaE)) zbA)))))
      zaf))))
noncomputable abbrev zdN : Stmt := top 13
noncomputable abbrev zei : List Str := ["wishes","dealing","line"]
noncomputable abbrev zde : List Str := ["wishes","dealing"]
theorem zdR : FnScope zei zde (zae zdN) := ⟨rfl,rfl,rfl,by decide +kernel,rfl,by decide +kernel,by decide +kernel⟩
noncomputable def zbr : FS :=
  (seqF (setF q106 2 (zaz (zab (gv 0) (zab (gv 1) lNil)) [] zcc)) (seqF (retF q106 (fIf (zaq (f2 (gv 2) (fun _ => Res.ok D.non) isD)) (zaz (zab (gv 0) (zab (gv 1) lNil)) [] zcH) (gv 2))) zak))
noncomputable def zaR : List D→Res D := fun ds => outR false (zbr (zaw zei.length ds))
theorem zkF {P : Program} {w : World} {K : PySem.W.Frag} {mg : Str→Option Value} {base : Heap} (T : Txt K mg) (A : DefAt K mg "betterment" zdN) (c_line_for : Callee P w K mg base "line_for" zea [] 2 false [.bw,.sh] zcc) (c_ring_for : Callee P w K mg base "ring_for" zd9 [] 4 false [.bw,.sh] zcH) : Callee P w K mg base "betterment" zde [] 5 false [.bw,.sh] zaR := by
  refine za5 (k := 4) (fs := zbr) (m' := q106) A zdR rfl (fun _ _ _ _ _ _ us hl => by obtain ⟨u0,u1,rfl⟩ := zes us hl; kernel_rfl) fun f cdv A outer s H g E hr => ?_
  have hu1 := zb0 hr
  have hu64 := hr.units
  exact (zaa (zbw 2 zdR.nd (by rfl) (by first | exact Or.inl rfl | exact Or.inr rfl) (zax (dds := []) c_line_for (hr.mono (by decide)) (m_bw (vb_ 0) (m_sh (v_ 1) za2))))
      (zaa (zaN (znq (q_is (vb_ 2) (SE.toB zep)) (zax (dds := []) c_ring_for (hr.mono (by decide)) (m_bw (vb_ 0) (m_sh (v_ 1) za2))) (v_ 2)))
      zaf))
noncomputable abbrev za4 : Stmt := top 22
noncomputable abbrev zbf : List Str := ["_law_dealing","_law_way","_law_things"]
noncomputable abbrev zbd : List Str := ["_law_dealing","_law_way"]
theorem zco : FnScope zbf zbd (zae za4) := ⟨rfl,rfl,rfl,by decide +kernel,rfl,by decide +kernel,by decide +kernel⟩
noncomputable def zbh : FS :=
  (seqF (setF q107 2 (zch 1 [0] (fSeq zbk (fSlA (f2 (gv 1) (ci 1) ixA) (zeu (ci 1)) (fun _ => Res.ok none))) (ftN 0) (fun _ => Res.ok true) (f2 (gv 1) (gv 0) ixA))) (seqF (ifF q112 (zaq (f2 (f2 (gv 1) (ci 0) ixA) (fun _ => Res.ok (D.str "ring")) eqD)) (seqF (retF q112 (f2 (gv 2) (mkL (zab (f2 (gv 0) (f2 (f2 (gv 1) (ci 1) ixA) (ci 0) ixA) ixA) lNil)) addA)) zak) zak) (seqF (retF q112 (f2 (gv 2) (mkL (zab (f2 (gv 1) (ci 2) ixA) lNil)) addA)) zak)))
noncomputable def zaA : List D→Res D := fun ds => outR false (zbh (zaw zbf.length ds))
theorem zhy {P : Program} {w : World} {K : PySem.W.Frag} {mg : Str→Option Value} {base : Heap} (T : Txt K mg) (A : DefAt K mg "_law_things_got" za4) : Callee P w K mg base "_law_things_got" zbd [] 1 false q102 zaA := by
  refine za5 (k := 0) (fs := zbh) (m' := q112) A zco rfl (fun _ _ _ _ _ _ us hl => by obtain ⟨u0,u1,rfl⟩ := zes us hl; kernel_rfl) fun f cdv A outer s H g E hr => ?_
  have hu1 := zb0 hr
  have hu64 := hr.units
  exact (zaa (zdS 2 (X := (cxOf CX0 P w K mg base zbf "_law_things_got" (zae za4) f cdv A outer s H E).nox) (m := q107) (N' := ["_law_hand","_law_dealing"]) (nl := 1) (cap := [0]) zco.nd rfl (by rfl) (by rfl) (za8 (osc := (zae za4)) (ON := zbf) rfl rfl (by decide +kernel)) (zdZ (SE.toB (zgS (SE.toB (zaD hu1 (vb_ 1) (SE.toB zap))) (zeR (SE.toB zap)) zeS))) (fun _ _ _ _ _ _ => (zaL 0 (show List.Nodup (["_law_hand","_law_dealing"] : List Str) by decide +kernel) (by rfl) (by first | exact Or.inl rfl | exact Or.inr rfl))) (zc1 (by decide)) (fun _ _ _ _ _ _ => zhw) (fun _ _ _ _ _ _ => (zaD hu1 (vb_ 1) (vb_ 0))))
      (zaa (s_if (q_eq hu64 (SE.toB (zaD hu1 (vb_ 1) (SE.toB zap))) (SE.toB zfG)) (zaa (zaN (zcB (vb_ 2) (SO.toB (zfh (zaJ (zaD hu1 (vb_ 0) (SE.toB (zaD hu1 (SE.toB (zaD hu1 (vb_ 1) (SE.toB zap))) (SE.toB zap)))) zbA)))))
      zaf)
      zaf)
      (zaa (zaN (zcB (vb_ 2) (SO.toB (zfh (zaJ (zaD hu1 (vb_ 1) (SE.toB zap)) zbA)))))
      zaf)))
noncomputable abbrev zfl : Stmt := top 27
noncomputable abbrev zgJ : List Str := ["_law_dealing","_law_way","_law_got","_law_hand","_law_thing"]
noncomputable abbrev ze9 : List Str := ["_law_dealing","_law_way"]
theorem zdk : FnScope zgJ ze9 (zae zfl) := ⟨rfl,rfl,rfl,by decide +kernel,rfl,by decide +kernel,by decide +kernel⟩
noncomputable abbrev zfd : FS :=
  (seqF (putF q118 2 (gv 3) (gv 4)) zak)
noncomputable def zd2 : FS :=
  (seqF (setF [.bw,.bw,.sh,.sh,.sh] 2 (fC (zab (gv 0) lNil) zgr)) (seqF (zcf q118 (fZip (f2 (gv 1) (ci 1) ixA) (zaz (zab (gv 0) (zab (gv 1) lNil)) [] zaA)) (ftT (zaS (ftN 3) (zaS (ftN 4) zdH))) zfd) (seqF (retF q118 (fC (zab (gv 2) lNil) tupD)) zak)))
noncomputable def zdj : List D→Res D := fun ds => outR false (zd2 (zaw zgJ.length ds))
theorem zm1 {P : Program} {w : World} {K : PySem.W.Frag} {mg : Str→Option Value} {base : Heap} (T : Txt K mg) (A : DefAt K mg "_law_by" zfl) (c__law_things_got : Callee P w K mg base "_law_things_got" zbd [] 1 false q102 zaA) : Callee P w K mg base "_law_by" ze9 [] 2 false q102 zdj := by
  refine za5 (k := 1) (fs := zd2) (m' := q118) A zdk rfl (fun _ _ _ _ _ _ us hl => by obtain ⟨u0,u1,rfl⟩ := zes us hl; kernel_rfl) fun f cdv A outer s H g E hr => ?_
  have hu1 := zb0 hr
  have hu64 := hr.units
  exact (zaa (zc9 2 zdk.nd (by rfl) (by first | exact Or.inl rfl | exact Or.inr rfl) (zi5 (by rfl) T.b_list (zao (vb_ 0) zaE)))
      (zaa (zeN PassesOwn.never rfl (zmK (by rfl) T.b_zip (zaD hu1 (vb_ 1) (SE.toB zap)) (zax (dds := []) c__law_things_got (hr.mono (by decide)) (m_bw (vb_ 0) (m_bw (vb_ 1) za2)))) (zjB rfl (zdC (zaL 3 zdk.nd (by rfl) (by first | exact Or.inl rfl | exact Or.inr rfl)) (zdC (zaL 4 zdk.nd (by rfl) (by first | exact Or.inl rfl | exact Or.inr rfl)) zjC))) (zaa (ziy 2 hu1 rfl (by rfl) (by first | exact Or.inl rfl | exact Or.inr (Or.inl rfl) | exact Or.inr (Or.inr rfl)) (vb_ 3) (v_ 4))
      zaf))
      (zaa (zaN (zd4 (by rfl) T.b_tuple (zao (vb_ 2) zaE)))
      zaf)))
noncomputable abbrev zdu : Stmt := top 4
noncomputable abbrev zd1 : List Str := ["hands"]
noncomputable abbrev zcT : List Str := ["hands"]
theorem zfe : FnScope zd1 zcT (zae zdu) := ⟨rfl,rfl,rfl,by decide +kernel,rfl,by decide +kernel,by decide +kernel⟩
noncomputable def zb9 : FS :=
  (seqF (retF [Md.bw] (f2 (fSlA (gv 0) (zeu (ci 1)) (fun _ => Res.ok none)) (fSlA (gv 0) (fun _ => Res.ok none) (zeu (ci 1))) addE)) zak)
noncomputable def zbg : List D→Res D := fun ds => outR false (zb9 (zaw zd1.length ds))
theorem zke {P : Program} {w : World} {K : PySem.W.Frag} {mg : Str→Option Value} {base : Heap} (T : Txt K mg) (A : DefAt K mg "ones_behind" zdu) : Callee P w K mg base "ones_behind" zcT [] 1 false [Md.bw] zbg := by
  refine za5 (k := 0) (fs := zb9) (m' := [Md.bw]) A zfe rfl (fun _ _ _ _ _ _ us hl => by obtain ⟨u0,rfl⟩ := zkO us hl; kernel_rfl) fun f cdv A outer s H g E hr => ?_
  have hu1 := zb0 hr
  have hu64 := hr.units
  exact (zaa (zaN (znv (SE.toB (zgS (vb_ 0) (zeR (SE.toB zap)) zeS)) (SE.toB (zgS (vb_ 0) zeS (zeR (SE.toB zap))))))
      zaf)
noncomputable abbrev zbs : Stmt := top 14
noncomputable abbrev zbL : List Str := ["dealing","way","things"]
noncomputable abbrev zcx : List Str := ["dealing","way"]
theorem zc6 : FnScope zbL zcx (zae zbs) := ⟨rfl,rfl,rfl,by decide +kernel,rfl,by decide +kernel,by decide +kernel⟩
noncomputable def zbQ : FS :=
  (seqF (setF q107 2 (zch 1 [0] (fSeq zbk (zaz (zab (f2 (gv 1) (ci 1) ixA) lNil) [] zbg)) (ftN 0) (fun _ => Res.ok true) (f2 (gv 1) (gv 0) ixA))) (seqF (ifF q112 (zaq (f2 (f2 (gv 1) (ci 0) ixA) (fun _ => Res.ok (D.str "line")) eqD)) (seqF (putF q112 2 (f1 (ci 1) negI) (f2 (gv 1) (ci 2) ixA)) zak) zak) (seqF (retF q107 (gv 2)) zak)))
noncomputable def zbO : List D→Res D := fun ds => outR false (zbQ (zaw zbL.length ds))
theorem zi0 {P : Program} {w : World} {K : PySem.W.Frag} {mg : Str→Option Value} {base : Heap} (T : Txt K mg) (A : DefAt K mg "things_along" zbs) (c_ones_behind : Callee P w K mg base "ones_behind" zcT [] 1 false [Md.bw] zbg) : Callee P w K mg base "things_along" zcx [] 2 false q102 zbO := by
  refine za5 (k := 1) (fs := zbQ) (m' := q107) A zc6 rfl (fun _ _ _ _ _ _ us hl => by obtain ⟨u0,u1,rfl⟩ := zes us hl; kernel_rfl) fun f cdv A outer s H g E hr => ?_
  have hu1 := zb0 hr
  have hu64 := hr.units
  exact (zaa (zdS 2 (X := (cxOf CX0 P w K mg base zbL "things_along" (zae zbs) f cdv A outer s H E).nox) (m := q107) (N' := ["hand","dealing"]) (nl := 1) (cap := [0]) zc6.nd rfl (by rfl) (by rfl) (za8 (osc := (zae zbs)) (ON := zbL) rfl rfl (by decide +kernel)) (zdZ (SE.toB (zax (dds := []) c_ones_behind (hr.mono (by decide)) (m_bw (SE.toB (zaD hu1 (vb_ 1) (SE.toB zap))) za2)))) (fun _ _ _ _ _ _ => (zaL 0 (show List.Nodup (["hand","dealing"] : List Str) by decide +kernel) (by rfl) (by first | exact Or.inl rfl | exact Or.inr rfl))) (zc1 (by decide)) (fun _ _ _ _ _ _ => zhw) (fun _ _ _ _ _ _ => (zaD hu1 (vb_ 1) (vb_ 0))))
      (zaa (s_if (q_eq hu64 (SE.toB (zaD hu1 (vb_ 1) (SE.toB zap))) (SE.toB zfG)) (zaa (ziy 2 hu1 rfl (by rfl) (by first | exact Or.inl rfl | exact Or.inr (Or.inl rfl) | exact Or.inr (Or.inr rfl)) (SE.toB (zpl (SE.toB zap))) (zaD hu1 (vb_ 1) (SE.toB zap)))
      zaf)
      zaf)
      (zaa (znr 2 rfl (zaN (v_ 2)))
      zaf)))
noncomputable abbrev zeI : Stmt := top 15
noncomputable abbrev zfz : List Str := ["wishes","dealing","way","told","hand","thing"]
noncomputable abbrev zeb : List Str := ["wishes","dealing","way"]
theorem zcN : FnScope zfz zeb (zae zeI) := ⟨rfl,rfl,rfl,by decide +kernel,rfl,by decide +kernel,by decide +kernel⟩
noncomputable abbrev zem : FS :=
  (seqF (putF q119 3 (gv 4) (gv 5)) zak)
noncomputable def zds : FS :=
  (seqF (setF [.bw,.bw,.bw,.sh,.sh,.sh] 3 (fC (zab (gv 1) lNil) zgr)) (seqF (zcf q119 (fZip (f2 (gv 2) (ci 1) ixA) (zaz (zab (gv 1) (zab (gv 2) lNil)) [] zbO)) (ftT (zaS (ftN 4) (zaS (ftN 5) zdH))) zem) (seqF (retF q119 (fC (zab (gv 3) lNil) tupD)) zak)))
noncomputable def zcI : List D→Res D := fun ds => outR false (zds (zaw zfz.length ds))
theorem zmt {P : Program} {w : World} {K : PySem.W.Frag} {mg : Str→Option Value} {base : Heap} (T : Txt K mg) (A : DefAt K mg "bettered" zeI) (c_things_along : Callee P w K mg base "things_along" zcx [] 2 false q102 zbO) : Callee P w K mg base "bettered" zeb [] 3 false q109 zcI := by
  refine za5 (k := 2) (fs := zds) (m' := q119) A zcN rfl (fun _ _ _ _ _ _ us hl => by obtain ⟨u0,u1,u2,rfl⟩ := zji us hl; kernel_rfl) fun f cdv A outer s H g E hr => ?_
  have hu1 := zb0 hr
  have hu64 := hr.units
  exact (zaa (zc9 3 zcN.nd (by rfl) (by first | exact Or.inl rfl | exact Or.inr rfl) (zi5 (by rfl) T.b_list (zao (vb_ 1) zaE)))
      (zaa (zeN PassesOwn.never rfl (zmK (by rfl) T.b_zip (zaD hu1 (vb_ 2) (SE.toB zap)) (zax (dds := []) c_things_along (hr.mono (by decide)) (m_bw (vb_ 1) (m_bw (vb_ 2) za2)))) (zjB rfl (zdC (zaL 4 zcN.nd (by rfl) (by first | exact Or.inl rfl | exact Or.inr rfl)) (zdC (zaL 5 zcN.nd (by rfl) (by first | exact Or.inl rfl | exact Or.inr rfl)) zjC))) (zaa (ziy 3 hu1 rfl (by rfl) (by first | exact Or.inl rfl | exact Or.inr (Or.inl rfl) | exact Or.inr (Or.inr rfl)) (vb_ 4) (v_ 5))
      zaf))
      (zaa (zaN (zd4 (by rfl) T.b_tuple (zao (vb_ 3) zaE)))
      zaf)))
noncomputable abbrev zau : Stmt := top 28
noncomputable abbrev zay : List Str := ["_law_wishes_here","_law_dealing","_law_cell_here","_law_ways","_law_left","_law_one","_law_wanted","_law_other","_law_row_here","_law_behind","_law_both"]
noncomputable abbrev zb1 : List Str := ["_law_wishes_here","_law_dealing","_law_cell_here"]
theorem zal : FnScope zay zb1 (zae zau) := ⟨rfl,rfl,rfl,by decide +kernel,rfl,by decide +kernel,by decide +kernel⟩
noncomputable abbrev zbx : FS :=
  (seqF (ifF q101 (zaq (f2 (f2 (gv 1) (gv 7) ixA) (gv 6) inD)) (seqF (setF q101 8 (f2 (gv 0) (gv 7) ixA)) (seqF (setF q101 9 (fSlA (gv 8) (fun _ => Res.ok none) (zeu (fM "tuple" (gv 8) (zab (f2 (gv 1) (gv 7) ixA) lNil) zcQ)))) (seqF (setF q101 10 (mkT (zab (gv 5) (zab (gv 7) lNil)))) (seqF (mutF "list" q101 3 (zab (zch 1 [10,4] (fSeq zbk (gv 9)) (ftN 0) (zaq (f2 (gv 0) (gv 2) inD)) (mkT (zab (fun _ => Res.ok (D.str "line")) (zab (gv 1) (zab (gv 0) lNil))))) lNil) extD) (seqF (ifF q101 (zaq (f2 (f2 (gv 1) (gv 5) ixA) (gv 9) inD)) (seqF (mutF "list" q101 3 (zab (mkT (zab (fun _ => Res.ok (D.str "ring")) (zab (gv 10) lNil))) lNil) appD) zak) zak) zak))))) zak) zak)
noncomputable abbrev zcr : FS :=
  (seqF (setF q101 6 (fSlA (f2 (gv 0) (gv 5) ixA) (fun _ => Res.ok none) (zeu (fM "tuple" (f2 (gv 0) (gv 5) ixA) (zab (f2 (gv 1) (gv 5) ixA) lNil) zcQ)))) (seqF (mutF "list" q101 3 (zab (zch 1 [5,4] (fSeq zbk (gv 6)) (ftN 0) (zaq (f2 (gv 0) (gv 2) inD)) (mkT (zab (fun _ => Res.ok (D.str "line")) (zab (mkT (zab (gv 1) lNil)) (zab (gv 0) lNil))))) lNil) extD) (seqF (zcf q101 (fRng rng1 (zab (fC (zab (gv 0) lNil) lenD) lNil)) (ftN 7) zbx) zak)))
noncomputable def zbm : FS :=
  (seqF (setF [.bw,.bw,.bw,.sh,.sh,.sh,.sh,.sh,.sh,.sh,.sh] 3 (mkL lNil)) (seqF (setF q101 4 (zch 1 [1] (fRng rng1 (zab (fC (zab (f2 (gv 0) (ci 0) ixA) lNil) lenD) lNil)) (ftN 0) (zaq (f2 (gv 0) (gv 1) ninD)) (gv 0))) (seqF (zcf q101 (fRng rng1 (zab (fC (zab (gv 0) lNil) lenD) lNil)) (ftN 5) zcr) (seqF (ifF q101 (zaq (f2 (gv 3) (mkL lNil) eqD)) (seqF (retF q101 (fun _ => Res.ok D.non)) zak) zak) (seqF (retF q101 (f2 (gv 3) (f2 (gv 2) (fC (zab (gv 3) lNil) lenD) modI) ixA)) zak)))))
noncomputable def zaM : List D→Res D := fun ds => outR false (zbm (zaw zay.length ds))
theorem zh6 {P : Program} {w : World} {K : PySem.W.Frag} {mg : Str→Option Value} {base : Heap} (T : Txt K mg) (A : DefAt K mg "_law_other_way" zau) : Callee P w K mg base "_law_other_way" zb1 [] 1 false q109 zaM := by
  refine za5 (k := 0) (fs := zbm) (m' := q101) A zal rfl (fun _ _ _ _ _ _ us hl => by obtain ⟨u0,u1,u2,rfl⟩ := zji us hl; kernel_rfl) fun f cdv A outer s H g E hr => ?_
  have hu1 := zb0 hr
  have hu64 := hr.units
  exact (zaa (zc9 3 zal.nd (by rfl) (by first | exact Or.inl rfl | exact Or.inr rfl) (zfh zbA))
      (zaa (zbw 4 zal.nd (by rfl) (by first | exact Or.inl rfl | exact Or.inr rfl) (SO.toE (zeT (X := (cxOf CX0 P w K mg base zay "_law_other_way" (zae zau) f cdv A outer s H E).nox) (N' := ["_law_thing","_law_dealing"]) (nl := 1) (cap := [1]) zal.nd rfl (za8 (osc := (zae zau)) (ON := zay) rfl rfl (by decide +kernel)) (SIt.toC (zb4 (by rfl) T.b_range (zao (SE.toB (zb3 (by rfl) T.b_len (zao (SE.toB (zaD hu1 (vb_ 0) (SE.toB zap))) zaE))) zaE))) (fun _ _ _ _ _ _ => (zaL 0 (show List.Nodup (["_law_thing","_law_dealing"] : List Str) by decide +kernel) (by rfl) (by first | exact Or.inl rfl | exact Or.inr rfl))) (zc1 (by decide)) (fun _ _ _ _ _ _ => (zeP (ziK hu1 (vb_ 0) (vb_ 1)))) (fun _ _ _ _ _ _ => (v_ 0)))))
      (zaa (zeN PassesOwn.never rfl (zb4 (by rfl) T.b_range (zao (SE.toB (zb3 (by rfl) T.b_len (zao (vb_ 0) zaE))) zaE)) (zaL 5 zal.nd (by rfl) (by first | exact Or.inl rfl | exact Or.inr rfl)) (zaa (zbw 6 zal.nd (by rfl) (by first | exact Or.inl rfl | exact Or.inr rfl) (zgS (SE.toB (zaD hu1 (vb_ 0) (vb_ 5))) zeS (zeR (SE.toB (s_bm PySem.F.plainAttrs_tuple PySem.F.slot_tuple_index PySem.F.type_tuple_index zcD zcE (SE.toB (zaD hu1 (vb_ 0) (vb_ 5))) (zao (SE.toB (zaD hu1 (vb_ 1) (vb_ 5))) zaE))))))
      (zaa (zfH 3 rfl PySem.F.plainAttrs_list PySem.F.slot_list_extend PySem.F.type_list_extend zfr zlM (by rfl) (by first | exact Or.inl rfl | exact Or.inr (Or.inl rfl) | exact Or.inr (Or.inr rfl)) (zaJ (SO.toE (zeT (X := (cxOf CX0 P w K mg base zay "_law_other_way" (zae zau) f cdv A outer s H E).nox) (N' := ["_law_thing","_law_one","_law_left"]) (nl := 1) (cap := [5,4]) zal.nd rfl (za8 (osc := (zae zau)) (ON := zay) rfl rfl (by decide +kernel)) (zdZ (vb_ 6)) (fun _ _ _ _ _ _ => (zaL 0 (show List.Nodup (["_law_thing","_law_one","_law_left"] : List Str) by decide +kernel) (by rfl) (by first | exact Or.inl rfl | exact Or.inr rfl))) (zc1 (by decide)) (fun _ _ _ _ _ _ => (zeP (q_in hu1 (vb_ 0) (vb_ 2)))) (fun _ _ _ _ _ _ => (zfF (zaJ zfG (zaJ (zfF (zaJ (v_ 1) zbA)) (zaJ (v_ 0) zbA))))))) zbA))
      (zaa (zeN PassesOwn.never rfl (zb4 (by rfl) T.b_range (zao (SE.toB (zb3 (by rfl) T.b_len (zao (vb_ 0) zaE))) zaE)) (zaL 7 zal.nd (by rfl) (by first | exact Or.inl rfl | exact Or.inr rfl)) (zaa (s_if (q_in hu1 (SE.toB (zaD hu1 (vb_ 1) (vb_ 7))) (vb_ 6)) (zaa (zbw 8 zal.nd (by rfl) (by first | exact Or.inl rfl | exact Or.inr rfl) (zaD hu1 (vb_ 0) (vb_ 7)))
      (zaa (zbw 9 zal.nd (by rfl) (by first | exact Or.inl rfl | exact Or.inr rfl) (zgS (vb_ 8) zeS (zeR (SE.toB (s_bm PySem.F.plainAttrs_tuple PySem.F.slot_tuple_index PySem.F.type_tuple_index zcD zcE (vb_ 8) (zao (SE.toB (zaD hu1 (vb_ 1) (vb_ 7))) zaE))))))
      (zaa (zbw 10 zal.nd (by rfl) (by first | exact Or.inl rfl | exact Or.inr rfl) (zfF (zaJ (v_ 5) (zaJ (v_ 7) zbA))))
      (zaa (zfH 3 rfl PySem.F.plainAttrs_list PySem.F.slot_list_extend PySem.F.type_list_extend zfr zlM (by rfl) (by first | exact Or.inl rfl | exact Or.inr (Or.inl rfl) | exact Or.inr (Or.inr rfl)) (zaJ (SO.toE (zeT (X := (cxOf CX0 P w K mg base zay "_law_other_way" (zae zau) f cdv A outer s H E).nox) (N' := ["_law_thing","_law_both","_law_left"]) (nl := 1) (cap := [10,4]) zal.nd rfl (za8 (osc := (zae zau)) (ON := zay) rfl rfl (by decide +kernel)) (zdZ (vb_ 9)) (fun _ _ _ _ _ _ => (zaL 0 (show List.Nodup (["_law_thing","_law_both","_law_left"] : List Str) by decide +kernel) (by rfl) (by first | exact Or.inl rfl | exact Or.inr rfl))) (zc1 (by decide)) (fun _ _ _ _ _ _ => (zeP (q_in hu1 (vb_ 0) (vb_ 2)))) (fun _ _ _ _ _ _ => (zfF (zaJ zfG (zaJ (v_ 1) (zaJ (v_ 0) zbA))))))) zbA))
      (zaa (s_if (q_in hu1 (SE.toB (zaD hu1 (vb_ 1) (vb_ 5))) (vb_ 9)) (zaa (zfH 3 rfl PySem.F.plainAttrs_list PySem.F.slot_list_append PySem.F.type_list_append zda zhM (by rfl) (by first | exact Or.inl rfl | exact Or.inr (Or.inl rfl) | exact Or.inr (Or.inr rfl)) (zaJ (zfF (zaJ zfG (zaJ (v_ 10) zbA))) zbA))
      zaf)
      zaf)
      zaf)))))
      zaf)
      zaf))
      zaf))))
      (zaa (s_if (q_eq hu64 (vb_ 3) (SO.toB (zfh zbA))) (zaa (zaN zep)
      zaf)
      zaf)
      (zaa (zaN (zaD hu1 (vb_ 3) (SE.toB (zeM (vb_ 2) (SE.toB (zb3 (by rfl) T.b_len (zao (vb_ 3) zaE)))))))
      zaf)))))
noncomputable abbrev zdP : Stmt := top 21
noncomputable abbrev zek : List Str := ["_law_wishes_here","_law_hand","_law_one","_law_other"]
noncomputable abbrev zdg : List Str := ["_law_wishes_here","_law_hand","_law_one","_law_other"]
theorem zfE : FnScope zek zdg (zae zdP) := ⟨rfl,rfl,rfl,by decide +kernel,rfl,by decide +kernel,by decide +kernel⟩
noncomputable def zcv : FS :=
  (seqF (retF q108 (f2 (fM "tuple" (f2 (gv 0) (gv 1) ixA) (zab (gv 2) lNil) zcQ) (fM "tuple" (f2 (gv 0) (gv 1) ixA) (zab (gv 3) lNil) zcQ) ltI)) zak)
noncomputable def zct : List D→Res D := fun ds => outR false (zcv (zaw zek.length ds))
theorem zkH {P : Program} {w : World} {K : PySem.W.Frag} {mg : Str→Option Value} {base : Heap} (T : Txt K mg) (A : DefAt K mg "_law_likes" zdP) : Callee P w K mg base "_law_likes" zdg [] 1 false q108 zct := by
  refine za5 (k := 0) (fs := zcv) (m' := q108) A zfE rfl (fun _ _ _ _ _ _ us hl => by obtain ⟨u0,u1,u2,u3,rfl⟩ := zmz us hl; kernel_rfl) fun f cdv A outer s H g E hr => ?_
  have hu1 := zb0 hr
  have hu64 := hr.units
  exact (zaa (zaN (s_lt (SE.toB (s_bm PySem.F.plainAttrs_tuple PySem.F.slot_tuple_index PySem.F.type_tuple_index zcD zcE (SE.toB (zaD hu1 (vb_ 0) (vb_ 1))) (zao (vb_ 2) zaE))) (SE.toB (s_bm PySem.F.plainAttrs_tuple PySem.F.slot_tuple_index PySem.F.type_tuple_index zcD zcE (SE.toB (zaD hu1 (vb_ 0) (vb_ 1))) (zao (vb_ 3) zaE)))))
      zaf)
noncomputable abbrev zc0 : Stmt := top 23
noncomputable abbrev zdi : List Str := ["_law_one","_law_many"]
noncomputable abbrev zck : List Str := ["_law_one","_law_many"]
theorem zeo : FnScope zdi zck (zae zc0) := ⟨rfl,rfl,rfl,by decide +kernel,rfl,by decide +kernel,by decide +kernel⟩
noncomputable def zbz : FS :=
  (seqF (retF q102 (vAnd (f1 (gv 0) (isiD "int")) (vAnd (vNot (f1 (gv 0) (isiD "bool"))) (zgA (ci 0) (gv 0) (gv 1) leI ltI)))) zak)
noncomputable def zbc : List D→Res D := fun ds => outR false (zbz (zaw zdi.length ds))
theorem zik {P : Program} {w : World} {K : PySem.W.Frag} {mg : Str→Option Value} {base : Heap} (T : Txt K mg) (A : DefAt K mg "_law_is_whole" zc0) : Callee P w K mg base "_law_is_whole" zck [] 1 false q102 zbc := by
  refine za5 (k := 0) (fs := zbz) (m' := q102) A zeo rfl (fun _ _ _ _ _ _ us hl => by obtain ⟨u0,u1,rfl⟩ := zes us hl; kernel_rfl) fun f cdv A outer s H g E hr => ?_
  have hu1 := zb0 hr
  have hu64 := hr.units
  exact (zaa (zaN (znu (ziz "int" "int" rfl (zmC _) (by rfl) T.b_isinstance (by rfl) T.b_int (vb_ 0)) (znu (zpk (ziz "bool" "bool" rfl (zkQ _) (by rfl) T.b_isinstance (by rfl) T.b_bool (vb_ 0))) (zpj (zkq zpz zmo zpD zpC (SE.toB zap) (vb_ 0) (vb_ 1))))))
      zaf)
noncomputable abbrev zbI : Stmt := top 24
noncomputable abbrev zb6 : List Str := ["_law_wishes_here","_law_dealing","_law_way","_law_hand","_law_thing"]
noncomputable abbrev zcV : List Str := ["_law_wishes_here","_law_dealing","_law_way"]
theorem zbJ : FnScope zb6 zcV (zae zbI) := ⟨rfl,rfl,rfl,by decide +kernel,rfl,by decide +kernel,by decide +kernel⟩
noncomputable abbrev zcm : FS :=
  (seqF (ifF q103 (fNot (fTru (zaz (zab (gv 0) (zab (gv 3) (zab (gv 4) (zab (f2 (gv 1) (gv 3) ixA) lNil)))) [] zct))) (seqF (retF q103 (fun _ => Res.ok (D.bl false))) zak) zak) zak)
noncomputable def zcb : FS :=
  (seqF (ifF q103 (fOr (fNot (fTru (f1 (gv 2) (isiD "tuple")))) (fOr (zaq (f2 (fC (zab (gv 2) lNil) lenD) (mkT (zab (ci 2) (zab (ci 3) lNil))) ninD)) (fNot (fTru (f1 (f2 (gv 2) (ci 1) ixA) (isiD "tuple")))))) (seqF (retF q103 (fun _ => Res.ok (D.bl false))) zak) zak) (seqF (ifF q103 (fNot (fTru (fC (zab (zch 1 [0] (fSeq zbk (f2 (gv 2) (ci 1) ixA)) (ftN 0) (fun _ => Res.ok true) (zaz (zab (gv 0) (zab (fC (zab (gv 1) lNil) lenD) lNil)) [] zbc)) lNil) allD))) (seqF (retF q103 (fun _ => Res.ok (D.bl false))) zak) zak) (seqF (ifF q103 (fOr (zaq (f2 (fC (zab (f2 (gv 2) (ci 1) ixA) lNil) lenD) (ci 0) eqD)) (zaq (f2 (f1 (f2 (gv 2) (ci 1) ixA) zlY) (fC (zab (f2 (gv 2) (ci 1) ixA) lNil) lenD) ltI))) (seqF (retF q103 (fun _ => Res.ok (D.bl false))) zak) zak) (seqF (ifF q103 (fAnd (zaq (f2 (fC (zab (gv 2) lNil) lenD) (ci 2) eqD)) (fOr (zaq (f2 (f2 (gv 2) (ci 0) ixA) (fun _ => Res.ok (D.str "ring")) neD)) (zaq (f2 (fC (zab (f2 (gv 2) (ci 1) ixA) lNil) lenD) (ci 2) ltI)))) (seqF (retF q103 (fun _ => Res.ok (D.bl false))) zak) zak) (seqF (ifF q103 (fAnd (zaq (f2 (fC (zab (gv 2) lNil) lenD) (ci 3) eqD)) (fOr (zaq (f2 (f2 (gv 2) (ci 0) ixA) (fun _ => Res.ok (D.str "line")) neD)) (fNot (fTru (zaz (zab (f2 (gv 2) (ci 2) ixA) (zab (fC (zab (f2 (gv 0) (ci 0) ixA) lNil) lenD) lNil)) [] zbc))))) (seqF (retF q103 (fun _ => Res.ok (D.bl false))) zak) zak) (seqF (ifF q103 (fAnd (zaq (f2 (fC (zab (gv 2) lNil) lenD) (ci 3) eqD)) (zaq (f2 (f2 (gv 2) (ci 2) ixA) (gv 1) inD))) (seqF (retF q103 (fun _ => Res.ok (D.bl false))) zak) zak) (seqF (zcf q103 (fZip (f2 (gv 2) (ci 1) ixA) (zaz (zab (gv 1) (zab (gv 2) lNil)) [] zaA)) (ftT (zaS (ftN 3) (zaS (ftN 4) zdH))) zcm) (seqF (retF q103 (fun _ => Res.ok (D.bl true))) zak))))))))
noncomputable def zb8 : List D→Res D := fun ds => outR false (zcb (zaw zb6.length ds))
theorem zkg {P : Program} {w : World} {K : PySem.W.Frag} {mg : Str→Option Value} {base : Heap} (T : Txt K mg) (A : DefAt K mg "_law_is_way" zbI) (c__law_is_whole : Callee P w K mg base "_law_is_whole" zck [] 1 false q102 zbc) (c__law_things_got : Callee P w K mg base "_law_things_got" zbd [] 1 false q102 zaA) (c__law_likes : Callee P w K mg base "_law_likes" zdg [] 1 false q108 zct) : Callee P w K mg base "_law_is_way" zcV [] 2 false q109 zb8 := by
  refine za5 (k := 1) (fs := zcb) (m' := q103) A zbJ rfl (fun _ _ _ _ _ _ us hl => by obtain ⟨u0,u1,u2,rfl⟩ := zji us hl; kernel_rfl) fun f cdv A outer s H g E hr => ?_
  have hu1 := zb0 hr
  have hu64 := hr.units
  exact (zaa (s_if (SW.toQ (q_or (zgg (zeQ (SE.toB (ziz "tuple" "tuple" rfl (zeX _) (by rfl) T.b_isinstance (by rfl) T.b_tuple (vb_ 2))))) (q_or (ziK hu1 (SE.toB (zb3 (by rfl) T.b_len (zao (vb_ 2) zaE))) (SE.toB (zfF (zaJ zap (zaJ zap zbA))))) (zh3 (zgg (zeQ (SE.toB (ziz "tuple" "tuple" rfl (zeX _) (by rfl) T.b_isinstance (by rfl) T.b_tuple (SE.toB (zaD hu1 (vb_ 2) (SE.toB zap))))))))))) (zaa (zaN s_bl)
      zaf)
      zaf)
      (zaa (s_if (zgg (zeQ (SE.toB (zpo rfl (by rfl) T.b_all (zao (SO.toB (zeT (X := (cxOf CX0 P w K mg base zb6 "_law_is_way" (zae zbI) f cdv A outer s H E).nox) (N' := ["_law_hand","_law_wishes_here"]) (nl := 1) (cap := [0]) zbJ.nd rfl (za8 (osc := (zae zbI)) (ON := zb6) rfl rfl (by decide +kernel)) (zdZ (SE.toB (zaD hu1 (vb_ 2) (SE.toB zap)))) (fun _ _ _ _ _ _ => (zaL 0 (show List.Nodup (["_law_hand","_law_wishes_here"] : List Str) by decide +kernel) (by rfl) (by first | exact Or.inl rfl | exact Or.inr rfl))) (zc1 (by decide)) (fun _ _ _ _ _ _ => zhw) (fun _ _ _ _ _ _ => (zax (dds := []) c__law_is_whole (hr.mono (by decide)) (m_bw (vb_ 0) (m_bw (SE.toB (zb3 (by rfl) T.b_len (zao (vb_ 1) zaE))) za2)))))) zaE))))) (zaa (zaN s_bl)
      zaf)
      zaf)
      (zaa (s_if (SW.toQ (q_or (q_eq hu64 (SE.toB (zb3 (by rfl) T.b_len (zao (SE.toB (zaD hu1 (vb_ 2) (SE.toB zap))) zaE))) (SE.toB zap)) (zh3 (q_lt (SE.toB (zkp rfl (by rfl) T.b_len (by rfl) T.b_set (SE.toB (zaD hu1 (vb_ 2) (SE.toB zap))))) (SE.toB (zb3 (by rfl) T.b_len (zao (SE.toB (zaD hu1 (vb_ 2) (SE.toB zap))) zaE))))))) (zaa (zaN s_bl)
      zaf)
      zaf)
      (zaa (s_if (SW.toQ (zh4 (q_eq hu64 (SE.toB (zb3 (by rfl) T.b_len (zao (vb_ 2) zaE))) (SE.toB zap)) (zfp (SW.toQ (q_or (q_ne hu64 (SE.toB (zaD hu1 (vb_ 2) (SE.toB zap))) (SE.toB zfG)) (zh3 (q_lt (SE.toB (zb3 (by rfl) T.b_len (zao (SE.toB (zaD hu1 (vb_ 2) (SE.toB zap))) zaE))) (SE.toB zap)))))))) (zaa (zaN s_bl)
      zaf)
      zaf)
      (zaa (s_if (SW.toQ (zh4 (q_eq hu64 (SE.toB (zb3 (by rfl) T.b_len (zao (vb_ 2) zaE))) (SE.toB zap)) (zfp (SW.toQ (q_or (q_ne hu64 (SE.toB (zaD hu1 (vb_ 2) (SE.toB zap))) (SE.toB zfG)) (zh3 (zgg (zeQ (SE.toB (zax (dds := []) c__law_is_whole (hr.mono (by decide)) (m_bw (SE.toB (zaD hu1 (vb_ 2) (SE.toB zap))) (m_bw (SE.toB (zb3 (by rfl) T.b_len (zao (SE.toB (zaD hu1 (vb_ 0) (SE.toB zap))) zaE))) za2)))))))))))) (zaa (zaN s_bl)
      zaf)
      zaf)
      (zaa (s_if (SW.toQ (zh4 (q_eq hu64 (SE.toB (zb3 (by rfl) T.b_len (zao (vb_ 2) zaE))) (SE.toB zap)) (zfp (q_in hu1 (SE.toB (zaD hu1 (vb_ 2) (SE.toB zap))) (vb_ 1))))) (zaa (zaN s_bl)
      zaf)
      zaf)
      (zaa (zeN PassesOwn.never rfl (zmK (by rfl) T.b_zip (zaD hu1 (vb_ 2) (SE.toB zap)) (zax (dds := []) c__law_things_got (hr.mono (by decide)) (m_bw (vb_ 1) (m_bw (vb_ 2) za2)))) (zjB rfl (zdC (zaL 3 zbJ.nd (by rfl) (by first | exact Or.inl rfl | exact Or.inr rfl)) (zdC (zaL 4 zbJ.nd (by rfl) (by first | exact Or.inl rfl | exact Or.inr rfl)) zjC))) (zaa (s_if (zgg (zeQ (SE.toB (zax (dds := []) c__law_likes (hr.mono (by decide)) (m_bw (vb_ 0) (m_bw (vb_ 3) (m_bw (vb_ 4) (m_bw (SE.toB (zaD hu1 (vb_ 1) (vb_ 3))) za2)))))))) (zaa (zaN s_bl)
      zaf)
      zaf)
      zaf))
      (zaa (zaN s_bl)
      zaf))))))))
noncomputable abbrev zee : Stmt := top 20
noncomputable abbrev zfc : List Str := ["_law_row_here","_law_left","_law_thing"]
noncomputable abbrev zdK : List Str := ["_law_row_here","_law_left"]
theorem zef : FnScope zfc zdK (zae zee) := ⟨rfl,rfl,rfl,by decide +kernel,rfl,by decide +kernel,by decide +kernel⟩
noncomputable abbrev zby : FS :=
  (seqF (ifF q107 (zaq (f2 (gv 2) (gv 1) inD)) (seqF (retF q107 (gv 2)) zak) zak) zak)
noncomputable def zcY : FS :=
  (seqF (zcf q107 (fSeq zbk (gv 0)) (ftN 2) zby) (seqF (retF q107 (fun _ => Res.ok D.non)) zak))
noncomputable def zbG : List D→Res D := fun ds => outR false (zcY (zaw zfc.length ds))
theorem zly {P : Program} {w : World} {K : PySem.W.Frag} {mg : Str→Option Value} {base : Heap} (T : Txt K mg) (A : DefAt K mg "_law_best" zee) : Callee P w K mg base "_law_best" zdK [] 1 false q102 zbG := by
  refine za5 (k := 0) (fs := zcY) (m' := q107) A zef rfl (fun _ _ _ _ _ _ us hl => by obtain ⟨u0,u1,rfl⟩ := zes us hl; kernel_rfl) fun f cdv A outer s H g E hr => ?_
  have hu1 := zb0 hr
  have hu64 := hr.units
  exact (zaa (zlo PassesOwn.never rfl (zdZ (vb_ 0)) (fun _ => (zaL 2 zef.nd (by rfl) (by first | exact Or.inl rfl | exact Or.inr rfl))) (fun _ => (zaa (s_if (q_in hu1 (vb_ 2) (vb_ 1)) (zaa (zaN (v_ 2))
      zaf)
      zaf)
      zaf)))
      (zaa (zaN zep)
      zaf))
noncomputable abbrev zb2 : Stmt := top 25
noncomputable abbrev zcl : List Str := ["_law_wishes_here","_law_dealing","_law_left","_law_order","_law_ready","_law_hand"]
noncomputable abbrev zbo : List Str := ["_law_wishes_here","_law_dealing"]
theorem zaG : FnScope zcl zbo (zae zb2) := ⟨rfl,rfl,rfl,by decide +kernel,rfl,by decide +kernel,by decide +kernel⟩
noncomputable abbrev zaP : FQ :=
  (zaq (f2 (fC (zab (gv 3) lNil) lenD) (fC (zab (gv 0) lNil) lenD) ltI))
noncomputable abbrev zba : FS :=
  (seqF (ifF q110 (fAnd (zaq (f2 (gv 5) (gv 3) ninD)) (zaq (f2 (zaz (zab (f2 (gv 0) (gv 5) ixA) (zab (gv 2) lNil)) [] zbG) (f2 (gv 1) (gv 5) ixA) eqD))) (seqF (mutF "list" q110 4 (zab (gv 5) lNil) appD) zak) zak) zak)
noncomputable abbrev zaQ : FS :=
  (seqF (setF q105 4 (mkL lNil)) (seqF (zcf q110 (fRng rng1 (zab (fC (zab (gv 0) lNil) lenD) lNil)) (ftN 5) zba) (seqF (ifF q110 (zaq (f2 (gv 4) (mkL lNil) eqD)) (seqF (retF q110 (fun _ => Res.ok D.non)) zak) zak) (seqF (mutF "list" q110 3 (zab (f2 (gv 4) (ci 0) ixA) lNil) appD) (seqF (mutF "list" q110 2 (zab (f2 (gv 1) (f2 (gv 4) (ci 0) ixA) ixA) lNil) remD) zak)))))
noncomputable def za0 : FS :=
  (seqF (setF [.bw,.bw,.sh,.sh,.sh,.sh] 2 (fC (zab (fC (zab (f2 (gv 0) (ci 0) ixA) lNil) lenD) lNil) zh8)) (seqF (setF q115 3 (mkL lNil)) (seqF (zbp q105 zaP zaQ 64) (seqF (retF q115 (gv 3)) zak))))
noncomputable def zaK : List D→Res D := fun ds => outR false (za0 (zaw zcl.length ds))
theorem zgL {P : Program} {w : World} {K : PySem.W.Frag} {mg : Str→Option Value} {base : Heap} (T : Txt K mg) (A : DefAt K mg "_law_order_behind" zb2) (c__law_best : Callee P w K mg base "_law_best" zdK [] 1 false q102 zbG) : Callee P w K mg base "_law_order_behind" zbo [] 2 false q102 zaK := by
  refine za5 (k := 1) (fs := za0) (m' := q115) A zaG rfl (fun _ _ _ _ _ _ us hl => by obtain ⟨u0,u1,rfl⟩ := zes us hl; kernel_rfl) fun f cdv A outer s H g E hr => ?_
  have hu1 := zb0 hr
  have hu64 := hr.units
  exact (zaa (zc9 2 zaG.nd (by rfl) (by first | exact Or.inl rfl | exact Or.inr rfl) (zi4 rfl (by rfl) T.b_list (by rfl) T.b_range (zao (SE.toB (zb3 (by rfl) T.b_len (zao (SE.toB (zaD hu1 (vb_ 0) (SE.toB zap))) zaE))) zaE)))
      (zaa (zc9 3 zaG.nd (by rfl) (by first | exact Or.inl rfl | exact Or.inr rfl) (zfh zbA))
      (zaa (zgR 64 PassesOwn.never (q_lt (SE.toB (zb3 (by rfl) T.b_len (zao (vb_ 3) zaE))) (SE.toB (zb3 (by rfl) T.b_len (zao (vb_ 0) zaE)))) (zf7 (m' := q110) 4 (zaa (zc9 4 zaG.nd (by rfl) (by first | exact Or.inl rfl | exact Or.inr rfl) (zfh zbA))
      (zaa (zeN PassesOwn.never rfl (zb4 (by rfl) T.b_range (zao (SE.toB (zb3 (by rfl) T.b_len (zao (vb_ 0) zaE))) zaE)) (zaL 5 zaG.nd (by rfl) (by first | exact Or.inl rfl | exact Or.inr rfl)) (zaa (s_if (SW.toQ (zh4 (ziK hu1 (vb_ 5) (vb_ 3)) (zfp (q_eq hu64 (SE.toB (zax (dds := []) c__law_best (hr.mono (by decide)) (m_bw (SE.toB (zaD hu1 (vb_ 0) (vb_ 5))) (m_bw (vb_ 2) za2)))) (SE.toB (zaD hu1 (vb_ 1) (vb_ 5))))))) (zaa (zfH 4 rfl PySem.F.plainAttrs_list PySem.F.slot_list_append PySem.F.type_list_append zda zhM (by rfl) (by first | exact Or.inl rfl | exact Or.inr (Or.inl rfl) | exact Or.inr (Or.inr rfl)) (zaJ (v_ 5) zbA))
      zaf)
      zaf)
      zaf))
      (zaa (s_if (q_eq hu64 (vb_ 4) (SO.toB (zfh zbA))) (zaa (zaN zep)
      zaf)
      zaf)
      (zaa (zfH 3 rfl PySem.F.plainAttrs_list PySem.F.slot_list_append PySem.F.type_list_append zda zhM (by rfl) (by first | exact Or.inl rfl | exact Or.inr (Or.inl rfl) | exact Or.inr (Or.inr rfl)) (zaJ (zaD hu1 (vb_ 4) (SE.toB zap)) zbA))
      (zaa (zfH 2 rfl PySem.F.plainAttrs_list PySem.F.slot_list_remove PySem.F.type_list_remove zgn zlq (by rfl) (by first | exact Or.inl rfl | exact Or.inr (Or.inl rfl) | exact Or.inr (Or.inr rfl)) (zaJ (zaD hu1 (vb_ 1) (SE.toB (zaD hu1 (vb_ 4) (SE.toB zap)))) zbA))
      zaf))))) rfl))
      (zaa (znr 3 rfl (zaN (v_ 3)))
      zaf))))
noncomputable abbrev zll : Stmt := top 29
noncomputable abbrev zoY : List Str := ["_law_script","_law_cell_here","_law_n","_law_m","_law_wishes_here","_law_dealing","_law_step","_law_way","_law_due","_law_found","_law_other"]
noncomputable abbrev zoX : List Str := ["_law_script"]
theorem zcA : FnScope zoY zoX (zae zll) := ⟨rfl,rfl,rfl,by decide +kernel,rfl,by decide +kernel,by decide +kernel⟩
noncomputable abbrev zf2 : FS :=
  (seqF (setF q0 7 (zaz (zab (gv 4) (zab (gv 5) lNil)) [] zaR)) (seqF (ifF q0 (fOr (zaq (f2 (zaz (zab (gv 4) (zab (gv 5) lNil)) [] zaR) (gv 7) neD)) (zaq (f2 (f2 (gv 7) (fun _ => Res.ok D.non) isD) (f2 (zaz (zab (gv 4) (zab (gv 5) lNil)) [] zaK) (fun _ => Res.ok D.non) isnD) neD))) (seqF (retF q0 (fun _ => Res.ok (D.bl false))) zak) zak) (seqF (ifF q0 (zaq (f2 (gv 7) (fun _ => Res.ok D.non) isD)) (seqF (retF q0 (fun _ => Res.ok (D.bl true))) zak) zak) (seqF (ifF q0 (fNot (fTru (zaz (zab (gv 4) (zab (gv 5) (zab (gv 7) lNil))) [] zb8))) (seqF (retF q0 (fun _ => Res.ok (D.bl false))) zak) zak) (seqF (setF q0 8 (zaz (zab (gv 5) (zab (gv 7) lNil)) [] zdj)) (seqF (setF q0 9 (zaz (zab (gv 4) (zab (gv 5) (zab (gv 7) lNil))) [] zcI)) (seqF (ifF q0 (fOr (fNot (fTru (f1 (gv 9) (isiD "tuple")))) (zaq (f2 (gv 9) (gv 8) neD))) (seqF (retF q0 (fun _ => Res.ok (D.bl false))) zak) zak) (seqF (setF q0 10 (zaz (zab (gv 4) (zab (gv 5) (zab (f2 (zaz (zab (gv 0) (zab (ci 3) lNil)) [] zaB) (f2 (gv 6) (ci 1) addA) zha) lNil))) [] zaM)) (seqF (ifF q0 (fAnd (zaq (f2 (gv 10) (fun _ => Res.ok D.non) isnD)) (zaq (f2 (zaz (zab (gv 4) (zab (gv 5) (zab (gv 10) lNil))) [] zcI) (zaz (zab (gv 5) (zab (gv 10) lNil)) [] zdj) neD))) (seqF (retF q0 (fun _ => Res.ok (D.bl false))) zak) zak) (seqF (setF q0 5 (gv 8)) zak))))))))))
noncomputable def zlf : FS :=
  (seqF (setF q0 1 (zaz (zab (gv 0) (zab (ci 1) lNil)) [] zaB)) (seqF (setF q0 2 (f2 (ci 1) (f2 (gv 1) (ci 7) modI) addA)) (seqF (setF q0 3 (f2 (gv 2) (f2 (f2 (gv 1) (ci 7) zha) (f2 (ci 9) (gv 2) subI) modI) addA)) (seqF (setF q0 4 (zaz (zab (gv 0) (zab (ci 4) (zab (gv 2) (zab (gv 3) lNil)))) [] zb7)) (seqF (setF q0 5 (fSlA (zaz (zab (zaz (zab (gv 0) (zab (ci 11) lNil)) [] zaB) (zab (gv 3) lNil)) [] zbq) (fun _ => Res.ok none) (zeu (gv 2)))) (seqF (ifF q0 (zaq (f2 (f2 (zaz (zab (gv 0) (zab (ci 2) lNil)) [] zaB) (ci 3) modI) (ci 1) eqD)) (seqF (setF q0 5 (zaz (zab (gv 4) (zab (zaz (zab (zaz (zab (gv 0) (zab (ci 12) lNil)) [] zaB) (zab (gv 2) lNil)) [] zbq) lNil)) [] zcs)) zak) zak) (seqF (zcf q0 (fRng rng1 (zab (f2 (ci 1) (f2 (gv 2) (gv 3) mulI) addA) lNil)) (ftN 6) zf2) (seqF (retF q0 (fun _ => Res.ok (D.bl false))) zak))))))))
noncomputable def zmZ : List D→Res D := fun ds => outR false (zlf (zaw zoY.length ds))
theorem zp4 {P : Program} {w : World} {K : PySem.W.Frag} {mg : Str→Option Value} {base : Heap} (T : Txt K mg) {fa : Addr} {fd : FuncData} (A : Fun K "law" "law" zll fa fd) (c__law_cell : Callee P w K mg base "_law_cell" zcW [] 1 false q102 zaB) (c__law_wishes : Callee P w K mg base "_law_wishes" zcU [] 2 false q108 zb7) (c__law_row : Callee P w K mg base "_law_row" zdp [] 1 false [.sh,.bw] zbq) (c__law_worst : Callee P w K mg base "_law_worst" zdf [] 1 false q102 zcs) (c_betterment : Callee P w K mg base "betterment" zde [] 5 false [.bw,.sh] zaR) (c__law_order_behind : Callee P w K mg base "_law_order_behind" zbo [] 2 false q102 zaK) (c__law_is_way : Callee P w K mg base "_law_is_way" zcV [] 2 false q109 zb8) (c__law_by : Callee P w K mg base "_law_by" ze9 [] 2 false q102 zdj) (c_bettered : Callee P w K mg base "bettered" zeb [] 3 false q109 zcI) (c__law_other_way : Callee P w K mg base "_law_other_way" zb1 [] 1 false q109 zaM) : FnOk P w K mg base CX0 6 fa fd zoX (spM K false [Md.sh] zmZ) := by
  refine zlL (k := 5) (fs := zlf) (m' := q0) A zcA rfl fun cdv A outer s H g E hr => ?_
  have hu1 := zb0 hr
  have hu64 := hr.units
  exact (zaa (zbw 1 zcA.nd (by rfl) (by first | exact Or.inl rfl | exact Or.inr rfl) (zax (dds := []) c__law_cell (hr.mono (by decide)) (m_bw (vb_ 0) (m_bw (SE.toB zap) za2))))
      (zaa (zbw 2 zcA.nd (by rfl) (by first | exact Or.inl rfl | exact Or.inr rfl) (zcB (SE.toB zap) (SE.toB (zeM (vb_ 1) (SE.toB zap)))))
      (zaa (zbw 3 zcA.nd (by rfl) (by first | exact Or.inl rfl | exact Or.inr rfl) (zcB (vb_ 2) (SE.toB (zeM (SE.toB (ziA (vb_ 1) (SE.toB zap))) (SE.toB (zph (SE.toB zap) (vb_ 2)))))))
      (zaa (zbw 4 zcA.nd (by rfl) (by first | exact Or.inl rfl | exact Or.inr rfl) (zax (dds := []) c__law_wishes (hr.mono (by decide)) (m_bw (vb_ 0) (m_bw (SE.toB zap) (m_bw (vb_ 2) (m_bw (vb_ 3) za2))))))
      (zaa (zbw 5 zcA.nd (by rfl) (by first | exact Or.inl rfl | exact Or.inr rfl) (zgS (SE.toB (zax (dds := []) c__law_row (hr.mono (by decide)) (m_sh (zax (dds := []) c__law_cell (hr.mono (by decide)) (m_bw (vb_ 0) (m_bw (SE.toB zap) za2))) (m_bw (vb_ 3) za2)))) zeS (zeR (vb_ 2))))
      (zaa (s_if (q_eq hu64 (SE.toB (zeM (SE.toB (zax (dds := []) c__law_cell (hr.mono (by decide)) (m_bw (vb_ 0) (m_bw (SE.toB zap) za2)))) (SE.toB zap))) (SE.toB zap)) (zaa (zbw 5 zcA.nd (by rfl) (by first | exact Or.inl rfl | exact Or.inr rfl) (zax (dds := []) c__law_worst (hr.mono (by decide)) (m_bw (vb_ 4) (m_bw (SE.toB (zax (dds := []) c__law_row (hr.mono (by decide)) (m_sh (zax (dds := []) c__law_cell (hr.mono (by decide)) (m_bw (vb_ 0) (m_bw (SE.toB zap) za2))) (m_bw (vb_ 2) za2)))) za2))))
      zaf)
      zaf)
      (zaa (zeN PassesOwn.never rfl (zb4 (by rfl) T.b_range (zao (SE.toB (zcB (SE.toB zap) (SE.toB (zgd (vb_ 2) (vb_ 3))))) zaE)) (zaL 6 zcA.nd (by rfl) (by first | exact Or.inl rfl | exact Or.inr rfl)) (zaa (zbw 7 zcA.nd (by rfl) (by first | exact Or.inl rfl | exact Or.inr rfl) (zax (dds := []) c_betterment (hr.mono (by decide)) (m_bw (vb_ 4) (m_sh (v_ 5) za2))))
      (zaa (s_if (SW.toQ (q_or (q_ne hu64 (SE.toB (zax (dds := []) c_betterment (hr.mono (by decide)) (m_bw (vb_ 4) (m_sh (v_ 5) za2)))) (vb_ 7)) (zh3 (q_ne hu64 (SE.toB (s_is (vb_ 7) (SE.toB zep))) (SE.toB (zpm (SE.toB (zax (dds := []) c__law_order_behind (hr.mono (by decide)) (m_bw (vb_ 4) (m_bw (vb_ 5) za2)))) (SE.toB zep))))))) (zaa (zaN s_bl)
      zaf)
      zaf)
      (zaa (s_if (q_is (vb_ 7) (SE.toB zep)) (zaa (zaN s_bl)
      zaf)
      zaf)
      (zaa (s_if (zgg (zeQ (SE.toB (zax (dds := []) c__law_is_way (hr.mono (by decide)) (m_bw (vb_ 4) (m_bw (vb_ 5) (m_bw (vb_ 7) za2))))))) (zaa (zaN s_bl)
      zaf)
      zaf)
      (zaa (zbw 8 zcA.nd (by rfl) (by first | exact Or.inl rfl | exact Or.inr rfl) (zax (dds := []) c__law_by (hr.mono (by decide)) (m_bw (vb_ 5) (m_bw (vb_ 7) za2))))
      (zaa (zbw 9 zcA.nd (by rfl) (by first | exact Or.inl rfl | exact Or.inr rfl) (zax (dds := []) c_bettered (hr.mono (by decide)) (m_bw (vb_ 4) (m_bw (vb_ 5) (m_bw (vb_ 7) za2)))))
      (zaa (s_if (SW.toQ (q_or (zgg (zeQ (SE.toB (ziz "tuple" "tuple" rfl (zeX _) (by rfl) T.b_isinstance (by rfl) T.b_tuple (vb_ 9))))) (zh3 (q_ne hu64 (vb_ 9) (vb_ 8))))) (zaa (zaN s_bl)
      zaf)
      zaf)
      (zaa (zbw 10 zcA.nd (by rfl) (by first | exact Or.inl rfl | exact Or.inr rfl) (zax (dds := []) c__law_other_way (hr.mono (by decide)) (m_bw (vb_ 4) (m_bw (vb_ 5) (m_bw (SE.toB (ziA (SE.toB (zax (dds := []) c__law_cell (hr.mono (by decide)) (m_bw (vb_ 0) (m_bw (SE.toB zap) za2)))) (SE.toB (zcB (vb_ 6) (SE.toB zap))))) za2)))))
      (zaa (s_if (SW.toQ (zh4 (zpp (vb_ 10) (SE.toB zep)) (zfp (q_ne hu64 (SE.toB (zax (dds := []) c_bettered (hr.mono (by decide)) (m_bw (vb_ 4) (m_bw (vb_ 5) (m_bw (vb_ 10) za2))))) (SE.toB (zax (dds := []) c__law_by (hr.mono (by decide)) (m_bw (vb_ 5) (m_bw (vb_ 10) za2)))))))) (zaa (zaN s_bl)
      zaf)
      zaf)
      (zaa (zbw 5 zcA.nd (by rfl) (by first | exact Or.inl rfl | exact Or.inr rfl) (v_ 8))
      zaf)))))))))))
      (zaa (zaN s_bl)
      zaf))))))))
end Law
end
section
namespace Law
open PySem L2 DL
noncomputable abbrev nD (k : Nat) : D := .int (k : Int)
noncomputable abbrev LN (l : List Nat) : D := .lst (l.map nD)
noncomputable abbrev TN (l : List Nat) : D := .tup (l.map nD)
noncomputable abbrev WD (rows : List (List Nat)) : D := .tup (rows.map TN)
theorem szOk {ds : List D} (h : ds.length≤1000) : sz ds = some ds := zpe (Nat.le_trans h (by rw [sizeLine_eq]; decide))
@[simp] theorem addA_int (a b : Int) : addA (.int a) (.int b) = some (.int (a + b)) := rfl
theorem zi7 {a b : Int} (h : CMul a b) : mulI (.int a) (.int b) = some (.int (a * b)) := by rw [mulI,intsC_int,if_pos h]
theorem zja {a b : Int} (h : 0 < b) : modI (.int a) (.int b) = some (.int (a % b)) := by rw [modI,intsC_int,if_pos h]
theorem zkX {a b : Int} (h : CDiv a b) : zha (.int a) (.int b) = some (.int (a / b)) := by rw [zha,intsC_int,if_pos h]
theorem zad {s1 s2 : FS} {r r' : Rho} (h : s1 r = .nx r') : seqF s1 s2 r = s2 r' := by unfold seqF; rw [h]
theorem zat {s1 s2 : FS} {r : Rho} {d : D} (h : s1 r = .rt d) : seqF s1 s2 r = .rt d := by unfold seqF; rw [h]
theorem zas {m : List Md} {i : Nat} {f : FE} {r : Rho} {d : D} (h : f r = .ok d) : setF m i f r = .nx (r.set i (some d)) := by unfold setF; rw [h]; rfl
theorem zaI {m : List Md} {f : FE} {r : Rho} {d : D} (h : f r = .ok d) : retF m f r = .rt d := by unfold retF; rw [h]; rfl
theorem zou {m : List Md} {p : FQ} {s1 s2 : FS} {r : Rho} {b : Bool} (h : p r = .ok b) : ifF m p s1 s2 r = if b = true then s1 r else s2 r := by unfold ifF; rw [h]; rfl
theorem if_t {m : List Md} {p : FQ} {s1 s2 : FS} {r : Rho} (h : p r = .ok true) : ifF m p s1 s2 r = s1 r := by rw [zou h,if_pos rfl]
theorem if_f {m : List Md} {p : FQ} {s1 s2 : FS} {r : Rho} (h : p r = .ok false) : ifF m p s1 s2 r = s2 r := by rw [zou h,if_neg Bool.false_ne_true]
theorem zoG {p : FQ} {f f' : FE} {r : Rho} (h : p r = .ok true) : fIf p f f' r = f r := by unfold fIf; rw [h]; rfl
theorem zoH {p : FQ} {f f' : FE} {r : Rho} (h : p r = .ok false) : fIf p f f' r = f' r := by unfold fIf; rw [h]; rfl
theorem zdX {fl : Rho→Res (List D)} {r : Rho} {ds : List D} (h : fl r = .ok ds) (hl : ds.length≤1000) : mkT fl r = .ok (.tup ds) := by unfold mkT; rw [h,bind_ok,szOk hl]; rfl
theorem zdA {fl : Rho→Res (List D)} {r : Rho} {ds : List D} (h : fl r = .ok ds) (hl : ds.length≤1000) : mkL fl r = .ok (.lst ds) := by unfold mkL; rw [h,bind_ok,szOk hl]; rfl
theorem zf0 {ds : List D} {d : D} (h : ds.length≤1000) : appD (.lst ds) [d] = some (.lst (ds++[d])) := by
  show (if ds.length < sizeLine then some (D.lst (ds++[d])) else none) = _
  rw [if_pos (by rw [sizeLine_eq]; omega)]
theorem zan {fl : Rho→Res (List D)} {dds zs : List D} {F : List D→Res D} {r : Rho} {d : D} (h1 : fl r = .ok zs) (h2 : F (zs++dds) = .ok d) : zaz fl dds F r = .ok d := by unfold zaz; rw [h1,bind_ok,h2]; rfl
theorem zhd {f : FE} {k : D→Option D} {r : Rho} {a d : D} (h1 : f r = .ok a) (h2 : k a = some d) : f1 f k r = .ok d := by unfold f1; rw [h1,bind_ok,h2]; rfl
theorem zaj {f f' : FE} {k : D→D→Option D} {r : Rho} {a b d : D} (h1 : f r = .ok a) (h2 : f' r = .ok b) (h3 : k a b = some d) : f2 f f' k r = .ok d := by unfold f2; rw [h1,bind_ok,h2,bind_ok,h3]; rfl
theorem za6 {fl : Rho→Res (List D)} {k : List D→Option D} {r : Rho} {ds : List D} {d : D} (h1 : fl r = .ok ds) (h2 : k ds = some d) : fC fl k r = .ok d := by unfold fC; rw [h1,bind_ok,h2]; rfl
theorem zac {f : FE} {fl : Rho→Res (List D)} {r : Rho} {d : D} {ds : List D} (h1 : f r = .ok d) (h2 : fl r = .ok ds) : zab f fl r = .ok (d::ds) := by unfold zab; rw [h1,bind_ok,h2]; rfl
theorem zai {r : Rho} : lNil r = .ok [] := rfl
theorem zam {f : FE} {r : Rho} {b : Bool} (h : f r = .ok (.bl b)) : zaq f r = .ok b := by unfold zaq; rw [h]; rfl
theorem zbY {f : FE} {r : Rho} {d : D} {b : Bool} (h : f r = .ok d) (h2 : truD d = some b) : fTru f r = .ok b := by unfold fTru; rw [h,bind_ok,h2]; rfl
theorem zdU {p : FQ} {r : Rho} {b : Bool} (h : p r = .ok b) : fNot p r = .ok (!b) := by unfold fNot; rw [h]; rfl
theorem zhj {p q : FQ} {r : Rho} (h : p r = .ok true) : fAnd p q r = q r := by unfold fAnd; rw [h]; rfl
theorem zih {p q : FQ} {r : Rho} (h : p r = .ok false) : fAnd p q r = .ok false := by unfold fAnd; rw [h]; rfl
theorem or_f {p q : FQ} {r : Rho} (h : p r = .ok false) : fOr p q r = q r := by unfold fOr; rw [h]; rfl
theorem zlh {f f' : FE} {r : Rho} (h : f r = .ok (.bl true)) : vAnd f f' r = f' r := by unfold vAnd; rw [h]; rfl
theorem zlS {f : FE} {r : Rho} {b : Bool} (h : f r = .ok (.bl b)) : vNot f r = .ok (.bl (!b)) := by unfold vNot; rw [h]; rfl
theorem zbj {m : List Md} {fi : FI} {ft : FT} {b : FS} {r : Rho} {ds : List D} (h : fi r = .ok ds) : zcf m fi ft b r = forF ft b ds r := by unfold zcf; rw [h]; rfl
theorem zgb {f : FE} {r : Rho} {d : D} {ds : List D} (h : f r = .ok d) (h2 : zbk d = some ds) : fSeq zbk f r = .ok ds := by unfold fSeq; rw [h,bind_ok,h2]; rfl
theorem zbD {ft : FT} {b : FS} {r : Rho} : forF ft b [] r = .nx r := by unfold forF; rfl
theorem zbU {ft : FT} {b : FS} {r r1 r' : Rho} {d : D} {ds : List D} (h1 : ft d r = some r1) (h2 : b r1 = .nx r') : forF ft b (d::ds) r = forF ft b ds r' := by
  conv => lhs; unfold forF
  simp only [h1,h2]
theorem zhC {ft : FT} {b : FS} {r r1 : Rho} {d v : D} {ds : List D} (h1 : ft d r = some r1) (h2 : b r1 = .rt v) : forF ft b (d::ds) r = .rt v := by
  conv => lhs; unfold forF
  simp only [h1,h2]
theorem zgN {m : List Md} {p : FQ} {b : FS} {n : Nat} {r : Rho} (h : p r = .ok false) : zbp m p b (n + 1) r = .nx r := by unfold zbp; rw [h]; rfl
theorem zfB {m : List Md} {p : FQ} {b : FS} {n : Nat} {r r' : Rho} (h : p r = .ok true) (h2 : b r = .nx r') : zbp m p b (n + 1) r = zbp m p b n r' := by
  conv => lhs; unfold zbp
  rw [h,onE_ok,if_pos rfl,h2]
theorem zdW {T : String} {m : List Md} {i : Nat} {fl : Rho→Res (List D)} {mk : D→List D→Option D} {r : Rho} {d d' : D} {ds : List D} (h1 : r[i]? = some (some d)) (h2 : tyB T d = true) (h3 : fl r = .ok ds) (h4 : mk d ds = some d') : mutF T m i fl mk r = .nx (r.set i (some d')) := by
  unfold mutF; rw [h1]; simp only [h2,if_true,h3,onE_ok,h4]
theorem zgi {m : List Md} {i : Nat} {fk fv : FE} {r : Rho} {d k v d' : D} (h1 : r[i]? = some (some d)) (h2 : fv r = .ok v) (h3 : fk r = .ok k) (h4 : stoD d k v = some d') : DL.putF m i fk fv r = .nx (r.set i (some d')) := by
  unfold DL.putF; rw [h2,onE_ok]; simp only [h1,h3,onE_ok,h4]
theorem zmT {fa fb fc : FE} {k k' : D→D→Option D} {r : Rho} {x y w d : D} (h1 : fa r = .ok x) (h2 : fb r = .ok y) (h3 : k x y = some (.bl true)) (h4 : fc r = .ok w) (h5 : k' y w = some d) : zgA fa fb fc k k' r = .ok d := by
  unfold zgA; rw [h1,bind_ok,h2,bind_ok,h3,opt_some,bind_ok]
  show (fc r).bind _ = _
  rw [h4,bind_ok,h5]; rfl
theorem zjU {ft : FT} {q : FQ} {fe : FE} {r0 : Rho} : zdI ft q fe r0 [] = .ok [] := by unfold zdI; rfl
theorem zgC {ft : FT} {q : FQ} {fe : FE} {r0 : Rho} {α : Type} (e : α→D) (keep : α→Bool) (g : α→D) : ∀ (l : List α),(∀ a∈l,∃ r1,ft (e a) r0 = some r1∧q r1 = .ok (keep a)∧(keep a = true→fe r1 = .ok (g a)))→zdI ft q fe r0 (l.map e) = .ok ((l.filter keep).map g)
  | [],_ => zjU
  | a::l,h => by
    obtain ⟨r1,h1,h2,h3⟩ := h a List.mem_cons_self
    have ih := zgC (ft := ft) (q := q) (fe := fe) (r0 := r0) e keep g l fun b hb => h b (List.mem_cons_of_mem _ hb)
    rw [List.map_cons]
    conv => lhs; unfold zdI
    rw [h1,opt_some,bind_ok,h2,bind_ok]
    cases k : keep a with
    | true => rw [if_pos rfl,h3 k,bind_ok,ih,bind_ok,List.filter_cons,if_pos k]; rfl
    | false => rw [if_neg Bool.false_ne_true,ih,List.filter_cons,if_neg (by rw [k]; exact Bool.false_ne_true)]
theorem zcS {nl : Nat} {cap : List Nat} {fi : FI} {ft : FT} {q : FQ} {fe : FE} {r : Rho} {α : Type} {l : List α} (e : α→D) (keep : α→Bool) (g : α→D) (h1 : fi r = .ok (l.map e)) (hl : l.length≤1000)
    (h : ∀ a∈l,∃ r1,ft (e a) (capR nl cap r) = some r1∧q r1 = .ok (keep a)∧(keep a = true→fe r1 = .ok (g a))) : zch nl cap fi ft q fe r = .ok (.lst ((l.filter keep).map g)) := by
  unfold zch
  rw [h1,bind_ok,szOk (by simpa using hl),opt_some,bind_ok,zgC e keep g l h,noXL_ok,bind_ok]
theorem zpJ (k : Nat) : leI (.int 0) (nD k) = some (.bl true) := by
  show some (D.bl (decide ((0 : Int)≤(k : Int)))) = _
  rw [decide_eq_true (Int.natCast_nonneg k)]
theorem zgZ (a b : Nat) : ltI (nD a) (nD b) = some (.bl (decide (a < b))) := by
  show some (D.bl (decide ((a : Int) < (b : Int)))) = _
  simp only [Int.ofNat_lt]
theorem zpP (a b : Nat) : gtI (nD a) (nD b) = some (.bl (decide (b < a))) := by
  show some (D.bl (decide ((b : Int) < (a : Int)))) = _
  simp only [Int.ofNat_lt]
theorem zjJ (a b : Nat) : eqD (nD a) (nD b) = some (.bl (decide (a = b))) := by
  unfold eqD
  rw [eqB_int]
  show some (D.bl ((a : Int) == (b : Int))) = _
  have : ((a : Int) == (b : Int)) = decide (a = b) := by rw [Bool.eq_iff_iff,beq_iff_eq,decide_eq_true_iff]; exact Int.ofNat_inj
  rw [this]
theorem zn8 (a b : Nat) : neD (nD a) (nD b) = some (.bl (!decide (a = b))) := by
  unfold neD
  rw [eqB_int]
  show some (D.bl (!((a : Int) == (b : Int)))) = _
  have : ((a : Int) == (b : Int)) = decide (a = b) := by rw [Bool.eq_iff_iff,beq_iff_eq,decide_eq_true_iff]; exact Int.ofNat_inj
  rw [this]
theorem zaU {B : FS} {n : Nat} {ds : List D} {d : D} (h : B (zaw n ds) = .rt d) : outR false (B (zaw n ds)) = .ok d := by rw [h]; rfl
noncomputable abbrev kI (k : Nat) : Key := Sum.inl (k : Int)
theorem zox (kvs : List (Nat × D)) (k : Nat) : hasK (kvs.map fun p => (kI p.1,p.2)) (kI k) = decide (k∈kvs.map (·.1)) := by
  unfold hasK
  rw [List.any_map,Bool.eq_iff_iff,List.any_eq_true,decide_eq_true_iff,List.mem_map]
  constructor
  · rintro ⟨p,h1,h2⟩
    refine ⟨p,h1,?_⟩
    simp only [Function.comp_apply,decide_eq_true_eq] at h2
    have : ((p.1 : Nat) : Int) = (k : Int) := Sum.inl.inj h2
    exact Int.ofNat.inj this
  · rintro ⟨p,h1,rfl⟩
    exact ⟨p,h1,by simp⟩
theorem zku (kvs : List (Nat × D)) (k : Nat) (d : D) (h : k∉kvs.map (·.1)) : putD (kvs.map fun p => (kI p.1,p.2)) (kI k) d = (kvs++[(k,d)]).map fun p => (kI p.1,p.2) := by
  unfold putD
  have e : ((kvs.map fun p => (kI p.1,p.2)).any fun kv => decide (kv.1 = kI k)) = decide (k∈kvs.map (·.1)) := zox kvs k
  rw [e,decide_eq_false h,if_neg Bool.false_ne_true,List.map_append]
  rfl
@[simp] theorem e_seq (s1 s2 : FS) (r : Rho) : seqF s1 s2 r = (match s1 r with | .nx r' => s2 r' | o => o) := rfl
@[simp] theorem e_skip (r : Rho) : zak r = .nx r := rfl
@[simp] theorem e_set (m : List Md) (i : Nat) (f : FE) (r : Rho) : setF m i f r = onE m r (f r) fun d => .nx (r.set i (some d)) := rfl
@[simp] theorem e_ret (m : List Md) (f : FE) (r : Rho) : retF m f r = onE m r (f r) fun d => .rt d := rfl
@[simp] theorem e_if (m : List Md) (p : FQ) (s1 s2 : FS) (r : Rho) : ifF m p s1 s2 r = onE m r (p r) fun c => if c = true then s1 r else s2 r := rfl
@[simp] theorem e_getV (r : Rho) (i : Nat) : getV r i = (match r[i]? with | some (some d) => .ok d | _ => .stuck) := rfl
@[simp] theorem e_f1 (f : FE) (k : D→Option D) (r : Rho) : f1 f k r = (f r).bind fun d => opt (k d) := rfl
@[simp] theorem e_f2 (f f' : FE) (k : D→D→Option D) (r : Rho) : f2 f f' k r = (f r).bind fun a => (f' r).bind fun b => opt (k a b) := rfl
@[simp] theorem e_fC (fl : Rho→Res (List D)) (k : List D→Option D) (r : Rho) : fC fl k r = (fl r).bind fun ds => opt (k ds) := rfl
@[simp] theorem e_lN (r : Rho) : lNil r = .ok [] := rfl
@[simp] theorem e_lC (f : FE) (fl : Rho→Res (List D)) (r : Rho) : zab f fl r = (f r).bind fun d => (fl r).bind fun ds => .ok (d::ds) := rfl
@[simp] theorem e_test (f : FE) (r : Rho) : zaq f r = (f r).bind fun d => opt (asB d) := rfl
@[simp] theorem e_tru (f : FE) (r : Rho) : fTru f r = (f r).bind fun d => opt (truD d) := rfl
@[simp] theorem e_not (p : FQ) (r : Rho) : fNot p r = (p r).bind fun c => .ok (!c) := rfl
@[simp] theorem e_and (p q : FQ) (r : Rho) : fAnd p q r = (p r).bind fun c => if c = true then q r else .ok false := rfl
@[simp] theorem e_or (p q : FQ) (r : Rho) : fOr p q r = (p r).bind fun c => if c = true then .ok true else q r := rfl
@[simp] theorem e_vand (f f' : FE) (r : Rho) : vAnd f f' r = (f r).bind fun d => (opt (asB d)).bind fun c => if c = true then f' r else .ok (.bl false) := rfl
@[simp] theorem e_vor (f f' : FE) (r : Rho) : vOr f f' r = (f r).bind fun d => (opt (asB d)).bind fun c => if c = true then .ok (.bl true) else f' r := rfl
@[simp] theorem e_vnot (f : FE) (r : Rho) : vNot f r = (f r).bind fun d => (opt (asB d)).bind fun c => .ok (.bl (!c)) := rfl
@[simp] theorem e_fIf (p : FQ) (f f' : FE) (r : Rho) : fIf p f f' r = (p r).bind fun c => if c = true then f r else f' r := rfl
@[simp] theorem e_call (fl : Rho→Res (List D)) (dds : List D) (F : List D→Res D) (r : Rho) : zaz fl dds F r = (fl r).bind fun ds => noX (F (ds++dds)) := rfl
@[simp] theorem e_asB (b : Bool) : asB (.bl b) = some b := rfl
@[simp] theorem e_truB (b : Bool) : truD (.bl b) = some b := rfl
@[simp] theorem e_truL (ds : List D) : truD (.lst ds) = some (!ds.isEmpty) := rfl
@[simp] theorem e_loop (m : List Md) (fi : FI) (ft : FT) (b : FS) (r : Rho) : zcf m fi ft b r = onE m r (fi r) fun ds => forF ft b ds r := rfl
@[simp] theorem e_fSeq (k : D→Option (List D)) (f : FE) (r : Rho) : fSeq k f r = (f r).bind fun d => opt (k d) := rfl
@[simp] theorem e_asL (ds : List D) : zbk (.lst ds) = some ds := rfl
@[simp] theorem e_asT (ds : List D) : zbk (.tup ds) = some ds := rfl
@[simp] theorem e_mkT (fl : Rho→Res (List D)) (r : Rho) : mkT fl r = (fl r).bind fun ds => (opt (sz ds)).bind fun ds => .ok (.tup ds) := rfl
@[simp] theorem e_mkL (fl : Rho→Res (List D)) (r : Rho) : mkL fl r = (fl r).bind fun ds => (opt (sz ds)).bind fun ds => .ok (.lst ds) := rfl
@[simp] theorem e_lenL (ds : List D) : lenD [.lst ds] = some (.int ds.length) := rfl
@[simp] theorem e_lenT (ds : List D) : lenD [.tup ds] = some (.int ds.length) := rfl
@[simp] theorem e_lenK (ds : List (Key × D)) : lenD [.dic ds] = some (.int ds.length) := rfl
@[simp] theorem e_tupL (ds : List D) : tupD [.lst ds] = some (.tup ds) := rfl
@[simp] theorem e_listL (ds : List D) : zgr [.lst ds] = some (.lst ds) := rfl
@[simp] theorem e_listT (ds : List D) : zgr [.tup ds] = some (.lst ds) := rfl
@[simp] theorem e_isNN : isD .non .non = some (.bl true) := rfl
@[simp] theorem e_isLN (ds : List D) : isD (.lst ds) .non = some (.bl false) := rfl
@[simp] theorem e_isn1 : isnD .non .non = some (.bl false) := rfl
@[simp] theorem e_isn2 (i : Int) : isnD (.int i) .non = some (.bl true) := rfl
@[simp] theorem e_isn3 (ds : List D) : isnD (.tup ds) .non = some (.bl true) := rfl
@[simp] theorem e_valsD (kvs : List (Key × D)) : zo5 (.dic kvs) = some (.lst (kvs.map (·.2))) := rfl
theorem zet {ds : List D} {i : Nat} {d : D} (h : ds[i]? = some d) : ixA (.tup ds) (nD i) = some d := by
  have hl : i < ds.length := (List.getElem?_eq_some_iff.mp h).1
  show atI ds (i : Int) = some d
  unfold atI ixN
  rw [if_pos (Int.natCast_nonneg i),if_pos (by omega)]
  simpa using h
theorem zkR {ds : List D} {i : Nat} {d : D} (h : ds[i]? = some d) : ixA (.lst ds) (nD i) = some d := by
  have hl : i < ds.length := (List.getElem?_eq_some_iff.mp h).1
  show atI ds (i : Int) = some d
  unfold atI ixN
  rw [if_pos (Int.natCast_nonneg i),if_pos (by omega)]
  simpa using h
@[simp] theorem ixA_L0 (d : D) (ds : List D) : ixA (.lst (d::ds)) (.int 0) = some d := zkR (i := 0) rfl
@[simp] theorem ixA_T0 (d : D) (ds : List D) : ixA (.tup (d::ds)) (.int 0) = some d := zet (i := 0) rfl
theorem zpL {kvs : List (Key × D)} {k : Nat} {d : D} (h : getK kvs (kI k) = some d) : ixA (.dic kvs) (nD k) = some d := h
theorem anyE (l : List Nat) (k : Nat) : (l.map nD).any (fun y => eqs y (nD k)) = decide (k∈l) := by
  rw [List.any_map,Bool.eq_iff_iff,List.any_eq_true,decide_eq_true_iff]
  constructor
  · rintro ⟨x,h1,h2⟩
    have : (((x : Nat) : Int) == (k : Int)) = true := h2
    have := Int.ofNat_inj.mp (eq_of_beq this)
    subst this; exact h1
  · intro h
    exact ⟨k,h,by show (((k : Nat) : Int) == (k : Int)) = true; simp⟩
theorem zg7 (l : List Nat) : (l.map nD).all zaW = true := by
  rw [List.all_eq_true]
  intro x hx
  obtain ⟨k,_,rfl⟩ := List.mem_map.mp hx
  rfl
theorem zic (l : List Nat) (k : Nat) : inD (nD k) (LN l) = some (.bl (decide (k∈l))) := by
  show (if zaW (nD k) = true∧(l.map nD).all zaW = true then some ((l.map nD).any fun y => eqs y (nD k)) else none).map D.bl = _
  rw [if_pos ⟨rfl,zg7 l⟩,anyE]; rfl
theorem zlC (l : List Nat) (k : Nat) : ninD (nD k) (LN l) = some (.bl (!decide (k∈l))) := by
  show (if zaW (nD k) = true∧(l.map nD).all zaW = true then some ((l.map nD).any fun y => eqs y (nD k)) else none).map (fun b => D.bl (!b)) = _
  rw [if_pos ⟨rfl,zg7 l⟩,anyE]; rfl
end Law
end
section
namespace Law
open PySem L2 DL
theorem zdn {α : Type} (f : α→D) (l : List α) : lenD [.tup (l.map f)] = some (nD l.length) := by
  show some (D.int ((l.map f).length : Int)) = _
  rw [List.length_map]
theorem zcq {α : Type} (f : α→D) (l : List α) : lenD [.lst (l.map f)] = some (nD l.length) := by
  show some (D.int ((l.map f).length : Int)) = _
  rw [List.length_map]
theorem zlp (n : Nat) : rngD 0 n = (List.range n).map nD := by
  unfold rngD
  refine List.map_congr_left fun i _ => ?_
  show D.int (0 + (i : Int)) = D.int (i : Int)
  rw [Int.zero_add]
theorem zkK (j : Int) : zh8 [.int j] = if -(2 ^ 62)≤j∧j < 2 ^ 62∧j.toNat≤sizeLine then some (.lst (rngD 0 j.toNat)) else none := rfl
theorem zjf {n : Nat} (h : n≤1000) : zh8 [nD n] = some (LN (List.range n)) := by
  have hs : (n : Int).toNat≤sizeLine := by rw [Int.toNat_natCast,sizeLine_eq]; omega
  rw [zkK,if_pos ⟨by omega,by omega,hs⟩,Int.toNat_natCast,zlp]
theorem zl5 (j : Int) : rng1 [.int j] = if -(2 ^ 62)≤j∧j < 2 ^ 62 then some (rngD 0 j.toNat) else none := rfl
theorem zdT {n : Nat} (h : n≤1000) : rng1 [nD n] = some ((List.range n).map nD) := by
  rw [zl5,if_pos ⟨by omega,by omega⟩,Int.toNat_natCast,zlp]
theorem zcR {fl : Rho→Res (List D)} {k : List D→Option (List D)} {r : Rho} {ds es : List D} (h1 : fl r = .ok ds) (h2 : k ds = some es) : fRng k fl r = .ok es := by unfold fRng; rw [h1,bind_ok,h2]; rfl
noncomputable def own (owns : List (Option Nat)) (h : Nat) : Option Nat := (owns[h]?).join
end Law
end
section
namespace Law
open PySem L2 DL
theorem zhZ {row : List Nat} {rest : List (List Nat)} : zbF [WD (row::rest)] = .ok (nD row.length) := by
  refine zaU (B := zcX) (n := 1) ?_
  unfold zcX
  exact zat (zaI (za6 (zac (zaj (a := WD (row::rest)) (b := .int 0) rfl rfl (ixA_T0 _ _)) zai) (zdn _ _)))
end Law
end
section
namespace Law
open PySem L2 DL
theorem zol {a b : Nat} (h : kI a = kI b) : a = b := Int.ofNat_inj.mp (Sum.inl.inj h)
structure GI (t : Nat→Nat) (kvs : List (Nat × Nat)) (L : List Nat) : Prop where
  nd : (kvs.map (·.1)).Nodup
  val : ∀ p∈kvs,p.2 = t p.1
  key : ∀ h,h∈kvs.map (·.1)↔h∈L
theorem GI.len {t : Nat→Nat} {kvs : List (Nat × Nat)} {L line : List Nat} (g : GI t kvs L) (hs : ∀ h∈L,h∈line) : kvs.length≤line.length := by
  have := Rg.zdY (m := line) g.nd fun h hh => hs h ((g.key h).mp hh)
  simpa using this
theorem GI.mem {t : Nat→Nat} {kvs : List (Nat × Nat)} {L M : List Nat} (g : GI t kvs L) (h : ∀ x,x∈L↔x∈M) : GI t kvs M := ⟨g.nd,g.val,fun x => (g.key x).trans (h x)⟩
theorem GI.nil (t : Nat→Nat) : GI t [] [] := ⟨by simp,fun _ hp => (nomatch hp),fun h => by simp⟩
theorem zgy {α : Type} (l : List α) : l.filter (fun _ => true) = l := List.filter_eq_self.mpr fun _ _ => rfl
noncomputable def Wr (rows : List (List Nat)) (h : Nat) : List Nat := (rows[h]?).getD []
theorem ziF {rows : List (List Nat)} {h : Nat} (hh : h < rows.length) : (rows.map TN)[h]? = some (TN (Wr rows h)) := by
  rw [List.getElem?_map]
  unfold Wr
  rw [List.getElem?_eq_getElem hh]; rfl
end Law
end
section
namespace Law
open PySem L2 DL
theorem zgo {a b : Nat} (h : 0 < b) : modI (nD a) (nD b) = some (nD (a % b)) := by
  rw [zja (by omega : (0 : Int) < (b : Int))]
  show some (D.int _) = some (D.int _)
  rw [Int.natCast_emod]
theorem zg9 {a b : Nat} (h : 0 < b) (h2 : b < 1000) : zha (nD a) (nD b) = some (nD (a / b)) := by
  rw [zkX (⟨by omega,by omega⟩ : CDiv (a : Int) (b : Int))]
  show some (D.int _) = some (D.int _)
  rw [Int.natCast_ediv]
theorem ze8 (a b : Nat) : addA (nD a) (nD b) = some (nD (a + b)) := by
  rw [addA_int]
  show some (D.int _) = some (D.int _)
  rw [Int.natCast_add]
section
variable {f f' : FE} {r : Rho}
theorem zid {b : Int} (h : ∃ i : Int,f r = .ok (.int i)) (h' : f' r = .ok (.int b)) (hb : 0 < b) : ∃ c : Nat,f2 f f' modI r = .ok (nD c) := by
  obtain ⟨i,hi⟩ := h
  refine ⟨(i % b).toNat,zaj hi h' ?_⟩
  rw [zja hb]
  show some (D.int _) = some (D.int _)
  rw [Int.toNat_of_nonneg (Int.emod_nonneg _ (by omega))]
theorem exN (h : ∃ c : Nat,f r = .ok (nD c)) : ∃ i : Int,f r = .ok (.int i) := let ⟨c,e⟩ := h; ⟨c,e⟩
theorem ze0 {b : Int} (h : ∃ i : Int,f r = .ok (.int i)) (h' : f' r = .ok (.int b)) (hb : -(2 ^ 64) < b∧b < 2 ^ 64) : ∃ i : Int,f2 f f' mulI r = .ok (.int i) := by
  obtain ⟨i,hi⟩ := h
  exact ⟨i * b,zaj hi h' (zi7 (.inr hb))⟩
theorem zkY (h : ∃ i : Int,f r = .ok (.int i)) (h' : ∃ i : Int,f' r = .ok (.int i)) : ∃ i : Int,f2 f f' addA r = .ok (.int i) := by
  obtain ⟨i,hi⟩ := h
  obtain ⟨j,hj⟩ := h'
  exact ⟨i + j,zaj hi hj rfl⟩
end
theorem zoI {m : List Md} {i : Nat} {f : FE} {s2 : FS} {r : Rho} (h : ∃ c : Nat,f r = .ok (nD c)) (k : ∀ c : Nat,∃ d : Nat,s2 (r.set i (some (nD c))) = .rt (nD d)) : ∃ d : Nat,seqF (setF m i f) s2 r = .rt (nD d) := by
  obtain ⟨c,hc⟩ := h
  obtain ⟨d,hd⟩ := k c
  exact ⟨d,(zad (zas hc)).trans hd⟩
noncomputable abbrev IN (ns : List Int) : D := .lst (ns.map .int)
theorem zdl (ns : List Int) (k : Nat) (hk : k≤1000) : ∃ c : Nat,zaB [IN ns,nD k] = .ok (nD c) := by
  suffices h : ∃ c : Nat,zcn (zaw 4 [IN ns,nD k]) = .rt (nD c) by
    obtain ⟨c,hc⟩ := h
    exact ⟨c,zaU (B := zcn) (n := 4) hc⟩
  unfold zcn
  have st : seqF (setF q104 2 (ci 0)) = seqF (setF q104 2 (fun _ => Res.ok (nD 0))) := rfl
  rw [st]
  refine zoI ⟨0,rfl⟩ fun c1 => ?_
  show ∃ d : Nat,seqF _ _ [some (IN ns),some (nD k),some (nD c1),none] = _
  have key : ∃ c2 : Nat,(ifF q104 (zaq (f2 (gv 1) (fC (zab (gv 0) lNil) lenD) ltI)) (seqF (setF q104 2 (f2 (f2 (gv 0) (gv 1) ixA) (f2 (ci 10) (ci 60) powI) modI)) zak) zak) [some (IN ns),some (nD k),some (nD c1),none] = .nx [some (IN ns),some (nD k),some (nD c2),none] := by
    have t := zam (zaj (f := gv 1) (r := [some (IN ns),some (nD k),some (nD c1),none]) (a := nD k) rfl (za6 (zac (f := gv 0) (d := IN ns) rfl zai) (zcq _ _)) (zgZ k ns.length))
    by_cases hlt : k < ns.length
    · rw [decide_eq_true hlt] at t
      have hx : (ns.map D.int)[k]? = some (.int ns[k]) := by rw [List.getElem?_map,List.getElem?_eq_getElem hlt]; rfl
      have hp : powI (.int 10) (.int 60) = some (.int (10 ^ 60)) := by
        show zgu CPow _ _ _ = _
        rw [intsC_int,if_pos (by unfold CPow; decide)]
        rfl
      obtain ⟨c2,h2⟩ := zid (f := f2 (gv 0) (gv 1) ixA) (f' := f2 (ci 10) (ci 60) powI) (r := [some (IN ns),some (nD k),some (nD c1),none]) ⟨ns[k],zaj (a := IN ns) (b := nD k) rfl rfl (zkR hx)⟩ (zaj rfl rfl hp) (by decide)
      exact ⟨c2,(if_t t).trans ((zad (zas h2)).trans rfl)⟩
    · rw [decide_eq_false hlt] at t
      exact ⟨c1,(if_f t).trans rfl⟩
  obtain ⟨c2,h2⟩ := key
  rw [zad h2]
  have kq : ∃ b,(fAnd (zaq (f2 (fC (zab (gv 0) lNil) lenD) (ci 0) gtI)) (zaq (f2 (f2 (f2 (gv 0) (ci 0) ixA) (ci 2) modI) (ci 0) eqD))) [some (IN ns),some (nD k),some (nD c2),none] = .ok b := by
    have t := zam (zaj (f := fC (zab (gv 0) lNil) lenD) (f' := fun _ => Res.ok (D.int 0)) (r := [some (IN ns),some (nD k),some (nD c2),none]) (b := nD 0) (za6 (zac (d := IN ns) rfl zai) (zcq _ _)) rfl (zpP ns.length 0))
    cases ns with
    | nil => exact ⟨false,zih t⟩
    | cons a ns =>
      rw [decide_eq_true (by simp)] at t
      obtain ⟨c3,h3⟩ := zid (f := f2 (gv 0) (ci 0) ixA) (f' := fun _ => Res.ok (D.int 2)) (r := [some (IN (a::ns)),some (nD k),some (nD c2),none]) ⟨a,zaj (a := IN (a::ns)) (b := .int 0) rfl rfl (ixA_L0 _ _)⟩ rfl (by decide)
      exact ⟨_,(zhj t).trans (zam (zaj h3 (b := nD 0) rfl (zjJ c3 0)))⟩
  obtain ⟨b,hb⟩ := kq
  cases b with
  | true => exact ⟨c2,zat ((if_t hb).trans (zat (zaI (d := nD c2) rfl)))⟩
  | false =>
    rw [zad ((if_f (s2 := zak) hb).trans (e_skip _))]
    refine zoI (zid (ze0 (exN (zid (ze0 (zkY (zkY (zkY ⟨(c2 : Int),rfl⟩ (ze0 (b := (k : Int)) (ze0 (b := (k : Int)) ⟨7,rfl⟩ rfl (by omega)) rfl (by omega))) (ze0 (b := (k : Int)) ⟨13,rfl⟩ rfl (by omega))) ⟨5,rfl⟩) rfl (by decide)) rfl (by decide))) rfl (by decide)) rfl (by decide)) fun c3 => ?_
    obtain ⟨c4,h4⟩ := zid (f := (f2 (f2 (f2 (f2 (gv 3) (ci 1) addA) (ci 40692) mulI) (ci 2147483629) modI) (ci 39373) mulI)) (f' := fun _ => Res.ok (D.int 999999937)) (r := [some (IN ns),some (nD k),some (nD c2),some (nD c3)]) (ze0 (exN (zid (ze0 (zkY ⟨(c3 : Int),rfl⟩ ⟨1,rfl⟩) rfl (by decide)) rfl (by decide))) rfl (by decide)) rfl (by decide)
    exact ⟨c4,zat (zaI h4)⟩
theorem zkT {row : List Nat} {i : Int} {x : Nat} : insL (row.map nD) i (nD x) = (insL row i x).map nD := by
  unfold insL
  rw [List.length_map,List.map_append,List.map_cons,List.map_take,List.map_drop]
theorem zjx {row : List Nat} {i : Int} {x : Nat} : (insL row i x).Perm (x::row) := by
  unfold insL
  refine List.perm_middle.trans ?_
  rw [List.take_append_drop]
theorem zhu (m : Nat) : ∀ (j i c : Nat) (row : List Nat) (x : Option D),row.Perm (List.range i)→i + j≤60 →
    ∃ (c' : Nat) (row' : List Nat) (x' : Option D),row'.Perm (List.range (i + j))∧forF (ftN 3) zen ((List.range' i j).map nD) [some (nD c),some (nD m),some (LN row),x] = .nx [some (nD c'),some (nD m),some (LN row'),x']
  | 0,i,c,row,x,hp,_ => ⟨c,row,x,hp,zbD⟩
  | j + 1,i,c,row,x,hp,hl => by
    have hlen : row.length = i := by rw [hp.length_eq]; simp
    obtain ⟨c',row',x',h1,h2⟩ := zhu m j (i + 1) (c / (i + 1)) (insL row ((c % (i + 1) : Nat) : Int) i) (some (nD i)) (by
      refine zjx.trans ?_
      rw [List.range_succ]
      exact (List.Perm.cons i hp).trans (List.perm_append_singleton i _).symm) (by omega)
    refine ⟨c',row',x',by rw [show i + (j + 1) = i + 1 + j by omega]; exact h1,?_⟩
    rw [← h2]
    have hmod : c % (i + 1) < i + 1 := Nat.mod_lt _ (by omega)
    refine zbU (r1 := [some (nD c),some (nD m),some (LN row),some (nD i)]) rfl ?_
    refine (zad (zdW (d := LN row) (ds := [nD (c % (i + 1)),nD i]) (d' := LN (insL row ((c % (i + 1) : Nat) : Int) i)) rfl rfl (zac (zaj (a := nD c) (b := nD (i + 1)) rfl (zaj (a := nD i) (b := nD 1) rfl rfl (ze8 i 1)) (zgo (by omega))) (zac (d := nD i) rfl zai)) ?_)).trans ?_
    · show (if _ then some (D.lst (insL _ _ _)) else none) = _
      rw [if_pos ⟨by rw [List.length_map,sizeLine_eq]; omega,by omega,by omega⟩,zkT]
    · exact zad (zas (d := nD (c / (i + 1))) (zaj (a := nD c) (b := nD (i + 1)) rfl (zaj (a := nD i) (b := nD 1) rfl rfl (ze8 i 1)) (zg9 (by omega) (by omega))))
theorem zgU (c m : Nat) (hm : m≤60) : ∃ row : List Nat,row.Perm (List.range m)∧zbq [nD c,nD m] = .ok (TN row) := by
  obtain ⟨c',row',x',h1,h2⟩ := zhu m m 0 c [] none (by simp) (by omega)
  rw [Nat.zero_add] at h1
  rw [← List.range_eq_range'] at h2
  refine ⟨row',h1,zaU (B := zdt) (n := 4) ?_⟩
  unfold zdt
  refine (zad (zas (d := LN []) (zdA zai (by simp)))).trans ?_
  refine (zad ((zbj (ds := (List.range m).map nD) (zcR (zac (d := nD m) rfl zai) (zdT (by omega)))).trans h2)).trans ?_
  exact zat (zaI (za6 (zac (d := LN row') rfl zai) rfl))
end Law
end
section
namespace Law
open PySem L2 DL
theorem zhY (ns : List Int) (at' n m : Nat) (ha : at'≤60) (hn : n≤60) (hm : m≤60) : ∃ rows : List (List Nat),rows.length = n∧(∀ row∈rows,row.Perm (List.range m))∧zb7 [IN ns,nD at',nD n,nD m] = .ok (WD rows) := by
  have h : ∀ h : Nat,∃ row : List Nat,h≤60→row.Perm (List.range m)∧∃ c : Nat,zaB [IN ns,nD (at' + h)] = .ok (nD c)∧zbq [nD c,nD m] = .ok (TN row) := by
    intro h
    by_cases hh : h≤60
    · obtain ⟨c,hc⟩ := zdl ns (at' + h) (by omega)
      obtain ⟨row,h1,h2⟩ := zgU c m hm
      exact ⟨row,fun _ => ⟨h1,c,hc,h2⟩⟩
    · exact ⟨[],fun z => absurd z hh⟩
  obtain ⟨g,hg⟩ := Classical.axiomOfChoice h
  refine ⟨(List.range n).map g,by simp,fun row hr => ?_,zaU (B := zca) (n := 4) ?_⟩
  · obtain ⟨i,hi,rfl⟩ := List.mem_map.mp hr
    exact (hg i (by have := List.mem_range.mp hi; omega)).1
  · unfold zca
    refine zat (zaI (za6 (zac (zcS (l := List.range n) nD (fun _ => true) (fun h => TN (g h)) (zcR (zac (d := nD n) rfl zai) (zdT (by omega))) (by simp; omega) fun h hh => ⟨[some (nD h),some (nD m),some (IN ns),some (nD at')],rfl,rfl,fun _ => ?_⟩) zai) ?_))
    · obtain ⟨_,c,h1,h2⟩ := hg h (by have := List.mem_range.mp hh; omega)
      exact zan (zac (zan (zac (d := IN ns) rfl (zac (zaj (a := nD at') (b := nD h) rfl rfl (ze8 at' h)) zai)) h1) (zac (d := nD m) rfl zai)) h2
    · rw [zgy,e_tupL]
      show some (D.tup _) = some (D.tup _)
      rw [List.map_map]; rfl
end Law
end
section
namespace Law
open PySem PyProof.Rows L2 DL
theorem zpT (a b : Nat) : eqs (nD a) (nD b) = decide (a = b) := by
  show (((a : Nat) : Int) == (b : Int)) = _
  rw [Bool.eq_iff_iff,beq_iff_eq,decide_eq_true_iff]; exact Int.ofNat_inj
theorem zfR (k : Nat) : ∀ l : List Nat,k∈l→zd0 (nD k) (l.map nD) = some (l.idxOf k)
  | [],h => by cases h
  | a::l,h => by
    show (if eqs (nD a) (nD k) = true then some 0 else (zd0 (nD k) (l.map nD)).map (· + 1)) = _
    rw [zpT]
    by_cases e : a = k
    · rw [if_pos (by simpa using e)]; subst e; simp
    · rw [if_neg (by simpa using e),zfR k l ((List.mem_cons.mp h).resolve_left fun z => e z.symm)]
      have hf : (a == k) = false := by simpa using e
      rw [List.idxOf_cons,hf]; rfl
theorem zjI (k : Nat) : ∀ l : List Nat,(l.map nD).eraseIdx (l.idxOf k) = (l.erase k).map nD
  | [] => rfl
  | a::l => by
    by_cases e : a = k
    · subst e; simp
    · rw [List.idxOf_cons,List.erase_cons_tail (by simpa using e)]
      have : (a == k) = false := by simpa using e
      rw [this]
      show nD a::(l.map nD).eraseIdx (l.idxOf k) = _
      rw [zjI k l]; rfl
theorem zlr {k : Nat} {l : List Nat} (h : k∈l) : remD (LN l) [nD k] = some (LN (l.erase k)) := by
  show (if (l.map nD).all isInt = true then (zd0 (nD k) (l.map nD)).map fun j => D.lst ((l.map nD).eraseIdx j) else none) = _
  rw [if_pos (by rw [List.all_eq_true]; intro x hx; obtain ⟨y,_,rfl⟩ := List.mem_map.mp hx; rfl),zfR k l h]
  show some (D.lst _) = some (D.lst _)
  rw [zjI]
theorem zdo {k : Nat} {l : List Nat} (h : k∈l) : zcQ (TN l) [nD k] = some (nD (l.idxOf k)) := by
  show (if zaW (nD k) = true∧(l.map nD).all zaW = true then (zd0 (nD k) (l.map nD)).map fun j => D.int j else none) = _
  rw [if_pos ⟨rfl,zg7 l⟩,zfR k l h]; rfl
theorem zhc {T : String} {fo : FE} {fl : Rho→Res (List D)} {k : D→List D→Option D} {r : Rho} {d d' : D} {ds : List D} (h1 : fo r = .ok d) (ht : tyM T d = true) (h2 : fl r = .ok ds) (h3 : k d ds = some d') : fM T fo fl k r = .ok d' := by
  unfold fM; rw [h1,bind_ok,if_pos ht,h2,bind_ok,h3]; rfl
section
variable {a : Nat → Nat} {n : Nat}
end
end Law
end
section
namespace Law
open PySem PyProof.Rows L2 DL
theorem ze1 : ∀ l l' : List Nat,PyData.eqvAll (zcz (l.map nD)) (zcz (l'.map nD)) = decide (l = l')
  | [],[] => by simp [zcz,PyData.eqvAll]
  | [],k::l => by simp [zcz,PyData.eqvAll]
  | k::l,[] => by simp [zcz,PyData.eqvAll]
  | k::l,k'::l' => by
    have ih := ze1 l l'
    simp only [List.map_cons,zcz,toPy,PyData.eqvAll,PyData.eqv,ih]
    rw [Bool.eq_iff_iff]
    simp
    omega
theorem zhW {l : List Nat} {k : Nat} : ∀ d∈l.map nD,Shp k d := by
  intro d hd
  obtain ⟨x,_,rfl⟩ := List.mem_map.mp hd
  cases k <;> trivial
theorem zoK (l l' : List Nat) : eqB (TN l) (TN l') = some (decide (l = l')) := by
  rw [zeE rfl (zcL.mpr zhW) (zcL.mpr zhW)]
  unfold eqb
  simp only [toPy,PyData.eqv,ze1]
theorem zoL (l l' : List Nat) : eqB (LN l) (LN l') = some (decide (l = l')) := by
  rw [zeE rfl (zdE.mpr zhW) (zdE.mpr zhW)]
  unfold eqb
  simp only [toPy,PyData.eqv,ze1]
theorem zoJ (l l' : List Nat) : eqD (LN l) (LN l') = some (.bl (decide (l = l'))) := by unfold eqD; rw [zoL]; rfl
theorem zpV (l : List Nat) : eqB (TN l) (TN l) = some true := by rw [zoK,decide_eq_true rfl]
theorem zoa (l : List Nat) : neD (TN l) (TN l) = some (.bl false) := by unfold neD; rw [zpV]; rfl
theorem zkU {k : Nat} {l : List Nat} (h : k∈l) : zg6 (LN l) [nD k] = some (nD (l.idxOf k)) := by
  show (if zaW (nD k) = true∧(l.map nD).all zaW = true then (zd0 (nD k) (l.map nD)).map fun j => D.int j else none) = _
  rw [if_pos ⟨rfl,zg7 l⟩,zfR k l h]; rfl
theorem zdF {f : FE} {r : Rho} {i : Int} (h : f r = .ok (.int i)) : zeu f r = .ok (some i) := by unfold zeu; rw [h]; rfl
theorem ziv {ds : List D} {i : Nat} {v : D} (h : i < ds.length) : stoD (.lst ds) (nD i) v = some (.lst (ds.set i v)) := by
  show (ixN ds.length (i : Int)).map _ = _
  unfold ixN
  rw [if_pos (Int.natCast_nonneg i),if_pos (by omega)]
  simp
theorem zfV {nl : Nat} {cap : List Nat} {fi : FI} {ft : FT} {fe : FE} {r : Rho} {α : Type} {l : List α} (e : α→D) (g : α→D) (h1 : fi r = .ok (l.map e)) (hl : l.length≤1000)
    (h : ∀ a∈l,∃ r1,ft (e a) (capR nl cap r) = some r1∧fe r1 = .ok (g a)) : zch nl cap fi ft (fun _ => Res.ok true) fe r = .ok (.lst (l.map g)) := by
  have := zcS (q := fun _ => Res.ok true) e (fun _ => true) g h1 hl fun a ha => by
    obtain ⟨r1,q1,q2⟩ := h a ha
    exact ⟨r1,q1,rfl,fun _ => q2⟩
  rw [this,zgy]
end Law
end
section
namespace Law
open PySem PyProof.Rows L2 DL
theorem zjk (row things : List Nat) (fst : D) : ∀ (l : List Nat) (y : Option D),
    (match l.find? (fun h => decide (h∈things)) with
      | some h => forF (ftN 2) zby (l.map nD) [some fst,some (LN things),y] = .rt (nD h)
      | none => ∃ y',forF (ftN 2) zby (l.map nD) [some fst,some (LN things),y] = .nx [some fst,some (LN things),y'])
  | [],y => ⟨y,zbD⟩
  | h::l,y => by
    have c : (zaq (f2 (gv 2) (gv 1) inD)) [some fst,some (LN things),some (nD h)] = .ok (decide (h∈things)) := zam (zaj (a := nD h) (b := LN things) rfl rfl (zic _ _))
    rw [List.find?_cons]
    cases e : decide (h∈things) with
    | true =>
      rw [e] at c
      refine zhC (r1 := [some fst,some (LN things),some (nD h)]) rfl ?_
      exact zat ((if_t c).trans (zat (zaI (d := nD h) rfl)))
    | false =>
      rw [e] at c
      have ih := zjk row things fst l (some (nD h))
      have st : forF (ftN 2) zby ((h::l).map nD) [some fst,some (LN things),y] = forF (ftN 2) zby (l.map nD) [some fst,some (LN things),some (nD h)] :=
        zbU (r1 := [some fst,some (LN things),some (nD h)]) rfl ((zad (if_f c)).trans rfl)
      rw [st]
      exact ih
theorem ziE {row things : List Nat} (h : ∃ x∈row,x∈things) : zbG [TN row,LN things] = .ok (nD (Rg.best row things)) := by
  refine zaU (B := zcY) (n := 3) ?_
  unfold zcY
  have hl := zjk row things (TN row) row none
  unfold Rg.best
  cases e : row.find? fun x => decide (x∈things) with
  | none =>
    obtain ⟨x,h1,h2⟩ := h
    have := List.find?_eq_none.mp e x h1
    simp [h2] at this
  | some k =>
    rw [e] at hl
    exact zat ((zbj (ds := row.map nD) rfl).trans hl)
end Law
end
section
namespace Law
open PySem PyProof.Rows L2 DL
theorem zkj {m : List Md} {p : FQ} {b : FS} {n : Nat} {r : Rho} {d : D} (h : p r = .ok true) (h2 : b r = .rt d) : zbp m p b (n + 1) r = .rt d := by
  conv => lhs; unfold zbp
  rw [h,onE_ok,if_pos rfl,h2]
structure Rws (rows : List (List Nat)) (n m : Nat) : Prop where
  n1 : 1≤n
  n7 : n≤7
  nm : n≤m
  m8 : m≤8
  rl : rows.length = n
  rp : ∀ row∈rows,row.Perm (List.range m)
section
variable {rows : List (List Nat)} {n m : Nat}
theorem Rws.row (R : Rws rows n m) {h : Nat} (hh : h < n) : (Wr rows h).Perm (List.range m) := by
  unfold Wr
  rw [List.getElem?_eq_getElem (by rw [R.rl]; exact hh)]
  exact R.rp _ (List.getElem_mem _)
theorem Rws.has (R : Rws rows n m) {h x : Nat} (hh : h < n) (hx : x < m) : x∈Wr rows h := (R.row hh).mem_iff.mpr (List.mem_range.mpr hx)
theorem Rws.one (R : Rws rows n m) {h : Nat} {T : List Nat} (hh : h < n) (hT : 0 < T.length) (hm : ∀ x∈T,x < m) : ∃ x∈Wr rows h,x∈T :=
  ⟨T[0],R.has hh (hm _ (List.getElem_mem _)),List.getElem_mem _⟩
theorem Rws.lbest (R : Rws rows n m) {h : Nat} {T : List Nat} (hh : h < n) (hT : 0 < T.length) (hm : ∀ x∈T,x < m) : zbG [TN (Wr rows h),LN T] = .ok (nD (Rg.best (Wr rows h) T)) :=
  ziE (R.one hh hT hm)
theorem Rws.inT (R : Rws rows n m) {h : Nat} {T : List Nat} (hh : h < n) (hT : 0 < T.length) (hm : ∀ x∈T,x < m) : Rg.best (Wr rows h) T∈T := Rg.zhI (R.one hh hT hm)
theorem Rws.at0 (R : Rws rows n m) : ∃ r rest,rows = r::rest∧r.length = m := by
  cases e : rows with
  | nil => have := R.rl; have := R.n1; rw [e] at *; simp at *; omega
  | cons r rest => exact ⟨r,rest,rfl,by rw [(R.rp r (by rw [e]; exact List.mem_cons_self)).length_eq]; simp⟩
theorem Rws.things (R : Rws rows n m) : zbF [WD rows] = .ok (nD m) := by
  obtain ⟨r,rest,e,hl⟩ := R.at0
  rw [e,zhZ,hl]
theorem Rws.ix0 (R : Rws rows n m) : ∃ r0,ixA (WD rows) (.int 0) = some (TN r0)∧lenD [TN r0] = some (nD m) := by
  obtain ⟨r,rest,e,hl⟩ := R.at0
  exact ⟨r,by rw [e]; exact ixA_T0 _ _,by rw [zdn,hl]⟩
theorem Rws.len (R : Rws rows n m) : lenD [WD rows] = some (nD n) := by rw [zdn,R.rl]
noncomputable def dOf (dl : List Nat) (h : Nat) : Nat := dl.getD h 0
theorem zmQ {dl : List Nat} {h : Nat} (hh : h < dl.length) : (dl.map nD)[h]? = some (nD (dOf dl h)) := by
  rw [List.getElem?_map,List.getElem?_eq_getElem hh]
  unfold dOf
  rw [List.getD_eq_getElem?_getD,List.getElem?_eq_getElem hh]; rfl
theorem zlO {dl : List Nat} (h : dl.length = n) : (List.range n).map (dOf dl) = dl := by
  refine List.ext_getElem? fun i => ?_
  rw [List.getElem?_map]
  by_cases hi : i < n
  · rw [List.getElem?_range hi,List.getElem?_eq_getElem (by omega)]
    unfold dOf
    rw [Option.map_some,List.getD_eq_getElem?_getD,List.getElem?_eq_getElem (by omega)]; rfl
  · rw [List.getElem?_eq_none (by simp; omega),List.getElem?_eq_none (by omega)]; rfl
noncomputable abbrev resD : Option (List Nat)→D
  | some o => LN o
  | none => .non
theorem zjh (R : Rws rows n m) {dl : List Nat} (hdl : dl.length = n) {T order : List Nat} (hp : 0 < T.length) (hT : ∀ x∈T,x < m) : ∀ (suf ready : List Nat) (y : Option D),(∀ h∈suf,h < n)→ready.length + suf.length≤60 →
    ∃ y',forF (ftN 5) zba (suf.map nD) [some (WD rows),some (TN dl),some (LN T),some (LN order),some (LN ready),y] = .nx [some (WD rows),some (TN dl),some (LN T),some (LN order),some (LN (ready++suf.filter fun h => decide (h∉order) && decide (Rg.best (Wr rows h) T = dOf dl h))),y']
  | [],ready,y,_,_ => ⟨y,by rw [List.filter_nil,List.append_nil]; exact zbD⟩
  | h::suf,ready,y,hh,hl => by
    have h0 := hh h List.mem_cons_self
    have t1 := zam (zaj (f := gv 5) (f' := gv 3) (r := [some (WD rows),some (TN dl),some (LN T),some (LN order),some (LN ready),some (nD h)]) (a := nD h) (b := LN order) rfl rfl (zlC order h))
    have t2 : (zaq (f2 (zaz (zab (f2 (gv 0) (gv 5) ixA) (zab (gv 2) lNil)) [] zbG) (f2 (gv 1) (gv 5) ixA) eqD)) [some (WD rows),some (TN dl),some (LN T),some (LN order),some (LN ready),some (nD h)] = .ok (decide (Rg.best (Wr rows h) T = dOf dl h)) :=
      zam (zaj (zan (zac (zaj (a := WD rows) (b := nD h) rfl rfl (zet (ziF (by rw [R.rl]; exact h0)))) (zac (d := LN T) rfl zai)) (R.lbest h0 hp hT)) (zaj (a := TN dl) (b := nD h) rfl rfl (zet (zmQ (by rw [hdl]; exact h0)))) (zjJ _ _))
    by_cases c : h∉order∧Rg.best (Wr rows h) T = dOf dl h
    · obtain ⟨y',ih⟩ := zjh R hdl (order := order) hp hT suf (ready++[h]) (some (nD h)) (fun k hk => hh k (List.mem_cons_of_mem _ hk)) (by simp at hl ⊢; omega)
      refine ⟨y',?_⟩
      rw [List.filter_cons,if_pos (by simpa using c)]
      rw [List.append_assoc] at ih
      rw [show ready++h::suf.filter (fun h => decide (h∉order) && decide (Rg.best (Wr rows h) T = dOf dl h)) = ready++([h]++suf.filter fun h => decide (h∉order) && decide (Rg.best (Wr rows h) T = dOf dl h)) from rfl,← ih]
      refine zbU (r1 := [some (WD rows),some (TN dl),some (LN T),some (LN order),some (LN ready),some (nD h)]) rfl ?_
      rw [decide_eq_false c.1] at t1
      rw [decide_eq_true c.2] at t2
      refine (zad ((if_t ((zhj t1).trans t2)).trans (zad (zdW (d := LN ready) (ds := [nD h]) rfl rfl (zac (d := nD h) rfl zai) (zf0 (by simp at hl ⊢; omega)))))).trans ?_
      show Out.nx [_,_,_,_,some (D.lst (ready.map nD++[nD h])),_] = Out.nx [_,_,_,_,some (D.lst ((ready++[h]).map nD)),_]
      rw [List.map_append]; rfl
    · obtain ⟨y',ih⟩ := zjh R hdl (order := order) hp hT suf ready (some (nD h)) (fun k hk => hh k (List.mem_cons_of_mem _ hk)) (by simp at hl ⊢; omega)
      refine ⟨y',?_⟩
      rw [List.filter_cons,if_neg (by simpa using c),← ih]
      refine zbU (r1 := [some (WD rows),some (TN dl),some (LN T),some (LN order),some (LN ready),some (nD h)]) rfl ?_
      refine (zad ((if_f ?_).trans (e_skip _))).trans rfl
      by_cases c1 : h∈order
      · rw [decide_eq_true c1] at t1; exact zih t1
      · rw [decide_eq_false c1] at t1
        rw [decide_eq_false fun z => c ⟨c1,z⟩] at t2
        exact (zhj t1).trans t2
theorem zkN (R : Rws rows n m) {dl : List Nat} (hdl : dl.length = n) : ∀ (j : Nat) (hands T order : List Nat) (x y : Option D),hands = ((List.range n).filter fun h => decide (h∉order))→hands.length + order.length = n→hands.length < j→hands.length≤T.length→(∀ x∈T,x < m) →
    match Rg.beh (Wr rows) (dOf dl) j hands T order with
    | some o => ∃ T' x' y',zbp q105 zaP zaQ j [some (WD rows),some (TN dl),some (LN T),some (LN order),x,y] = .nx [some (WD rows),some (TN dl),some (LN T'),some (LN o),x',y']
    | none => zbp q105 zaP zaQ j [some (WD rows),some (TN dl),some (LN T),some (LN order),x,y] = .rt .non := by
  intro j
  induction j with
  | zero => intro hands T order x y _ _ h; omega
  | succ j ih =>
    intro hands T order x y he hlen hj hl hT
    have hn7 := R.n7
    have q : zaP [some (WD rows),some (TN dl),some (LN T),some (LN order),x,y] = .ok (decide (order.length < n)) := zam (zaj (za6 (zac (d := LN order) rfl zai) (zcq _ _)) (za6 (zac (d := WD rows) rfl zai) R.len) (zgZ _ _))
    unfold Rg.beh
    by_cases e : hands = []
    · rw [if_pos e]
      rw [e] at hlen
      rw [decide_eq_false (by simp at hlen; omega)] at q
      exact ⟨T,x,y,zgN q⟩
    · rw [if_neg e]
      have hpos := List.length_pos_iff.mpr e
      rw [decide_eq_true (by omega)] at q
      have hh : ∀ h∈hands,h < n := fun h hm => by rw [he] at hm; exact List.mem_range.mp (List.mem_filter.mp hm).1
      obtain ⟨y1,hin⟩ := zjh R hdl (order := order) (by omega : 0 < T.length) hT (List.range n) [] y (fun h hm => List.mem_range.mp hm) (by simp; omega)
      have es : ((List.range n).filter fun h => decide (h∉order) && decide (Rg.best (Wr rows h) T = dOf dl h)) = Rg.zeL (Wr rows) (dOf dl) hands T := by
        unfold Rg.zeL
        rw [he,List.filter_filter]
        refine Rg.zoF fun h _ => ?_
        rw [Bool.and_comm]
      rw [List.nil_append,es] at hin
      have pre : ∀ s2 : FS,seqF (setF q105 4 (mkL lNil)) (seqF (zcf q110 (fRng rng1 (zab (fC (zab (gv 0) lNil) lenD) lNil)) (ftN 5) zba) s2) [some (WD rows),some (TN dl),some (LN T),some (LN order),x,y] = s2 [some (WD rows),some (TN dl),some (LN T),some (LN order),some (LN (Rg.zeL (Wr rows) (dOf dl) hands T)),y1] := fun s2 => by
        refine (zad (zas (d := LN []) (zdA zai (by simp)))).trans ?_
        exact zad ((zbj (ds := (List.range n).map nD) (zcR (zac (za6 (zac (d := WD rows) rfl zai) R.len) zai) (zdT (by omega)))).trans hin)
      have hif : ∀ l : List Nat,(zaq (f2 (gv 4) (mkL lNil) eqD)) [some (WD rows),some (TN dl),some (LN T),some (LN order),some (LN l),y1] = .ok (decide (l = [])) := fun l =>
        zam (zaj (a := LN l) (b := LN []) rfl (zdA zai (by simp)) (zoJ l []))
      cases z : Rg.zeL (Wr rows) (dOf dl) hands T with
      | nil =>
        rw [z] at pre
        have t := hif []
        rw [decide_eq_true rfl] at t
        refine zkj q ?_
        refine (pre _).trans ?_
        exact zat ((if_t t).trans (zat (zaI (d := .non) rfl)))
      | cons s t =>
        rw [z] at pre
        have t0 := hif (s::t)
        rw [decide_eq_false (by simp)] at t0
        have hs : s∈Rg.zeL (Wr rows) (dOf dl) hands T := by rw [z]; exact List.mem_cons_self
        obtain ⟨h1,h2⟩ := List.mem_filter.mp hs
        simp only [decide_eq_true_eq] at h2
        have hsn := hh s h1
        have hin2 := R.inT hsn (by omega : 0 < T.length) hT
        rw [h2] at hin2
        have hle := List.length_erase_of_mem h1
        have hso : s∉order := by
          have := h1
          rw [he] at this
          simpa using (List.mem_filter.mp this).2
        have hnd : hands.Nodup := by rw [he]; exact Rg.zlA List.nodup_range
        have he' : hands.erase s = (List.range n).filter fun h => decide (h∉order++[s]) := by
          rw [Rg.zo3 hnd,he,List.filter_filter]
          refine Rg.zoF fun h _ => ?_
          rw [Bool.eq_iff_iff]
          simp only [Bool.and_eq_true,decide_eq_true_eq,List.mem_append,List.mem_singleton]
          constructor
          · rintro ⟨a,b⟩ (c | c)
            · exact b c
            · exact a c
          · exact fun a => ⟨fun b => a (.inr b),fun b => a (.inl b)⟩
        have i := ih (hands.erase s) (T.erase (dOf dl s)) (order++[s]) (some (LN (s::t))) y1 he' (by rw [hle,List.length_append]; simp; omega) (by omega) (by rw [hle,List.length_erase_of_mem hin2]; omega) (fun x hx => hT x (List.mem_of_mem_erase hx))
        have hbody : zaQ [some (WD rows),some (TN dl),some (LN T),some (LN order),x,y] = .nx [some (WD rows),some (TN dl),some (LN (T.erase (dOf dl s))),some (LN (order++[s])),some (LN (s::t)),y1] := by
          refine (pre _).trans ?_
          refine (zad ((if_f t0).trans (e_skip _))).trans ?_
          refine (zad (zdW (d := LN order) (ds := [nD s]) rfl rfl (zac (zaj (a := LN (s::t)) (b := .int 0) rfl rfl (ixA_L0 _ _)) zai) (zf0 (by simp; omega)))).trans ?_
          refine (zad (zdW (d := LN T) (ds := [nD (dOf dl s)]) rfl rfl (zac (zaj (a := TN dl) (b := nD s) rfl (zaj (a := LN (s::t)) (b := .int 0) rfl rfl (ixA_L0 _ _)) (zet (zmQ (by rw [hdl]; exact hsn)))) zai) (zlr hin2))).trans ?_
          show Out.nx [_,_,_,some (D.lst (order.map nD++[nD s])),_,_] = Out.nx [_,_,_,some (D.lst ((order++[s]).map nD)),_,_]
          rw [List.map_append]; rfl
        rw [zfB q hbody]
        exact i
theorem zd5 (R : Rws rows n m) {dl : List Nat} (hdl : dl.length = n) : zaK [WD rows,TN dl] = .ok (resD (Rg.beh (Wr rows) (dOf dl) 64 (List.range n) (List.range m) [])) := by
  have hn7 := R.n7
  have hm8 := R.m8
  have hnm := R.nm
  have hl := zkN R hdl 64 (List.range n) (List.range m) [] none none (by rw [List.filter_eq_self.mpr fun _ _ => by simp]) (by simp) (by simp; omega) (by simp; omega) (fun x hx => List.mem_range.mp hx)
  obtain ⟨r0,hr0,hr0m⟩ := R.ix0
  refine zaU (B := za0) (n := 6) ?_
  unfold za0
  refine (zad (zas (d := LN (List.range m)) (za6 (zac (d := nD m) (za6 (zac (zaj (a := WD rows) (b := .int 0) rfl rfl hr0) zai) hr0m) zai) (zjf (by omega))))).trans ?_
  refine (zad (zas (d := LN []) (zdA zai (by simp)))).trans ?_
  cases e : Rg.beh (Wr rows) (dOf dl) 64 (List.range n) (List.range m) [] with
  | none => rw [e] at hl; exact zat hl
  | some o =>
    rw [e] at hl
    obtain ⟨T',x',y',hl⟩ := hl
    refine (zad hl).trans ?_
    exact zat (zaI (d := LN o) rfl)
end
end Law
end
section
namespace Law
open PySem PyProof.Rows L2 DL
structure Dl (rows : List (List Nat)) (dl : List Nat) (n m : Nat) : Prop where
  R : Rws rows n m
  dn : dl.length = n
  nd : dl.Nodup
  lt : ∀ x∈dl,x < m
section
variable {rows : List (List Nat)} {dl : List Nat} {n m : Nat}
theorem zhh {h : Nat} (hh : h < dl.length) : dOf dl h∈dl := by
  unfold dOf
  rw [List.getD_eq_getElem?_getD,List.getElem?_eq_getElem hh]
  exact List.getElem_mem _
theorem ze2 (hn : dl.Nodup) {h l : Nat} (hh : h < dl.length) (hl : l < dl.length) (e : dOf dl h = dOf dl l) : h = l := by
  unfold dOf at e
  rw [List.getD_eq_getElem?_getD,List.getElem?_eq_getElem hh,List.getD_eq_getElem?_getD,List.getElem?_eq_getElem hl] at e
  simp only [Option.getD_some] at e
  have := List.pairwise_iff_getElem.mp hn
  rcases Nat.lt_trichotomy h l with z | z | z
  · exact absurd e (this h l hh hl z)
  · exact z
  · exact absurd e.symm (this l h hl hh z)
theorem zjR {x : Nat} (h : x∈dl) : ∃ i,i < dl.length∧dOf dl i = x := by
  obtain ⟨i,hi,rfl⟩ := List.getElem_of_mem h
  refine ⟨i,hi,?_⟩
  unfold dOf
  rw [List.getD_eq_getElem?_getD,List.getElem?_eq_getElem hi]; rfl
theorem Dl.dlt (D : Dl rows dl n m) {h : Nat} (hh : h < n) : dOf dl h < m := D.lt _ (zhh (by rw [D.dn]; exact hh))
theorem Dl.at (D : Dl rows dl n m) {h : Nat} (hh : h < n) : ixA (TN dl) (nD h) = some (nD (dOf dl h)) := zet (zmQ (by rw [D.dn]; exact hh))
theorem Dl.rw' (D : Dl rows dl n m) {h : Nat} (hh : h < n) : ixA (WD rows) (nD h) = some (TN (Wr rows h)) := zet (ziF (by rw [D.R.rl]; exact hh))
theorem zgf (D : Dl rows dl n m) {h x y : Nat} (hh : h < n) (hx : x < m) (hy : y < m) : zdL [WD rows,nD h,nD x,nD y] = .ok (.bl (decide (Rg.lk (Wr rows) h x y))) := by
  refine zaU (B := zf3) (n := 5) ?_
  unfold zf3
  refine (zad (zas (zaj (a := WD rows) (b := nD h) rfl rfl (D.rw' hh)))).trans ?_
  exact zat (zaI (zaj (zhc (d := TN (Wr rows h)) rfl rfl (zac (d := nD x) rfl zai) (zdo (D.R.has hh hx))) (zhc (d := TN (Wr rows h)) rfl rfl (zac (d := nD y) rfl zai) (zdo (D.R.has hh hy))) (zgZ _ _)))
theorem zh1 (D : Dl rows dl n m) {h x y : Nat} (hh : h < n) (hx : x < m) (hy : y < m) : zct [WD rows,nD h,nD x,nD y] = .ok (.bl (decide (Rg.lk (Wr rows) h x y))) := by
  refine zaU (B := zcv) (n := 4) ?_
  unfold zcv
  exact zat (zaI (zaj (zhc (zaj (a := WD rows) (b := nD h) rfl rfl (D.rw' hh)) rfl (zac (d := nD x) rfl zai) (zdo (D.R.has hh hx))) (zhc (zaj (a := WD rows) (b := nD h) rfl rfl (D.rw' hh)) rfl (zac (d := nD y) rfl zai) (zdo (D.R.has hh hy))) (zgZ _ _)))
end
theorem zlK (f : Nat→D) : ∀ {T : List Nat} {x : Nat},x∈T→getK (T.map fun x => (kI x,f x)) (kI x) = some (f x)
  | [],_,h => by cases h
  | y::T,x,h => by
    by_cases e : y = x
    · subst e; simp [getK,List.find?_cons]
    · have hne : ¬ kI y = kI x := fun z => e (zol z)
      have ih := zlK f (T := T) (x := x) ((List.mem_cons.mp h).resolve_left fun z => e z.symm)
      have e1 : getK ((y::T).map fun x => (kI x,f x)) (kI x) = getK (T.map fun x => (kI x,f x)) (kI x) := by
        simp only [getK,List.map_cons,List.find?_cons]
        rw [decide_eq_false hne]
      rw [e1]; exact ih
theorem znk {T : List Nat} {f : Nat→D} {x : Nat} (h : x∉T) (hl : T.length≤1000) : stoD (.dic (T.map fun x => (kI x,f x))) (nD x) (f x) = some (.dic ((T++[x]).map fun x => (kI x,f x))) := by
  show (if (T.map fun x => (kI x,f x)).length < sizeLine then some (D.dic (putD _ (kI x) (f x))) else none) = _
  rw [if_pos (by rw [List.length_map,sizeLine_eq]; omega)]
  have := zku (T.map fun y => (y,f y)) x (f x) (by rw [List.map_map]; simpa [Function.comp_def] using h)
  rw [List.map_map] at this
  show some (D.dic (putD (T.map fun x => (kI x,f x)) (kI x) (f x))) = _
  have e : putD (T.map fun x => (kI x,f x)) (kI x) (f x) = (T++[x]).map fun x => (kI x,f x) := by
    refine Eq.trans this ?_
    rw [List.map_append,List.map_map,List.map_append]; rfl
  rw [e]
theorem zfx {E : Nat→List Nat} {C : List Nat} (hc : ∀ h∈C,∃ y∈E h,y∈C) : ∀ (k : Nat) (S : List Nat),(∀ h∈C,h∈S)→∀ h∈C,h∈Gr.core E k S
  | 0,S,hs => hs
  | k + 1,S,hs => by
    unfold Gr.core
    by_cases e : (Gr.elim E S).length = S.length
    · rw [if_pos e]; exact hs
    · rw [if_neg e]
      refine zfx hc k _ fun h hh => ?_
      obtain ⟨y,h1,h2⟩ := hc h hh
      exact List.mem_filter.mpr ⟨hs h hh,List.any_eq_true.mpr ⟨y,h1,by simpa using hs y h2⟩⟩
noncomputable abbrev SD (E : Nat→List Nat) (n : Nat) : D := .dic ((List.range n).map fun x => (kI x,LN (E x)))
structure Gf (E : Nat→List Nat) (n : Nat) : Prop where
  n1 : 1≤n
  n7 : n≤7
  lt : ∀ x,x < n→∀ y∈E x,y < n
  few : ∀ x,x < n→(E x).length≤60
section
variable {E : Nat → List Nat} {n : Nat}
theorem zpf {x : Nat} (h : x < n) : ixA (SD E n) (nD x) = some (LN (E x)) := zpL (zlK (fun x => LN (E x)) (List.mem_range.mpr h))
theorem zfn (g : Gf E n) {x : Nat} (hx : x < n) (S : List Nat) : za3 [SD E n,nD x,LN S] = .ok (LN ((E x).filter fun y => decide (y∈S))) := by
  refine zaU (B := zbR) (n := 3) ?_
  unfold zbR
  refine zat (zaI (zcS (l := E x) nD (fun y => decide (y∈S)) nD (zgb (zaj (a := SD E n) (b := nD x) rfl rfl (zpf hx)) rfl) (by have := g.few x hx; omega) fun y hy => ⟨[some (nD y),some (LN S)],rfl,?_,fun _ => rfl⟩))
  exact zam (zaj (a := nD y) (b := LN S) rfl rfl (zic S y))
theorem zhP (x : Nat) (S : List Nat) : truD (LN ((E x).filter fun y => decide (y∈S))) = some ((E x).any fun y => decide (y∈S)) := by
  show some (!(((E x).filter fun y => decide (y∈S)).map nD).isEmpty) = _
  rw [List.isEmpty_map]
  congr 1
  rw [Bool.eq_iff_iff,List.any_eq_true]
  constructor
  · intro h
    cases e : (E x).filter fun y => decide (y∈S) with
    | nil => rw [e] at h; simp at h
    | cons y l =>
      have : y∈(E x).filter fun y => decide (y∈S) := by rw [e]; exact List.mem_cons_self
      exact ⟨y,(List.mem_filter.mp this).1,(List.mem_filter.mp this).2⟩
  · rintro ⟨y,h1,h2⟩
    have : y∈(E x).filter fun y => decide (y∈S) := List.mem_filter.mpr ⟨h1,h2⟩
    cases e : (E x).filter fun y => decide (y∈S) with
    | nil => rw [e] at this; cases this
    | cons y l => rfl
theorem ziO (g : Gf E n) {S : List Nat} (hS : ∀ x∈S,x < n) (hl : S.length≤60) (y1 : Option D) : za9 [some (SD E n),y1,some (LN S)] = .nx [some (SD E n),some (LN S),some (LN (Gr.elim E S))] := by
  refine (zad (zas (d := LN S) rfl)).trans ?_
  refine zad (zas (d := LN (Gr.elim E S)) (zcS (l := S) nD (fun x => (E x).any fun y => decide (y∈S)) nD rfl (by omega) fun x hx => ⟨[some (nD x),some (SD E n),some (LN S)],rfl,?_,fun _ => rfl⟩))
  exact zbY (zan (zac (d := SD E n) rfl (zac (d := nD x) rfl (zac (d := LN S) rfl zai))) (zfn g (hS x hx) S)) (zhP x S)
theorem ziN (g : Gf E n) : ∀ (k : Nat) (S : List Nat),S.length < k→(∀ x∈S,x < n)→S.length≤60→∃ z,zbp q106 zbV za9 k [some (SD E n),some (LN S),some (LN (Gr.elim E S))] = .nx [some (SD E n),some (LN (Gr.core E k S)),z]
  | 0,S,h,_,_ => absurd h (by omega)
  | k + 1,S,h,hS,hl => by
    have t := zam (zaj (f := fC (zab (gv 2) lNil) lenD) (f' := fC (zab (gv 1) lNil) lenD) (r := [some (SD E n),some (LN S),some (LN (Gr.elim E S))]) (za6 (zac (d := LN (Gr.elim E S)) rfl zai) (zcq _ _)) (za6 (zac (d := LN S) rfl zai) (zcq _ _)) (zn8 (Gr.elim E S).length S.length))
    by_cases e : (Gr.elim E S).length = S.length
    · rw [decide_eq_true e] at t
      have ec : Gr.core E (k + 1) S = S := by show (if _ then _ else _) = _; rw [if_pos e]
      rw [ec]
      exact ⟨_,zgN t⟩
    · rw [decide_eq_false e] at t
      have hle := Gr.elim_len (E := E) S
      have ec : Gr.core E (k + 1) S = Gr.core E k (Gr.elim E S) := by show (if _ then _ else _) = _; rw [if_neg e]
      rw [ec]
      have hS' : ∀ x∈Gr.elim E S,x < n := fun x hx => hS x (List.mem_filter.mp hx).1
      obtain ⟨z,ih⟩ := ziN g k (Gr.elim E S) (by omega) hS' (by omega)
      exact ⟨z,(zfB t (ziO g hS' (by omega) _)).trans ih⟩
noncomputable abbrev Co (E : Nat→List Nat) (n : Nat) : List Nat := Gr.core E 63 (List.range n)
theorem zpK (g : Gf E n) : zjl (SD E n) = some (LN (List.range n)) := by
  show some (D.lst (((List.range n).map fun x => (kI x,LN (E x))).map fun kv => kyD kv.1)) = _
  rw [List.map_map]; rfl
theorem zh0 (g : Gf E n) : zaY [SD E n] = .ok (LN (Co E n)) := by
  have hn1 := g.n1
  have hn7 := g.n7
  obtain ⟨z,h⟩ := ziN g 63 (List.range n) (by simp; omega) (fun x hx => List.mem_range.mp hx) (by simp; omega)
  refine zaU (B := zaZ) (n := 3) ?_
  unfold zaZ
  refine (zad (zas (d := LN []) (zdA zai (by simp)))).trans ?_
  refine (zad (zas (d := LN (List.range n)) (zhd (a := SD E n) rfl (zpK g)))).trans ?_
  have t := zam (zaj (f := fC (zab (gv 2) lNil) lenD) (f' := fC (zab (gv 1) lNil) lenD) (r := [some (SD E n),some (LN []),some (LN (List.range n))]) (za6 (zac (d := LN (List.range n)) rfl zai) (zcq _ _)) (za6 (zac (d := LN []) rfl zai) (zcq _ _)) (zn8 (List.range n).length ([] : List Nat).length))
  rw [decide_eq_false (by simp; omega)] at t
  refine (zad ((zfB t (ziO g (fun x hx => List.mem_range.mp hx) (by simp; omega) _)).trans h)).trans ?_
  exact zat (zaI (d := LN (Co E n)) rfl)
theorem zp2 : ∀ x∈Co E n,x < n := fun x hx => List.mem_range.mp (Gr.core_sub 63 _ x hx)
theorem zoZ (g : Gf E n) : (Co E n).length≤n := by
  have := Rg.zdY (m := List.range n) (Gr.core_nd (E := E) 63 (List.range n) List.nodup_range) fun x hx => Gr.core_sub 63 _ x hx
  simpa using this
theorem zp3 (g : Gf E n) : ∀ x∈Co E n,∃ y∈E x,y∈Co E n := Gr.core_go 63 (List.range n) (by have := g.n7; simp; omega)
noncomputable def nxE (E : Nat→List Nat) (C : List Nat) (h : Nat) : Nat := ((E h).filter fun y => decide (y∈C)).headD 0
theorem zlz {C : List Nat} (hg : ∀ x∈C,∃ y∈E x,y∈C) {h : Nat} (hh : h∈C) : ∃ t,(E h).filter (fun y => decide (y∈C)) = nxE E C h::t := by
  obtain ⟨y,h1,h2⟩ := hg h hh
  have : y∈(E h).filter fun y => decide (y∈C) := List.mem_filter.mpr ⟨h1,by simpa using h2⟩
  unfold nxE
  cases e : (E h).filter fun y => decide (y∈C) with
  | nil => rw [e] at this; cases this
  | cons a t => exact ⟨t,rfl⟩
theorem zfL {C : List Nat} (hg : ∀ x∈C,∃ y∈E x,y∈C) {h : Nat} (hh : h∈C) : nxE E C h∈C∧nxE E C h∈E h := by
  obtain ⟨t,e⟩ := zlz hg hh
  have : nxE E C h∈(E h).filter fun y => decide (y∈C) := by rw [e]; exact List.mem_cons_self
  obtain ⟨h1,h2⟩ := List.mem_filter.mp this
  exact ⟨by simpa using h2,h1⟩
theorem zio (g : Gf E n) {C : List Nat} (hC : ∀ x∈C,x < n) (hg : ∀ x∈C,∃ y∈E x,y∈C) (hl : C.length≤60) : ∀ (j : Nat) (walk : List Nat) (p : Nat),p∈C→walk.Nodup→(∀ x∈walk,x∈C)→C.length < j + walk.length →
    zbp q111 zbE zcG j [some (SD E n),some (LN C),some (LN walk),some (nD p)] = .nx [some (SD E n),some (LN C),some (LN (Rg.ziR (nxE E C) j walk p).1),some (nD (Rg.ziR (nxE E C) j walk p).2)]
  | 0,walk,p,_,hn,hw,h => by
    have := Rg.zdY hn hw
    omega
  | j + 1,walk,p,hp,hn,hw,h => by
    have hpl := Rg.zdY hn hw
    have t : zbE [some (SD E n),some (LN C),some (LN walk),some (nD p)] = .ok (!decide (p∈walk)) := zam (zaj (a := nD p) (b := LN walk) rfl rfl (zlC walk p))
    by_cases e : p∈walk
    · rw [decide_eq_true e] at t
      rw [zgN t]
      unfold Rg.ziR
      rw [if_pos e]
    · rw [decide_eq_false e] at t
      obtain ⟨l,hq⟩ := zlz hg hp
      have hn2 : (walk++[p]).Nodup := List.nodup_append.mpr ⟨hn,by simp,fun a ha b hb => by simp at hb; rintro rfl; exact e (hb ▸ ha)⟩
      have hsub : ∀ x∈walk++[p],x∈C := fun x hx => by
        rcases List.mem_append.mp hx with z | z
        · exact hw x z
        · rw [List.mem_singleton.mp z]; exact hp
      have ih := zio g hC hg hl j (walk++[p]) (nxE E C p) (zfL hg hp).1 hn2 hsub (by simp; omega)
      unfold Rg.ziR
      rw [if_neg e,← ih]
      refine zfB t ?_
      refine (zad (zdW (d := LN walk) (ds := [nD p]) (d' := LN (walk++[p])) rfl rfl (zac (d := nD p) rfl zai) ?_)).trans ?_
      · rw [zf0 (by simp; omega)]
        show some (D.lst _) = some (D.lst _)
        rw [List.map_append]; rfl
      refine zad (zas (d := nD (nxE E C p)) (zaj (b := .int 0) (zan (zac (d := SD E n) rfl (zac (d := nD p) rfl (zac (d := LN C) rfl zai))) (zfn g (hC p hp) C)) rfl ?_))
      rw [hq]; exact ixA_L0 _ _
end
section
variable {rows : List (List Nat)} {dl : List Nat} {n m : Nat}
noncomputable def Ev (rows : List (List Nat)) (dl : List Nat) (n : Nat) (h : Nat) : List Nat := (List.range n).filter fun o => decide (Rg.lk (Wr rows) h (dOf dl o) (dOf dl h))
theorem zhO {h o : Nat} : o∈Ev rows dl n h↔o < n∧Rg.lk (Wr rows) h (dOf dl o) (dOf dl h) := by
  unfold Ev
  rw [List.mem_filter,List.mem_range,decide_eq_true_eq]
theorem Dl.gf (D : Dl rows dl n m) : Gf (Ev rows dl n) n where
  n1 := D.R.n1
  n7 := D.R.n7
  lt := fun x _ y hy => (zhO.mp hy).1
  few := fun x _ => by
    have h7 := D.R.n7
    have : (Ev rows dl n x).length≤(List.range n).length := List.length_filter_le _ _
    rw [List.length_range] at this
    omega
theorem zoN : ∀ (k i : Nat) (f : Nat→Nat),enuD i ((List.range' i k).map fun o => nD (f o)) = (List.range' i k).map fun o => .tup [nD o,nD (f o)]
  | 0,i,f => rfl
  | k + 1,i,f => by
    rw [List.range'_succ,List.map_cons,List.map_cons,← zoN k (i + 1) f]; rfl
theorem zoO (hl : dl.length = n) : enuD 0 (dl.map nD) = (List.range n).map fun o => DL.D.tup [nD o,nD (dOf dl o)] := by
  have e : dl.map nD = (List.range n).map fun o => nD (dOf dl o) := by
    refine List.ext_getElem? fun i => ?_
    rw [List.getElem?_map,List.getElem?_map]
    by_cases hi : i < n
    · rw [List.getElem?_range hi,List.getElem?_eq_getElem (by omega)]
      unfold dOf
      rw [Option.map_some,Option.map_some,List.getD_eq_getElem?_getD,List.getElem?_eq_getElem (by omega)]; rfl
    · rw [List.getElem?_eq_none (by omega),List.getElem?_eq_none (by simp; omega)]; rfl
  rw [e,List.range_eq_range',zoN n 0 (dOf dl)]
theorem zh2 (D : Dl rows dl n m) {h : Nat} (hh : h < n) : zbP [WD rows,TN dl,nD h] = .ok (LN (Ev rows dl n h)) := by
  have hn7 := D.R.n7
  refine zaU (B := zbS) (n := 3) ?_
  unfold zbS
  refine zat (zaI (zcS (l := List.range n) (fun o => DL.D.tup [nD o,nD (dOf dl o)]) (fun o => decide (Rg.lk (Wr rows) h (dOf dl o) (dOf dl h))) nD ?_ (by simp; omega) fun o hm => ⟨[some (nD o),some (nD (dOf dl o)),some (WD rows),some (nD h),some (TN dl)],rfl,?_,fun _ => rfl⟩))
  · exact (show _ = Res.ok (enuD 0 (dl.map nD)) from rfl).trans (by rw [zoO D.dn])
  · exact zbY (zan (zac (d := WD rows) rfl (zac (d := nD h) rfl (zac (d := nD (dOf dl o)) rfl (zac (zaj (a := TN dl) (b := nD h) rfl rfl (D.at hh)) zai)))) (zgf D hh (D.dlt (List.mem_range.mp hm)) (D.dlt hh))) rfl
theorem zit (D : Dl rows dl n m) : ∀ (k i : Nat) (y3 y4 : Option DL.D),i + k = n →
    ∃ z3,forF (ftN 3) zel ((List.range' i k).map nD) [some (WD rows),some (TN dl),some (SD (Ev rows dl n) i),y3,y4] = .nx [some (WD rows),some (TN dl),some (SD (Ev rows dl n) n),z3,y4]
  | 0,i,y3,y4,h => ⟨y3,by rw [show i = n by omega]; exact zbD⟩
  | k + 1,i,y3,y4,h => by
    have hn7 := D.R.n7
    obtain ⟨z3,ih⟩ := zit D k (i + 1) (some (nD i)) y4 (by omega)
    refine ⟨z3,?_⟩
    rw [← ih]
    refine zbU (r1 := [some (WD rows),some (TN dl),some (SD (Ev rows dl n) i),some (nD i),y4]) rfl ?_
    have es := znk (T := List.range i) (f := fun x => LN (Ev rows dl n x)) (x := i) (by simp) (by simp; omega)
    rw [← List.range_succ] at es
    exact zad (zgi (d := SD (Ev rows dl n) i) (k := nD i) (v := LN (Ev rows dl n i)) rfl (zan (zac (d := WD rows) rfl (zac (d := TN dl) rfl (zac (d := nD i) rfl zai))) (zh2 D (by omega))) rfl es)
structure Env (rows : List (List Nat)) (dl : List Nat) (n : Nat) (r : List Nat) : Prop where
  nd : r.Nodup
  lt : ∀ h∈r,h < n
  two : 2≤r.length
  lk : ∀ i h l,r[i]? = some h→r[(i + 1) % r.length]? = some l→Rg.lk (Wr rows) h (dOf dl l) (dOf dl h)
theorem zkn {l : List Nat} {i : Nat} (h : i≤l.length) : slA (LN l) (some (i : Int)) none = some (LN (l.drop i)) := by
  show some (D.lst (cutL (l.map nD) (some (i : Int)) none)) = _
  unfold cutL
  rw [HT.sIx_nat,HT.sIx_none,List.length_map,Nat.min_eq_left h,List.take_of_length_le (by simp)]
  show some (D.lst _) = some (D.lst ((l.drop i).map nD))
  rw [List.map_drop]
theorem zeK {fa : FE} {fl fh : FP} {r : Rho} {d d' : D} {lo hi : Option Int} (h1 : fa r = .ok d) (h2 : fl r = .ok lo) (h3 : fh r = .ok hi) (h4 : slA d lo hi = some d') : fSlA fa fl fh r = .ok d' := by
  unfold fSlA; rw [h1,bind_ok,h2,bind_ok,h3,bind_ok,h4]; rfl
theorem zge (D : Dl rows dl n m) : ∃ o : Option (List Nat),(∀ r,o = some r→Env rows dl n r)∧(o = none→∀ C : List Nat,C≠[]→(∀ h∈C,h < n)→¬ ∀ h∈C,∃ l∈C,Rg.lk (Wr rows) h (dOf dl l) (dOf dl h)) ∧
    zcH [WD rows,TN dl] = .ok (match o with | some r => .tup [.str "ring",TN r] | none => .non) := by
  have hn7 := D.R.n7
  have g := D.gf
  have s5 := zh0 g
  have s1 := zp3 g
  have s2 : ∀ h∈Co (Ev rows dl n) n,h < n := zp2
  have s3 := zoZ g
  have s4 : ∀ C : List Nat,(∀ h∈C,h < n)→(∀ h∈C,∃ o∈C,Rg.lk (Wr rows) h (dOf dl o) (dOf dl h))→∀ h∈C,h∈Co (Ev rows dl n) n := fun C c1 c2 => zfx (fun h hh => by
    obtain ⟨o,o1,o2⟩ := c2 h hh
    exact ⟨o,zhO.mpr ⟨c1 o o1,o2⟩,o1⟩) 63 (List.range n) fun h hh => List.mem_range.mpr (c1 h hh)
  obtain ⟨z3,hst⟩ := zit D n 0 none none (by omega)
  rw [← List.range_eq_range'] at hst
  have hfor : ∀ (dr dd : DL.D),zbb [SD (Ev rows dl n) n] = .ok dr→fIf (zaq (f2 (gv 4) (fun _ => Res.ok DL.D.non) isD)) (fun _ => Res.ok DL.D.non) (mkT (zab (fun _ => Res.ok (DL.D.str "ring")) (zab (fC (zab (gv 4) lNil) tupD) lNil))) [some (WD rows),some (TN dl),some (SD (Ev rows dl n) n),z3,some dr] = .ok dd→zcH [WD rows,TN dl] = .ok dd := fun dr dd h1 h2 => by
    refine zaU (B := zdr) (n := 5) ?_
    unfold zdr
    refine (zad (zas (d := .dic []) rfl)).trans ?_
    refine (zad ((zbj (ds := (List.range n).map nD) (zcR (zac (d := nD n) (za6 (zac (d := WD rows) rfl zai) D.R.len) zai) (zdT (by omega)))).trans hst)).trans ?_
    refine (zad (zas (d := dr) (zan (zac (d := SD (Ev rows dl n) n) rfl zai) h1))).trans ?_
    exact zat (zaI h2)
  generalize hco : Co (Ev rows dl n) n = S at s1 s2 s3 s4 s5
  cases hS : S with
  | nil =>
    refine ⟨none,fun r e => (nomatch e),fun _ C c1 c2 c3 => ?_,hfor .non .non ?_ (zoG (zam (zaj (a := .non) (b := .non) rfl rfl rfl)))⟩
    · obtain ⟨h,hh⟩ := List.exists_mem_of_ne_nil _ c1
      have := s4 C c2 c3 h hh
      rw [hS] at this; cases this
    · rw [hS] at s5
      refine zaU (B := zaV) (n := 4) ?_
      unfold zaV
      refine (zad (zas (zan (zac (d := SD (Ev rows dl n) n) rfl zai) s5))).trans ?_
      exact zat ((if_t (zdU (b := false) (zbY (d := LN []) rfl rfl))).trans (zat (zaI (d := .non) rfl)))
  | cons f0 rest =>
    have hf : f0∈S := by rw [hS]; exact List.mem_cons_self
    have hcl : ∀ h∈S,nxE (Ev rows dl n) S h∈S := fun h hh => (zfL s1 hh).1
    obtain ⟨k,k1,k2,k3⟩ := Rg.zm0 hcl hf 64 0 (by simp [Rg.orb]) (by omega)
    have e0 : Rg.orb (nxE (Ev rows dl n) S) f0 0 = [] := rfl
    have e1 : Rg.it (nxE (Ev rows dl n) S) 0 f0 = f0 := rfl
    rw [e0,e1] at k3
    have hw := zio g s2 s1 (by omega) 64 [] f0 hf (by simp) (fun h hh => (nomatch hh)) (by simp; omega)
    rw [k3] at hw
    have hmem := List.idxOf_lt_length_of_mem k2
    generalize hi : (Rg.orb (nxE (Ev rows dl n) S) f0 k).idxOf (Rg.it (nxE (Ev rows dl n) S) k f0) = i at hmem
    rw [Rg.zml] at hmem
    have itS : ∀ t,Rg.it (nxE (Ev rows dl n) S) t f0∈S := fun t => by
      induction t with
      | zero => exact hf
      | succ t iht => rw [Rg.zg0]; exact hcl _ iht
    have hik : Rg.it (nxE (Ev rows dl n) S) i f0 = Rg.it (nxE (Ev rows dl n) S) k f0 := by
      have := List.getElem_idxOf (List.idxOf_lt_length_of_mem k2)
      simp only [hi] at this
      simpa [Rg.orb] using this
    have hdrop := Rg.zo1 (nxE (Ev rows dl n) S) f0 k i (by omega)
    have hat : ∀ t,t < k - i→((Rg.orb (nxE (Ev rows dl n) S) f0 k).drop i)[t]? = some (Rg.it (nxE (Ev rows dl n) S) (i + t) f0) := fun t ht => by
      rw [List.getElem?_drop]
      unfold Rg.orb
      rw [List.getElem?_map,List.getElem?_range (by omega)]; rfl
    have hlen : ((Rg.orb (nxE (Ev rows dl n) S) f0 k).drop i).length = k - i := by rw [List.length_drop,Rg.zml]
    have lkE : ∀ i' h l,((Rg.orb (nxE (Ev rows dl n) S) f0 k).drop i)[i']? = some h→((Rg.orb (nxE (Ev rows dl n) S) f0 k).drop i)[(i' + 1) % ((Rg.orb (nxE (Ev rows dl n) S) f0 k).drop i).length]? = some l→l = nxE (Ev rows dl n) S h∧h∈S := by
      intro t h l a1 a2
      have ht : t < k - i := by have := (List.getElem?_eq_some_iff.mp a1).1; rw [hlen] at this; exact this
      rw [hlen] at a2
      rw [hat t ht] at a1
      cases a1
      refine ⟨?_,itS _⟩
      by_cases q : t + 1 < k - i
      · rw [Nat.mod_eq_of_lt q,hat _ q] at a2
        cases a2
        rw [← Rg.zg0 (nxE (Ev rows dl n) S)]; rfl
      · have : t + 1 = k - i := by omega
        rw [this,Nat.mod_self,hat 0 (by omega),Nat.add_zero,hik] at a2
        cases a2
        rw [← Rg.zg0 (nxE (Ev rows dl n) S),show i + t + 1 = k by omega]
    have env : Env rows dl n ((Rg.orb (nxE (Ev rows dl n) S) f0 k).drop i) := by
      refine ⟨k1.sublist (List.drop_sublist _ _),fun h hh => ?_,?_,fun i' h l a1 a2 => ?_⟩
      · obtain ⟨t,_,rfl⟩ := List.mem_map.mp (List.mem_of_mem_drop hh)
        exact s2 _ (itS t)
      · rw [hlen]
        refine Classical.byContradiction fun z => ?_
        have hk1 : k - i = 1 := by omega
        have hx := (zhO.mp (zfL s1 (itS i)).2).2
        rw [← Rg.zg0 (nxE (Ev rows dl n) S),show i + 1 = k by omega,← hik] at hx
        unfold Rg.lk at hx
        omega
      · obtain ⟨rfl,hs⟩ := lkE i' h l a1 a2
        exact (zhO.mp (zfL s1 hs).2).2
    have hrs : zbb [SD (Ev rows dl n) n] = .ok (LN ((Rg.orb (nxE (Ev rows dl n) S) f0 k).drop i)) := by
      refine zaU (B := zaV) (n := 4) ?_
      unfold zaV
      refine (zad (zas (zan (zac (d := SD (Ev rows dl n) n) rfl zai) s5))).trans ?_
      refine (zad ((if_f (zdU (b := true) (zbY (d := LN S) rfl (by rw [hS]; rfl)))).trans (e_skip _))).trans ?_
      refine (zad (zas (d := LN []) (zdA zai (by simp)))).trans ?_
      refine (zad (zas (d := nD f0) (zaj (a := LN S) (b := .int 0) rfl rfl (by rw [hS]; exact ixA_L0 _ _)))).trans ?_
      refine (zad hw).trans ?_
      exact zat (zaI (zeK (d := LN (Rg.orb (nxE (Ev rows dl n) S) f0 k)) rfl (zdF (i := (i : Int)) (zhc (d := LN (Rg.orb (nxE (Ev rows dl n) S) f0 k)) rfl rfl (zac (d := nD (Rg.it (nxE (Ev rows dl n) S) k f0)) rfl zai) (by rw [zkU k2,hi]))) rfl (zkn (by rw [Rg.zml]; omega))))
    refine ⟨some ((Rg.orb (nxE (Ev rows dl n) S) f0 k).drop i),fun r e => by cases e; exact env,fun e => (nomatch e),hfor _ _ hrs ?_⟩
    refine (zoH (zam (zaj (a := LN ((Rg.orb (nxE (Ev rows dl n) S) f0 k).drop i)) (b := .non) rfl rfl rfl))).trans ?_
    exact zdX (zac (d := .str "ring") rfl (zac (d := TN ((Rg.orb (nxE (Ev rows dl n) S) f0 k).drop i)) (za6 (zac (d := LN ((Rg.orb (nxE (Ev rows dl n) S) f0 k).drop i)) rfl zai) rfl) zai)) (by simp)
end
end Law
end
section
namespace Law
open PySem PyProof.Rows L2 DL
inductive Wy where
  | ring (r : List Nat) | line (r : List Nat) (x : Nat)
noncomputable def Wy.hands : Wy→List Nat
  | .ring r => r
  | .line r _ => r
noncomputable def wyD : Wy→DL.D
  | .ring r => .tup [.str "ring",TN r]
  | .line r x => .tup [.str "line",TN r,nD x]
noncomputable def Wy.kind : Wy→Str
  | .ring _ => "ring"
  | .line _ _ => "line"
noncomputable def Wy.last (dl : List Nat) : Wy→Nat
  | .ring r => dOf dl (r.headD 0)
  | .line _ x => x
noncomputable def Wy.things (dl : List Nat) (w : Wy) : List Nat := w.hands.tail.map (dOf dl)++[w.last dl]
noncomputable def betr (dl : List Nat) (ps : List (Nat × Nat)) : List Nat := ps.foldl (fun acc p => acc.set p.1 p.2) dl
noncomputable def Wy.by (dl : List Nat) (w : Wy) : List Nat := betr dl (w.hands.zip (w.things dl))
theorem zc5 (w : Wy) : ixA (wyD w) (.int 1) = some (TN w.hands) := by cases w <;> exact zet (i := 1) rfl
theorem zo4 (w : Wy) (k : Str) (b : Bool) (h : (w.kind == k) = b) : (opt (ixA (wyD w) (.int 0))).bind (fun d => opt (eqD d (.str k))) = .ok (.bl b) := by
  cases w with
  | ring r =>
    rw [show ixA (wyD (.ring r)) (.int 0) = some (.str "ring") from ixA_T0 _ _,opt_some,bind_ok]
    unfold eqD
    rw [eqB_str,show (("ring" : Str) == k) = b from h]; rfl
  | line r x =>
    rw [show ixA (wyD (.line r x)) (.int 0) = some (.str "line") from ixA_T0 _ _,opt_some,bind_ok]
    unfold eqD
    rw [eqB_str,show (("line" : Str) == k) = b from h]; rfl
theorem zev : ∀ (l r : List Nat),List.zipWith (fun a b => DL.D.tup [a,b]) (l.map nD) (r.map nD) = (l.zip r).map fun p => DL.D.tup [nD p.1,nD p.2]
  | [],_ => rfl
  | _::_,[] => rfl
  | a::l,b::r => by
    show DL.D.tup [nD a,nD b]::List.zipWith _ (l.map nD) (r.map nD) = _
    rw [zev l r]; rfl
theorem zhb {fa fb : FE} {r : Rho} {d e : DL.D} {ds es : List DL.D} (h1 : fa r = .ok d) (h2 : fb r = .ok e) (h3 : zbk d = some ds) (h4 : zbk e = some es) : fZip fa fb r = .ok (List.zipWith (fun a b => DL.D.tup [a,b]) ds es) := by
  unfold fZip; rw [h1,bind_ok,h2,bind_ok,h3,opt_some,bind_ok,h4,opt_some,bind_ok]
theorem zlQ {a b : List Nat} (h : a.length + b.length≤1000) : addA (LN a) (LN b) = some (LN (a++b)) := by
  show (if (a.map nD).length + (b.map nD).length≤sizeLine then some (DL.D.lst (a.map nD++b.map nD)) else none) = _
  rw [if_pos (by rw [List.length_map,List.length_map,sizeLine_eq]; omega),← List.map_append]
theorem zoW {a b : List Nat} (h : a.length + b.length≤1000) : addE (TN a) (TN b) = some (TN (a++b)) := by
  cases a with
  | nil => rfl
  | cons x a =>
    show (if ((x::a).map nD).length + (b.map nD).length≤sizeLine then some (DL.D.tup ((x::a).map nD++b.map nD)) else none) = _
    rw [if_pos (by rw [List.length_map,List.length_map,sizeLine_eq]; omega),← List.map_append]
theorem zga {l : List Nat} {i : Nat} (h : i≤l.length) : slA (TN l) (some (i : Int)) none = some (TN (l.drop i)) := by
  show some (DL.D.tup (cutL (l.map nD) (some (i : Int)) none)) = _
  unfold cutL
  rw [HT.sIx_nat,HT.sIx_none,List.length_map,Nat.min_eq_left h,List.take_of_length_le (by simp)]
  show some (DL.D.tup _) = some (DL.D.tup ((l.drop i).map nD))
  rw [List.map_drop]
theorem zex (l : List Nat) (k : Nat) : slA (TN l) none (some (k : Int)) = some (TN (l.take k)) := by
  show some (DL.D.tup (cutL (l.map nD) none (some (k : Int)))) = _
  unfold cutL
  rw [HT.sIx_nat,HT.sIx_none,List.length_map,List.drop_zero,Nat.sub_zero,← List.map_take]
  show some (DL.D.tup _) = some (DL.D.tup ((l.take k).map nD))
  rw [List.take_eq_take_iff.mpr (by omega : min (min k l.length) l.length = min k l.length)]
theorem zgV {a : Nat} {l : List Nat} (hl : l.length≤900) : zbg [TN (a::l)] = .ok (TN (l++[a])) := by
  refine zaU (B := zb9) (n := 1) ?_
  unfold zb9
  exact zat (zaI (zaj (a := TN l) (b := TN [a]) (zeK (d := TN (a::l)) rfl (zdF (i := ((1 : Nat) : Int)) rfl) rfl (zga (by simp))) (zeK (d := TN (a::l)) rfl rfl (zdF (i := ((1 : Nat) : Int)) rfl) (zex (a::l) 1)) (zoW (by simp; omega))))
section
variable {rows : List (List Nat)} {dl : List Nat} {n m : Nat}
theorem zod (D : Dl rows dl n m) {h : Nat} (hh : h < n) (left : DL.D) : ∀ (l : List Nat) (y : Option DL.D),(∀ x∈l,x < m) →
    (match l.find? (fun x => decide (Rg.lk (Wr rows) h x (dOf dl h))) with
      | some x => forF (ftN 5) zbX (l.map nD) [some (WD rows),some (TN dl),some left,some (nD h),some (nD (dOf dl h)),y] = .rt (wyD (.line [h] x))
      | none => ∃ y',forF (ftN 5) zbX (l.map nD) [some (WD rows),some (TN dl),some left,some (nD h),some (nD (dOf dl h)),y] = .nx [some (WD rows),some (TN dl),some left,some (nD h),some (nD (dOf dl h)),y'])
  | [],y,_ => ⟨y,zbD⟩
  | x::l,y,hl => by
    have c : (fTru (zaz (zab (gv 0) (zab (gv 3) (zab (gv 5) (zab (gv 4) lNil)))) [] zdL)) [some (WD rows),some (TN dl),some left,some (nD h),some (nD (dOf dl h)),some (nD x)] = .ok (decide (Rg.lk (Wr rows) h x (dOf dl h))) :=
      zbY (zan (zac (d := WD rows) rfl (zac (d := nD h) rfl (zac (d := nD x) rfl (zac (d := nD (dOf dl h)) rfl zai)))) (zgf D hh (hl x List.mem_cons_self) (D.dlt hh))) rfl
    rw [List.find?_cons]
    cases e : decide (Rg.lk (Wr rows) h x (dOf dl h)) with
    | true =>
      rw [e] at c
      refine zhC (r1 := [some (WD rows),some (TN dl),some left,some (nD h),some (nD (dOf dl h)),some (nD x)]) rfl ?_
      exact zat ((if_t c).trans (zat (zaI (zdX (zac (d := .str "line") rfl (zac (d := TN [h]) (zdX (zac (d := nD h) rfl zai) (by simp)) (zac (d := nD x) rfl zai))) (by simp)))))
    | false =>
      rw [e] at c
      have ih := zod D hh left l (some (nD x)) fun k hk => hl k (List.mem_cons_of_mem _ hk)
      have st : forF (ftN 5) zbX ((x::l).map nD) [some (WD rows),some (TN dl),some left,some (nD h),some (nD (dOf dl h)),y] = forF (ftN 5) zbX (l.map nD) [some (WD rows),some (TN dl),some left,some (nD h),some (nD (dOf dl h)),some (nD x)] :=
        zbU (r1 := [some (WD rows),some (TN dl),some left,some (nD h),some (nD (dOf dl h)),some (nD x)]) rfl ((zad (if_f c)).trans rfl)
      rw [st]
      exact ih
theorem lf_out (D : Dl rows dl n m) {left : List Nat} (hl : ∀ x∈left,x < m) : ∀ (suf : List Nat) (i : Nat) (y3 y4 y5 : Option DL.D),dl.drop i = suf→i + suf.length = n →
    (∃ h x,h < n∧x∈left∧Rg.lk (Wr rows) h x (dOf dl h)∧forF (ftT (zaS (ftN 3) (zaS (ftN 4) zdH))) zbW (enuD i (suf.map nD)) [some (WD rows),some (TN dl),some (LN left),y3,y4,y5] = .rt (wyD (.line [h] x))) ∨
    ((∀ h,i≤h→h < n→∀ x∈left,¬ Rg.lk (Wr rows) h x (dOf dl h))∧∃ z3 z4 z5,forF (ftT (zaS (ftN 3) (zaS (ftN 4) zdH))) zbW (enuD i (suf.map nD)) [some (WD rows),some (TN dl),some (LN left),y3,y4,y5] = .nx [some (WD rows),some (TN dl),some (LN left),z3,z4,z5])
  | [],i,y3,y4,y5,_,hi => .inr ⟨fun h h1 h2 => by simp at hi; omega,y3,y4,y5,zbD⟩
  | a::suf,i,y3,y4,y5,hd,hi => by
    have hin : i < n := by simp at hi; omega
    have hidl : i < dl.length := by rw [D.dn]; exact hin
    have ha : a = dOf dl i := by
      have : (dl.drop i)[0]? = some a := by rw [hd]; rfl
      rw [List.getElem?_drop,Nat.add_zero,List.getElem?_eq_getElem hidl] at this
      unfold dOf
      rw [List.getD_eq_getElem?_getD,List.getElem?_eq_getElem hidl]
      exact (Option.some.inj this).symm
    subst ha
    have hs : dl.drop (i + 1) = suf := by rw [← List.drop_drop,hd]; rfl
    have c := zod D hin (LN left) left y5 hl
    cases e : left.find? (fun x => decide (Rg.lk (Wr rows) i x (dOf dl i))) with
    | some x =>
      rw [e] at c
      refine .inl ⟨i,x,hin,List.mem_of_find?_eq_some e,by simpa using List.find?_some e,?_⟩
      show forF _ _ (.tup [.int ((i : Nat) : Int),nD (dOf dl i)]::enuD (i + 1) (suf.map nD)) _ = _
      refine zhC (r1 := [some (WD rows),some (TN dl),some (LN left),some (nD i),some (nD (dOf dl i)),y5]) rfl ?_
      exact zat ((zbj (ds := left.map nD) rfl).trans c)
    | none =>
      rw [e] at c
      obtain ⟨y',c⟩ := c
      have st : forF (ftT (zaS (ftN 3) (zaS (ftN 4) zdH))) zbW (enuD i ((dOf dl i::suf).map nD)) [some (WD rows),some (TN dl),some (LN left),y3,y4,y5] = forF (ftT (zaS (ftN 3) (zaS (ftN 4) zdH))) zbW (enuD (i + 1) (suf.map nD)) [some (WD rows),some (TN dl),some (LN left),some (nD i),some (nD (dOf dl i)),y'] := by
        show forF _ _ (.tup [.int ((i : Nat) : Int),nD (dOf dl i)]::enuD (i + 1) (suf.map nD)) _ = _
        exact zbU (r1 := [some (WD rows),some (TN dl),some (LN left),some (nD i),some (nD (dOf dl i)),y5]) rfl ((zad ((zbj (ds := left.map nD) rfl).trans c)).trans rfl)
      rw [st]
      rcases lf_out D hl suf (i + 1) (some (nD i)) (some (nD (dOf dl i))) y' hs (by simp at hi; omega) with z | ⟨z1,z2⟩
      · exact .inl z
      · refine .inr ⟨fun h h1 h2 x hx => ?_,z2⟩
        by_cases q : h = i
        · subst q
          have := List.find?_eq_none.mp e x hx
          simpa using this
        · exact z1 h (by omega) h2 x hx
noncomputable def Good (rows : List (List Nat)) (dl : List Nat) (n m : Nat) : Wy→Prop
  | .ring r => Env rows dl n r
  | .line r x => ∃ h,r = [h]∧h < n∧x < m∧x∉dl∧Rg.lk (Wr rows) h x (dOf dl h)
theorem zff (D : Dl rows dl n m) : ∃ o : Option Wy,(∀ w,o = some w→Good rows dl n m w)∧(o = none→(∀ h,h < n→∀ x,x < m→x∉dl→¬ Rg.lk (Wr rows) h x (dOf dl h))∧∀ C : List Nat,C≠[]→(∀ h∈C,h < n)→¬ ∀ h∈C,∃ l∈C,Rg.lk (Wr rows) h (dOf dl l) (dOf dl h)) ∧
    zaR [WD rows,TN dl] = .ok (match o with | some w => wyD w | none => .non) := by
  have hn7 := D.R.n7
  have hm8 := D.R.m8
  generalize hL : ((List.range m).filter fun x => !decide (x∈dl)) = left
  have hmem : ∀ x,x∈left↔x < m∧x∉dl := fun x => by rw [← hL,List.mem_filter]; simp
  have hcomp : ∀ y3 y4 y5 : Option DL.D,(setF q121 2 (zch 1 [1] (fRng rng1 (zab (zaz (zab (gv 0) lNil) [] zbF) lNil)) (ftN 0) (zaq (f2 (gv 0) (gv 1) ninD)) (gv 0))) [some (WD rows),some (TN dl),none,y3,y4,y5] = .nx [some (WD rows),some (TN dl),some (LN left),y3,y4,y5] := fun y3 y4 y5 => by
    rw [← hL]
    refine zas (zcS (l := List.range m) nD (fun x => !decide (x∈dl)) nD (zcR (zac (zan (zac (d := WD rows) rfl zai) D.R.things) zai) (zdT (by omega))) (by simp; omega) fun x hx => ⟨[some (nD x),some (TN dl)],rfl,zam (zaj (a := nD x) (b := TN dl) rfl rfl ?_),fun _ => rfl⟩)
    show (if zaW (nD x) = true∧(dl.map nD).all zaW = true then some ((dl.map nD).any fun y => eqs y (nD x)) else none).map (fun b => DL.D.bl (!b)) = _
    rw [if_pos ⟨rfl,zg7 dl⟩,anyE]; rfl
  have line : ∀ d : DL.D,(∀ s2 : FS,zcd (zaw 6 [WD rows,TN dl]) = .rt d)→zcc [WD rows,TN dl] = .ok d := fun d h => zaU (B := zcd) (n := 6) (h zak)
  rcases lf_out D (fun x hx => ((hmem x).mp hx).1) dl 0 none none none rfl (by rw [Nat.zero_add]; exact D.dn) with ⟨h,x,h1,h2,h3,h4⟩ | ⟨h1,z3,z4,z5,h4⟩
  · have hl : zcc [WD rows,TN dl] = .ok (wyD (.line [h] x)) := line _ fun _ => by
      unfold zcd
      exact (zad (hcomp none none none)).trans (zat ((zbj (ds := enuD 0 (dl.map nD)) rfl).trans h4))
    refine ⟨some (.line [h] x),fun w e => by cases e; exact ⟨h,rfl,h1,((hmem x).mp h2).1,((hmem x).mp h2).2,h3⟩,fun e => (nomatch e),zaU (B := zbr) (n := 3) ?_⟩
    unfold zbr
    refine (zad (zas (zan (zac (d := WD rows) rfl (zac (d := TN dl) rfl zai)) hl))).trans ?_
    exact zat (zaI ((zoH (zam (zaj (a := wyD (.line [h] x)) (b := .non) rfl rfl rfl))).trans rfl))
  · have hl : zcc [WD rows,TN dl] = .ok .non := line _ fun _ => by
      unfold zcd
      exact (zad (hcomp none none none)).trans ((zad ((zbj (ds := enuD 0 (dl.map nD)) rfl).trans h4)).trans (zat (zaI (d := .non) rfl)))
    obtain ⟨o,o1,o2,o3⟩ := zge D
    refine ⟨o.map Wy.ring,fun w e => ?_,fun e => ⟨fun h hh x hx hn => h1 h (Nat.zero_le _) hh x ((hmem x).mpr ⟨hx,hn⟩),o2 (by cases o with | none => rfl | some r => cases e)⟩,zaU (B := zbr) (n := 3) ?_⟩
    · cases o with
      | none => cases e
      | some r => cases e; exact o1 r rfl
    · unfold zbr
      refine (zad (zas (zan (zac (d := WD rows) rfl (zac (d := TN dl) rfl zai)) hl))).trans ?_
      refine zat (zaI ((zoG (zam (zaj (a := .non) (b := .non) rfl rfl rfl))).trans (zan (zac (d := WD rows) rfl (zac (d := TN dl) rfl zai)) ?_)))
      cases o with
      | none => exact o3
      | some r => exact o3
theorem zis {l : List Nat} {y x : Nat} : stoD (LN (l++[y])) (.int (-1)) (nD x) = some (LN (l++[x])) := by
  show (ixN ((l++[y]).map nD).length (-1)).map _ = _
  unfold ixN
  rw [if_neg (by omega),if_pos (by simp; omega)]
  simp only [Option.map_some,List.length_map,List.length_append,List.length_singleton]
  rw [show (-1 + ((l.length + 1 : Nat) : Int)).toNat = l.length by omega,List.map_append]
  show some (DL.D.lst _) = some (DL.D.lst ((l++[x]).map nD))
  rw [List.set_append_right _ _ (by simp),List.map_append]
  simp
theorem zj3 (x0 x1 x2 : Option DL.D) : ∀ (ps : List (Nat × Nat)) (acc : List Nat) (y6 y7 : Option DL.D),(∀ p∈ps,p.1 < acc.length) →
    ∃ z6 z7,forF (ftT (zaS (ftN 4) (zaS (ftN 5) zdH))) zem (ps.map fun p => DL.D.tup [nD p.1,nD p.2]) [x0,x1,x2,some (LN acc),y6,y7] = .nx [x0,x1,x2,some (LN (betr acc ps)),z6,z7]
  | [],acc,y6,y7,_ => ⟨y6,y7,zbD⟩
  | p::ps,acc,y6,y7,h => by
    obtain ⟨z6,z7,ih⟩ := zj3 x0 x1 x2 ps (acc.set p.1 p.2) (some (nD p.1)) (some (nD p.2)) (fun q hq => by rw [List.length_set]; exact h q (List.mem_cons_of_mem _ hq))
    refine ⟨z6,z7,Eq.trans ?_ ih⟩
    refine zbU (r1 := [x0,x1,x2,some (LN acc),some (nD p.1),some (nD p.2)]) rfl ?_
    refine (zad (zgi (d := LN acc) (k := nD p.1) (v := nD p.2) rfl rfl rfl (ziv (by rw [List.length_map]; exact h p List.mem_cons_self)))).trans ?_
    rw [show (acc.map nD).set p.1 (nD p.2) = (acc.set p.1 p.2).map nD by rw [List.map_set]]
    rfl
theorem zhB (x0 x1 : Option DL.D) : ∀ (ps : List (Nat × Nat)) (acc : List Nat) (y3 y4 : Option DL.D),(∀ p∈ps,p.1 < acc.length) →
    ∃ z3 z4,forF (ftT (zaS (ftN 3) (zaS (ftN 4) zdH))) zfd (ps.map fun p => DL.D.tup [nD p.1,nD p.2]) [x0,x1,some (LN acc),y3,y4] = .nx [x0,x1,some (LN (betr acc ps)),z3,z4]
  | [],acc,y3,y4,_ => ⟨y3,y4,zbD⟩
  | p::ps,acc,y3,y4,h => by
    obtain ⟨z3,z4,ih⟩ := zhB x0 x1 ps (acc.set p.1 p.2) (some (nD p.1)) (some (nD p.2)) (fun q hq => by rw [List.length_set]; exact h q (List.mem_cons_of_mem _ hq))
    refine ⟨z3,z4,Eq.trans ?_ ih⟩
    refine zbU (r1 := [x0,x1,some (LN acc),some (nD p.1),some (nD p.2)]) rfl ?_
    refine (zad (zgi (d := LN acc) (k := nD p.1) (v := nD p.2) rfl rfl rfl (ziv (by rw [List.length_map]; exact h p List.mem_cons_self)))).trans ?_
    rw [show (acc.map nD).set p.1 (nD p.2) = (acc.set p.1 p.2).map nD by rw [List.map_set]]
    rfl
theorem zmO {f f' : FE} {k k' : DL.D→DL.D→Option DL.D} {r : Rho} {a b c : DL.D} {g : FE} (h1 : f r = .ok a) (h2 : g r = .ok b) (hc : f' r = .ok c) (h : (opt (k a b)).bind (fun d => opt (k' d c)) = .ok (.bl true)∨(opt (k a b)).bind (fun d => opt (k' d c)) = .ok (.bl false)) : f2 (f2 f g k) f' k' r = (opt (k a b)).bind (fun d => opt (k' d c)) := by
  unfold f2
  rw [h1,bind_ok,h2,bind_ok]
  cases e : opt (k a b) with
  | ok d => rw [bind_ok,hc,bind_ok]; rfl
  | exc x => rfl
  | stuck => rfl
theorem zhp {i : Nat} {r : Rho} {w : Wy} {k : Str} {b : Bool} (hr : r[i]? = some (some (wyD w))) (h : (w.kind == k) = b) : (zaq (f2 (f2 (fun r => getV r i) (fun _ => Res.ok (DL.D.int 0)) ixA) (fun _ => Res.ok (DL.D.str k)) eqD)) r = .ok b := by
  have hw := zo4 w k b h
  have e := zmO (f := fun r => getV r i) (g := fun _ => Res.ok (DL.D.int 0)) (f' := fun _ => Res.ok (DL.D.str k)) (k := ixA) (k' := eqD) (r := r) (a := wyD w) (b := .int 0) (c := .str k) (by show getV r i = _; unfold getV; rw [hr]) rfl rfl (by rw [hw]; cases b; exact .inr rfl; exact .inl rfl)
  exact zam (e.trans hw)
theorem zeq (D : Dl rows dl n m) {w : Wy} (hw : w.hands≠[]) (hlt : ∀ h∈w.hands,h < n) (hl : w.hands.length≤60) : zbO [TN dl,wyD w] = .ok (LN (w.things dl)) := by
  refine zaU (B := zbQ) (n := 3) ?_
  unfold zbQ
  cases hh : w.hands with
  | nil => exact absurd hh hw
  | cons a t =>
    rw [hh] at hlt hl
    have hix := zc5 w
    rw [hh] at hix
    have e1 : (setF q107 2 (zch 1 [0] (fSeq zbk (zaz (zab (f2 (gv 1) (fun _ => Res.ok (DL.D.int 1)) ixA) lNil) [] zbg)) (ftN 0) (fun _ => Res.ok true) (f2 (gv 1) (gv 0) ixA))) [some (TN dl),some (wyD w),none] = .nx [some (TN dl),some (wyD w),some (LN (t.map (dOf dl)++[dOf dl a]))] := by
      have := zfV (nl := 1) (cap := [0]) (fi := fSeq zbk (zaz (zab (f2 (gv 1) (fun _ => Res.ok (DL.D.int 1)) ixA) lNil) [] zbg)) (ft := ftN 0) (fe := f2 (gv 1) (gv 0) ixA) (r := [some (TN dl),some (wyD w),none]) (l := t++[a]) nD (fun h => nD (dOf dl h)) (zgb (d := TN (t++[a])) (zan (zac (d := TN (a::t)) (zaj (a := wyD w) (b := .int 1) rfl rfl hix) zai) (zgV (by simp at hl; omega))) rfl) (by simp at hl ⊢; omega) fun h hm => ⟨[some (nD h),some (TN dl)],rfl,zaj (a := TN dl) (b := nD h) rfl rfl (D.at (hlt h (by simpa [or_comm] using hm)))⟩
      refine zas (this.trans ?_)
      show Res.ok (DL.D.lst _) = Res.ok (DL.D.lst ((t.map (dOf dl)++[dOf dl a]).map nD))
      rw [List.map_append,List.map_append,List.map_map]; rfl
    refine (zad e1).trans ?_
    have eth : w.things dl = t.map (dOf dl)++[w.last dl] := by unfold Wy.things; rw [hh]; rfl
    refine (zad (r' := [some (TN dl),some (wyD w),some (LN (w.things dl))]) ?_).trans ?_
    · rw [eth]
      cases w with
      | ring r =>
        have : r = a::t := hh
        subst this
        exact (if_f (zhp (w := .ring (a::t)) rfl rfl)).trans rfl
      | line r x =>
        refine (if_t (zhp (w := .line r x) rfl rfl)).trans ?_
        exact zad (zgi (d := LN (t.map (dOf dl)++[dOf dl a])) (k := .int (-1)) (v := nD x) rfl (zaj (a := wyD (.line r x)) (b := nD 2) rfl rfl (zet rfl)) rfl zis)
    exact zat (zaI (d := LN (w.things dl)) rfl)
theorem zeg (D : Dl rows dl n m) {w : Wy} (hw : w.hands≠[]) (hlt : ∀ h∈w.hands,h < n) (hl : w.hands.length≤60) : zcI [WD rows,TN dl,wyD w] = .ok (TN (w.by dl)) := by
  obtain ⟨z6,z7,hloop⟩ := zj3 (some (WD rows)) (some (TN dl)) (some (wyD w)) (w.hands.zip (w.things dl)) dl none none (fun p hp => by rw [D.dn]; exact hlt p.1 (List.of_mem_zip hp).1)
  refine zaU (B := zds) (n := 6) ?_
  unfold zds
  refine (zad (zas (d := LN dl) (za6 (zac (d := TN dl) rfl zai) rfl))).trans ?_
  refine (zad ((zbj (ds := (w.hands.zip (w.things dl)).map fun p => DL.D.tup [nD p.1,nD p.2]) (by rw [← zev]; exact zhb (d := TN w.hands) (e := LN (w.things dl)) (zaj (a := wyD w) (b := .int 1) rfl rfl (zc5 w)) (zan (zac (d := TN dl) rfl (zac (d := wyD w) rfl zai)) (zeq D hw hlt hl)) rfl rfl)).trans hloop)).trans ?_
  exact zat (zaI (za6 (zac (d := LN (betr dl (w.hands.zip (w.things dl)))) rfl zai) rfl))
theorem zdw (D : Dl rows dl n m) {w : Wy} (hw : w.hands≠[]) (hlt : ∀ h∈w.hands,h < n) (hl : w.hands.length≤60) : zaA [TN dl,wyD w] = .ok (LN (w.things dl)) := by
  refine zaU (B := zbh) (n := 3) ?_
  unfold zbh
  cases hh : w.hands with
  | nil => exact absurd hh hw
  | cons a t =>
    rw [hh] at hlt hl
    have hix := zc5 w
    rw [hh] at hix
    have eth : w.things dl = t.map (dOf dl)++[w.last dl] := by unfold Wy.things; rw [hh]; rfl
    have := zfV (nl := 1) (cap := [0]) (fi := fSeq zbk (fSlA (f2 (gv 1) (fun _ => Res.ok (DL.D.int 1)) ixA) (zeu (fun _ => Res.ok (DL.D.int 1))) (fun _ => Res.ok none))) (ft := ftN 0) (fe := f2 (gv 1) (gv 0) ixA) (r := [some (TN dl),some (wyD w),none]) (l := t) nD (fun h => nD (dOf dl h)) (zgb (d := TN t) (zeK (d := TN (a::t)) (zaj (a := wyD w) (b := .int 1) rfl rfl hix) (zdF (i := ((1 : Nat) : Int)) rfl) rfl (zga (by simp))) rfl) (by simp at hl; omega) fun h hm => ⟨[some (nD h),some (TN dl)],rfl,zaj (a := TN dl) (b := nD h) rfl rfl (D.at (hlt h (List.mem_cons_of_mem _ hm)))⟩
    refine (zad (zas (d := LN (t.map (dOf dl))) (this.trans ?_))).trans ?_
    · show Res.ok (DL.D.lst _) = Res.ok (DL.D.lst ((t.map (dOf dl)).map nD))
      rw [List.map_map]; rfl
    rw [eth]
    have h60 : (t.map (dOf dl)).length + 1≤1000 := by simp at hl ⊢; omega
    cases w with
    | ring r =>
      have : r = a::t := hh
      subst this
      refine zat ((if_t (zhp (w := .ring (a::t)) rfl rfl)).trans (zat (zaI (zaj (a := LN (t.map (dOf dl))) (b := LN [dOf dl a]) rfl (zdA (ds := [nD (dOf dl a)]) (zac (zaj (a := TN dl) (b := nD a) rfl (zaj (a := TN (a::t)) (b := .int 0) (zaj (a := wyD (.ring (a::t))) (b := .int 1) rfl rfl hix) rfl (ixA_T0 _ _)) (D.at (hlt a List.mem_cons_self))) zai) (by simp)) (zlQ h60)))))
    | line r x =>
      refine (zad ((if_f (zhp (w := .line r x) rfl rfl)).trans (e_skip _))).trans ?_
      exact zat (zaI (zaj (a := LN (t.map (dOf dl))) (b := LN [x]) rfl (zdA (ds := [nD x]) (zac (zaj (a := wyD (.line r x)) (b := nD 2) rfl rfl (zet rfl)) zai) (by simp)) (zlQ h60)))
theorem ziD (D : Dl rows dl n m) {w : Wy} (hw : w.hands≠[]) (hlt : ∀ h∈w.hands,h < n) (hl : w.hands.length≤60) : zdj [TN dl,wyD w] = .ok (TN (w.by dl)) := by
  obtain ⟨z3,z4,hloop⟩ := zhB (some (TN dl)) (some (wyD w)) (w.hands.zip (w.things dl)) dl none none (fun p hp => by rw [D.dn]; exact hlt p.1 (List.of_mem_zip hp).1)
  refine zaU (B := zd2) (n := 5) ?_
  unfold zd2
  refine (zad (zas (d := LN dl) (za6 (zac (d := TN dl) rfl zai) rfl))).trans ?_
  refine (zad ((zbj (ds := (w.hands.zip (w.things dl)).map fun p => DL.D.tup [nD p.1,nD p.2]) (by rw [← zev]; exact zhb (d := TN w.hands) (e := LN (w.things dl)) (zaj (a := wyD w) (b := .int 1) rfl rfl (zc5 w)) (zan (zac (d := TN dl) rfl (zac (d := wyD w) rfl zai)) (zdw D hw hlt hl)) rfl rfl)).trans hloop)).trans ?_
  exact zat (zaI (za6 (zac (d := LN (betr dl (w.hands.zip (w.things dl)))) rfl zai) rfl))
end
end Law
end
section
namespace Law
open PySem PyProof.Rows L2 DL
noncomputable def Wy.cnt : Wy→Nat
  | .ring _ => 2
  | .line _ _ => 3
theorem zl4 {A : List Nat} {i j : Nat} (hi : i≤A.length) (hj : j < A.length) : (A.drop i++A.take i)[j]? = A[(i + j) % A.length]? := by
  by_cases h : j < A.length - i
  · rw [List.getElem?_append_left (by rw [List.length_drop]; exact h),List.getElem?_drop,Nat.mod_eq_of_lt (by omega)]
  · rw [List.getElem?_append_right (by rw [List.length_drop]; omega),List.length_drop,List.getElem?_take,if_pos (by omega)]
    congr 1
    have : i + j = (i + j - A.length) + A.length := by omega
    rw [this,Nat.add_mod_right,Nat.mod_eq_of_lt (by omega)]
    omega
section
variable {rows : List (List Nat)} {dl : List Nat} {n m : Nat}
theorem Good.ne {w : Wy} (g : Good rows dl n m w) : w.hands≠[] := by
  cases w with
  | ring r =>
    intro z
    have z' : r = [] := z
    have := (show Env rows dl n r from g).two
    rw [z'] at this; simp at this
  | line r x => obtain ⟨h,e,_⟩ := g; subst e; simp [Wy.hands]
theorem Good.nd {w : Wy} (g : Good rows dl n m w) : w.hands.Nodup := by
  cases w with
  | ring r => exact (show Env rows dl n r from g).nd
  | line r x => obtain ⟨h,e,_⟩ := g; subst e; simp [Wy.hands]
theorem Good.lt {w : Wy} (g : Good rows dl n m w) : ∀ h∈w.hands,h < n := by
  cases w with
  | ring r => exact (show Env rows dl n r from g).lt
  | line r x =>
    obtain ⟨h,e,h1,_⟩ := g
    subst e
    intro k hk
    rw [List.mem_singleton.mp hk]; exact h1
theorem Good.len {w : Wy} (g : Good rows dl n m w) : w.hands.length≤n := by
  have := Rg.zdY (m := List.range n) g.nd fun h hh => List.mem_range.mpr (g.lt h hh)
  simpa using this
theorem zhV {w : Wy} (h : w.hands≠[]) : (w.things dl).length = w.hands.length := by
  unfold Wy.things
  have := List.length_pos_iff.mpr h
  simp; omega
theorem Good.zip (D : Dl rows dl n m) {w : Wy} (g : Good rows dl n m w) : ∀ p∈w.hands.zip (w.things dl),p.1 < n∧p.2 < m∧Rg.lk (Wr rows) p.1 p.2 (dOf dl p.1) := by
  intro p hp
  have h1 := g.lt p.1 (List.of_mem_zip hp).1
  refine ⟨h1,?_⟩
  cases w with
  | line r x =>
    obtain ⟨h,e,e1,e2,e3,e4⟩ := g
    subst e
    simp [Wy.hands,Wy.things,Wy.last] at hp
    subst hp
    exact ⟨e2,e4⟩
  | ring r =>
    have E : Env rows dl n r := g
    obtain ⟨j,hj⟩ := List.getElem?_of_mem hp
    rw [List.getElem?_zip_eq_some] at hj
    obtain ⟨a1,a2⟩ := hj
    have hjl : j < r.length := (List.getElem?_eq_some_iff.mp a1).1
    have a3 : ((r.drop 1++r.take 1).map (dOf dl))[j]? = some p.2 := by
      rw [← a2]
      unfold Wy.things Wy.last Wy.hands
      cases r with
      | nil => simp at hjl
      | cons a t => simp
    rw [List.getElem?_map,zl4 (by omega) hjl] at a3
    cases e : r[(1 + j) % r.length]? with
    | none => rw [e] at a3; cases a3
    | some l =>
      rw [e] at a3
      have a3 : dOf dl l = p.2 := Option.some.inj a3
      rw [Nat.add_comm] at e
      have := E.lk j p.1 l a1 e
      rw [a3] at this
      refine ⟨?_,this⟩
      rw [← a3]
      exact D.dlt (E.lt l (List.mem_of_getElem? e))
theorem zfo (k b : Nat) : zbc [nD k,nD b] = .ok (.bl (decide (k < b))) := by
  refine zaU (B := zbz) (n := 2) ?_
  unfold zbz
  refine zat (zaI ?_)
  rw [zlh (zhd (a := nD k) (d := .bl true) rfl rfl),zlh (zlS (b := false) (zhd (a := nD k) (d := .bl false) rfl rfl))]
  exact zmT rfl rfl (zpJ k) rfl (zgZ k b)
theorem zj7 : ∀ l : List Nat,zfZ (l.map fun _ => DL.D.bl true) = some (l.map fun _ => true)
  | [] => rfl
  | k::l => by
    show (zfZ (l.map fun _ => DL.D.bl true)).map _ = _
    rw [zj7 l]; rfl
theorem zp1 (l : List Nat) : allD [.lst (l.map fun _ => DL.D.bl true)] = some (.bl true) := by
  show (zfZ (l.map fun _ => DL.D.bl true)).map _ = _
  rw [zj7]
  show some (DL.D.bl ((l.map fun _ => true).all id)) = _
  congr 2
  rw [List.all_eq_true]
  intro x hx
  obtain ⟨_,_,rfl⟩ := List.mem_map.mp hx
  rfl
theorem zhL : ∀ l : List Nat,zdd (l.map nD) = some (l.map fun k : Nat => (k : Int))
  | [] => rfl
  | k::l => by
    show (zdd (l.map nD)).map _ = _
    rw [zhL l]; rfl
theorem zc2 : ∀ (ns acc : List Int),(acc++ns).Nodup→(ns.foldl step_dedup acc).length = acc.length + ns.length
  | [],acc,_ => rfl
  | k::ns,acc,h => by
    have hk : k∉acc := fun z => (List.nodup_append.mp h).2.2 k z k List.mem_cons_self rfl
    have e : step_dedup acc k = acc++[k] := by
      unfold step_dedup
      rw [if_neg (by simpa using hk)]
    rw [List.foldl_cons,e,zc2 ns (acc++[k]) (by simpa using h)]
    simp; omega
theorem zno {l : List Nat} (hn : l.Nodup) (h8 : l.length≤60) : zlY (TN l) = some (nD l.length) := by
  show (zdd (l.map nD)).bind _ = _
  rw [zhL]
  show (if _ then some (DL.D.int ((zcg (l.map fun k : Nat => (k : Int))).length : Int)) else none) = _
  have hnd : (l.map fun k : Nat => (k : Int)).Nodup := by
    rw [List.nodup_iff_pairwise_ne,List.pairwise_map]
    exact List.Pairwise.imp (fun h z => h (Int.ofNat_inj.mp z)) hn
  have e : (zcg (l.map fun k : Nat => (k : Int))).length = l.length := by
    have := zc2 (l.map fun k : Nat => (k : Int)) [] (by simpa using hnd)
    unfold zcg
    rw [this]; simp
  rw [if_pos (by rw [List.length_map]; unfold scanBound; omega),e]
theorem zmI (l : List Nat) (k : Nat) : inD (nD k) (TN l) = some (.bl (decide (k∈l))) := by
  show (if zaW (nD k) = true∧(l.map nD).all zaW = true then some ((l.map nD).any fun y => eqs y (nD k)) else none).map DL.D.bl = _
  rw [if_pos ⟨rfl,zg7 l⟩,anyE]; rfl
theorem zlB (l : List Nat) (k : Nat) : ninD (nD k) (TN l) = some (.bl (!decide (k∈l))) := by
  show (if zaW (nD k) = true∧(l.map nD).all zaW = true then some ((l.map nD).any fun y => eqs y (nD k)) else none).map (fun b => DL.D.bl (!b)) = _
  rw [if_pos ⟨rfl,zg7 l⟩,anyE]; rfl
theorem zjs (D : Dl rows dl n m) (wd : DL.D) : ∀ (ps : List (Nat × Nat)) (y3 y4 : Option DL.D),(∀ p∈ps,p.1 < n∧p.2 < m∧Rg.lk (Wr rows) p.1 p.2 (dOf dl p.1)) →
    ∃ z3 z4,forF (ftT (zaS (ftN 3) (zaS (ftN 4) zdH))) zcm (ps.map fun p => DL.D.tup [nD p.1,nD p.2]) [some (WD rows),some (TN dl),some wd,y3,y4] = .nx [some (WD rows),some (TN dl),some wd,z3,z4]
  | [],y3,y4,_ => ⟨y3,y4,zbD⟩
  | p::ps,y3,y4,h => by
    obtain ⟨h1,h2,h3⟩ := h p List.mem_cons_self
    obtain ⟨z3,z4,ih⟩ := zjs D wd ps (some (nD p.1)) (some (nD p.2)) (fun q hq => h q (List.mem_cons_of_mem _ hq))
    refine ⟨z3,z4,Eq.trans ?_ ih⟩
    have hk := zh1 D h1 h2 (D.dlt h1)
    rw [decide_eq_true h3] at hk
    exact zbU (r1 := [some (WD rows),some (TN dl),some wd,some (nD p.1),some (nD p.2)]) rfl ((zad ((if_f (zdU (b := true) (zbY (zan (zac (d := WD rows) rfl (zac (d := nD p.1) rfl (zac (d := nD p.2) rfl (zac (zaj (a := TN dl) (b := nD p.1) rfl rfl (D.at h1)) zai)))) hk) rfl))).trans (e_skip _))).trans rfl)
theorem zi6 (a b : Str) : neD (.str a) (.str b) = some (.bl (!(a == b))) := by unfold neD; rw [eqB_str]; rfl
theorem zkr (D : Dl rows dl n m) {w : Wy} (g : Good rows dl n m w) : zb8 [WD rows,TN dl,wyD w] = .ok (.bl true) := by
  have hn7 := D.R.n7
  have hl := g.len
  have hpos := List.length_pos_iff.mpr g.ne
  obtain ⟨z3,z4,hloop⟩ := zjs D (wyD w) (w.hands.zip (w.things dl)) none none (g.zip D)
  obtain ⟨r0,hr0,hr0m⟩ := D.R.ix0
  have hlen : lenD [wyD w] = some (nD w.cnt) := by cases w <;> rfl
  have w1 : ∀ r : Rho,r[2]? = some (some (wyD w))→(f2 (gv 2) (fun _ => Res.ok (DL.D.int 1)) ixA) r = .ok (TN w.hands) := fun r hr => zaj (a := wyD w) (b := .int 1) (by show getV r 2 = _; unfold getV; rw [hr]) rfl (zc5 w)
  refine zaU (B := zcb) (n := 5) ?_
  unfold zcb
  refine (zad ((if_f ?_).trans (e_skip _))).trans ?_
  · rw [or_f (zdU (b := true) (zbY (d := .bl true) (zhd (a := wyD w) rfl (by cases w <;> rfl)) rfl))]
    have t2 : (zaq (f2 (fC (zab (gv 2) lNil) lenD) (mkT (zab (fun _ => Res.ok (DL.D.int 2)) (zab (fun _ => Res.ok (DL.D.int 3)) lNil))) ninD)) (zaw 5 [WD rows,TN dl,wyD w]) = .ok false := by
      refine zam (zaj (za6 (zac (d := wyD w) rfl zai) hlen) (zdX (ds := [nD 2,nD 3]) (zac rfl (zac rfl zai)) (by simp)) ?_)
      have := zlB [2,3] w.cnt
      refine this.trans ?_
      cases w <;> rfl
    rw [or_f t2]
    exact zdU (b := true) (zbY (d := .bl true) (zhd (a := TN w.hands) (w1 _ rfl) rfl) rfl)
  refine (zad ((if_f ?_).trans (e_skip _))).trans ?_
  · refine zdU (b := true) (zbY (d := .bl true) (za6 (zac (zfV (l := w.hands) nD (fun _ => .bl true) (zgb (d := TN w.hands) (w1 _ rfl) rfl) (by omega) fun h hh => ⟨[some (nD h),some (WD rows)],rfl,?_⟩) zai) (zp1 w.hands)) rfl)
    have := zfo h n
    rw [decide_eq_true (g.lt h hh)] at this
    exact zan (zac (d := nD h) rfl (zac (za6 (zac (d := WD rows) rfl zai) D.R.len) zai)) this
  refine (zad ((if_f ?_).trans (e_skip _))).trans ?_
  · have t1 := zjJ w.hands.length 0
    rw [decide_eq_false (by omega)] at t1
    have t2 := zgZ w.hands.length w.hands.length
    rw [decide_eq_false (by omega)] at t2
    rw [or_f (zam (zaj (b := nD 0) (za6 (zac (w1 _ rfl) zai) (zdn _ _)) rfl t1))]
    exact zam (zaj (zhd (a := TN w.hands) (w1 _ rfl) (zno g.nd (by omega))) (za6 (zac (w1 _ rfl) zai) (zdn _ _)) t2)
  have lenT : ∀ (k : Nat) (r : Rho),r[2]? = some (some (wyD w))→(zaq (f2 (fC (zab (gv 2) lNil) lenD) (fun _ => Res.ok (nD k)) eqD)) r = .ok (decide (w.cnt = k)) := fun k r hr =>
    zam (zaj (za6 (zac (d := wyD w) (by show getV r 2 = _; unfold getV; rw [hr]) zai) hlen) rfl (zjJ _ k))
  have l2 := lenT 2 [some (WD rows),some (TN dl),some (wyD w),none,none] rfl
  have l3 := lenT 3 [some (WD rows),some (TN dl),some (wyD w),none,none] rfl
  have fin : seqF (zcf q103 (fZip (f2 (gv 2) (fun _ => Res.ok (DL.D.int 1)) ixA) (zaz (zab (gv 1) (zab (gv 2) lNil)) [] zaA)) (ftT (zaS (ftN 3) (zaS (ftN 4) zdH))) zcm) (seqF (retF q103 (fun _ => Res.ok (DL.D.bl true))) zak) [some (WD rows),some (TN dl),some (wyD w),none,none] = .rt (.bl true) := by
    refine (zad ((zbj (ds := (w.hands.zip (w.things dl)).map fun p => DL.D.tup [nD p.1,nD p.2]) (by rw [← zev]; exact zhb (d := TN w.hands) (e := LN (w.things dl)) (w1 _ rfl) (zan (zac (d := TN dl) rfl (zac (d := wyD w) rfl zai)) (zdw D g.ne g.lt (by omega))) rfl rfl)).trans hloop)).trans ?_
    exact zat (zaI (d := .bl true) rfl)
  cases w with
  | ring r =>
    have E : Env rows dl n r := g
    rw [show decide ((Wy.ring r).cnt = 2) = true from rfl] at l2
    rw [show decide ((Wy.ring r).cnt = 3) = false from rfl] at l3
    refine (zad ((if_f ?_).trans (e_skip _))).trans ?_
    · refine (zhj l2).trans ((or_f (zam (zaj (a := .str "ring") (b := .str "ring") (zaj (a := wyD (.ring r)) (b := .int 0) rfl rfl (ixA_T0 _ _)) rfl (d := .bl false) (by rw [zi6]; rfl)))).trans ?_)
      have t2 := zgZ r.length 2
      rw [decide_eq_false (by have := E.two; omega)] at t2
      exact zam (zaj (b := nD 2) (za6 (zac (w1 _ rfl) zai) (zdn _ _)) rfl t2)
    refine (zad ((if_f (zih l3)).trans (e_skip _))).trans ?_
    refine (zad ((if_f (zih l3)).trans (e_skip _))).trans ?_
    exact fin
  | line r x =>
    obtain ⟨h,e,e1,e2,e3,e4⟩ := g
    rw [show decide ((Wy.line r x).cnt = 2) = false from rfl] at l2
    rw [show decide ((Wy.line r x).cnt = 3) = true from rfl] at l3
    refine (zad ((if_f (zih l2)).trans (e_skip _))).trans ?_
    refine (zad ((if_f ?_).trans (e_skip _))).trans ?_
    · refine (zhj l3).trans ((or_f (zam (zaj (a := .str "line") (b := .str "line") (zaj (a := wyD (.line r x)) (b := .int 0) rfl rfl (ixA_T0 _ _)) rfl (d := .bl false) (by rw [zi6]; rfl)))).trans ?_)
      have := zfo x m
      rw [decide_eq_true e2] at this
      exact zdU (b := true) (zbY (zan (zac (zaj (a := wyD (.line r x)) (b := nD 2) rfl rfl (zet rfl)) (zac (za6 (zac (zaj (a := WD rows) (b := .int 0) rfl rfl hr0) zai) hr0m) zai)) this) rfl)
    refine (zad ((if_f ?_).trans (e_skip _))).trans ?_
    · refine (zhj l3).trans ?_
      have := zmI dl x
      rw [decide_eq_false e3] at this
      exact zam (zaj (a := nD x) (b := TN dl) (zaj (a := wyD (.line r x)) (b := nD 2) rfl rfl (zet rfl)) rfl this)
    exact fin
theorem zhH : ∀ (ps : List (Nat × Nat)) (dl : List Nat),(betr dl ps).length = dl.length
  | [],_ => rfl
  | p::ps,dl => by
    show (betr (dl.set p.1 p.2) ps).length = _
    rw [zhH ps,List.length_set]
theorem zfU {i x h : Nat} (hi : i < dl.length) : dOf (dl.set i x) h = if h = i then x else dOf dl h := by
  unfold dOf
  rw [List.getD_eq_getElem?_getD,List.getD_eq_getElem?_getD]
  by_cases e : h = i
  · rw [if_pos e,e,List.getElem?_set_self hi]; rfl
  · rw [if_neg e,List.getElem?_set_ne (Ne.symm e)]
theorem zfY : ∀ (ps : List (Nat × Nat)) (dl : List Nat) {h : Nat},(∀ p∈ps,p.1 < dl.length)→h∉ps.map (·.1)→dOf (betr dl ps) h = dOf dl h
  | [],_,_,_,_ => rfl
  | p::ps,dl,h,hl,hn => by
    simp only [List.map_cons,List.mem_cons,not_or] at hn
    show dOf (betr (dl.set p.1 p.2) ps) h = _
    rw [zfY ps (dl.set p.1 p.2) (fun q hq => by rw [List.length_set]; exact hl q (List.mem_cons_of_mem _ hq)) hn.2,zfU (hl p List.mem_cons_self),if_neg hn.1]
theorem zj4 : ∀ (ps : List (Nat × Nat)) (dl : List Nat),(∀ p∈ps,p.1 < dl.length)→(ps.map (·.1)).Nodup→∀ p∈ps,dOf (betr dl ps) p.1 = p.2
  | [],_,_,_,_,hp => nomatch hp
  | q::ps,dl,hl,hn,p,hp => by
    rw [List.map_cons] at hn
    have hn' := List.nodup_cons.mp hn
    show dOf (betr (dl.set q.1 q.2) ps) p.1 = _
    have hl' : ∀ r∈ps,r.1 < (dl.set q.1 q.2).length := fun r hr => by rw [List.length_set]; exact hl r (List.mem_cons_of_mem _ hr)
    rcases List.mem_cons.mp hp with e | hp'
    · subst e
      rw [zfY ps _ hl' hn'.1,zfU (hl p List.mem_cons_self),if_pos rfl]
    · exact zj4 ps _ hl' hn'.2 p hp'
theorem zgq {l r : List Nat} (h : r.length = l.length) : (l.zip r).map (·.1) = l := by
  have := List.map_fst_zip (l₁ := l) (l₂ := r) (by omega)
  exact this
theorem zlk {f g : Nat→Nat} : ∀ {l : List Nat},(∀ x∈l,f x≤g x)→(∃ x∈l,f x < g x)→(l.map f).sum < (l.map g).sum
  | [],_,h => by obtain ⟨_,h1,_⟩ := h; cases h1
  | a::l,h1,h2 => by
    have le : ∀ {l : List Nat},(∀ x∈l,f x≤g x)→(l.map f).sum≤(l.map g).sum := by
      intro l
      induction l with
      | nil => intro _; exact Nat.le_refl _
      | cons b l ih =>
        intro h
        have := h b List.mem_cons_self
        have := ih fun x hx => h x (List.mem_cons_of_mem _ hx)
        simp only [List.map_cons,List.sum_cons]; omega
    have ha := h1 a List.mem_cons_self
    have hl := le fun x hx => h1 x (List.mem_cons_of_mem _ hx)
    simp only [List.map_cons,List.sum_cons]
    obtain ⟨x,x1,x2⟩ := h2
    rcases List.mem_cons.mp x1 with e | x1
    · subst e; omega
    · have := zlk (fun x hx => h1 x (List.mem_cons_of_mem _ hx)) ⟨x,x1,x2⟩
      omega
noncomputable def tot (rows : List (List Nat)) (n : Nat) (dl : List Nat) : Nat := ((List.range n).map fun h => (Wr rows h).idxOf (dOf dl h)).sum
theorem Good.next (D : Dl rows dl n m) {w : Wy} (g : Good rows dl n m w) : Dl rows (w.by dl) n m∧tot rows n (w.by dl) < tot rows n dl := by
  have hz := g.zip D
  have hne := g.ne
  have hl := zhV (dl := dl) hne
  have hps : ∀ p∈w.hands.zip (w.things dl),p.1 < dl.length := fun p hp => by rw [D.dn]; exact (hz p hp).1
  have hfst := zgq hl
  have hnd : ((w.hands.zip (w.things dl)).map (·.1)).Nodup := by rw [hfst]; exact g.nd
  have hin := zj4 (w.hands.zip (w.things dl)) dl hps hnd
  have hout : ∀ h,h∉w.hands→dOf (w.by dl) h = dOf dl h := fun h hh => zfY _ _ hps (by rw [hfst]; exact hh)
  have ex : ∀ h∈w.hands,∃ t,(h,t)∈w.hands.zip (w.things dl) := fun h hh => by
    have : h∈(w.hands.zip (w.things dl)).map (·.1) := by rw [hfst]; exact hh
    obtain ⟨p,p1,p2⟩ := List.mem_map.mp this
    exact ⟨p.2,by rw [← p2]; exact p1⟩
  have hlen : (w.by dl).length = n := by unfold Wy.by; rw [zhH,D.dn]
  have ht : (w.things dl).Nodup∧∀ t∈w.things dl,t∉dl∨∃ k∈w.hands,dOf dl k = t := by
    cases w with
    | line r x =>
      obtain ⟨h,e,e1,e2,e3,e4⟩ := g
      subst e
      refine ⟨by simp [Wy.things,Wy.hands],fun t ht => .inl ?_⟩
      simp [Wy.things,Wy.hands,Wy.last] at ht
      subst ht; exact e3
    | ring r =>
      have E : Env rows dl n r := g
      cases r with
      | nil => exact absurd rfl hne
      | cons a t =>
        have e : Wy.things dl (.ring (a::t)) = (t++[a]).map (dOf dl) := by simp [Wy.things,Wy.hands,Wy.last]
        rw [e]
        have hperm : (t++[a]).Perm (a::t) := List.perm_append_singleton a t
        refine ⟨?_,fun x hx => ?_⟩
        · rw [List.nodup_iff_pairwise_ne,List.pairwise_map]
          refine List.Pairwise.imp_of_mem (fun ha hb h z => h ?_) (hperm.nodup_iff.mpr E.nd)
          exact ze2 D.nd (by rw [D.dn]; exact E.lt _ (hperm.mem_iff.mp ha)) (by rw [D.dn]; exact E.lt _ (hperm.mem_iff.mp hb)) z
        · obtain ⟨k,k1,k2⟩ := List.mem_map.mp hx
          exact .inr ⟨k,hperm.mem_iff.mp k1,k2⟩
  have zinj : ∀ {h l t : Nat},(h,t)∈w.hands.zip (w.things dl)→(l,t)∈w.hands.zip (w.things dl)→h = l := by
    intro h l t h1 h2
    obtain ⟨i,hi⟩ := List.getElem?_of_mem h1
    obtain ⟨j,hj⟩ := List.getElem?_of_mem h2
    rw [List.getElem?_zip_eq_some] at hi hj
    have e : i = j := by
      have b1 := List.getElem?_eq_some_iff.mp hi.2
      have b2 := List.getElem?_eq_some_iff.mp hj.2
      obtain ⟨c1,q1⟩ := b1
      obtain ⟨c2,q2⟩ := b2
      have := List.pairwise_iff_getElem.mp ht.1
      rcases Nat.lt_trichotomy i j with z | z | z
      · exact absurd (q1.trans q2.symm) (this i j c1 c2 z)
      · exact z
      · exact absurd (q2.trans q1.symm) (this j i c2 c1 z)
    subst e
    exact Option.some.inj (hi.1.symm.trans hj.1)
  have inj : ∀ h l,h < n→l < n→dOf (w.by dl) h = dOf (w.by dl) l→h = l := by
    have mix : ∀ h l,h < n→l < n→h∈w.hands→l∉w.hands→dOf (w.by dl) h≠dOf (w.by dl) l := by
      intro h l hh hl' h1 h2 e
      obtain ⟨t,t1⟩ := ex h h1
      rw [show dOf (w.by dl) h = t from hin (h,t) t1,hout l h2] at e
      rcases ht.2 t (List.of_mem_zip t1).2 with q | ⟨k,k1,k2⟩
      · exact q (by rw [e]; exact zhh (by rw [D.dn]; exact hl'))
      · have := ze2 D.nd (by rw [D.dn]; exact g.lt k k1) (by rw [D.dn]; exact hl') (k2.trans e)
        subst this
        exact h2 k1
    intro h l hh hl' e
    by_cases c1 : h∈w.hands
    · by_cases c2 : l∈w.hands
      · obtain ⟨t,t1⟩ := ex h c1
        obtain ⟨u,u1⟩ := ex l c2
        rw [show dOf (w.by dl) h = t from hin (h,t) t1,show dOf (w.by dl) l = u from hin (l,u) u1] at e
        subst e
        exact zinj t1 u1
      · exact absurd e (mix h l hh hl' c1 c2)
    · by_cases c2 : l∈w.hands
      · exact absurd e.symm (mix l h hl' hh c2 c1)
      · rw [hout h c1,hout l c2] at e
        exact ze2 D.nd (by rw [D.dn]; exact hh) (by rw [D.dn]; exact hl') e
  have ltm : ∀ h,h < n→dOf (w.by dl) h < m := fun h hh => by
    by_cases c : h∈w.hands
    · obtain ⟨t,t1⟩ := ex h c
      rw [show dOf (w.by dl) h = t from hin (h,t) t1]
      exact (hz _ t1).2.1
    · rw [hout h c]; exact D.dlt hh
  refine ⟨⟨D.R,hlen,?_,fun x hx => ?_⟩,?_⟩
  · rw [← zlO hlen,List.nodup_iff_pairwise_ne,List.pairwise_map]
    exact List.Pairwise.imp_of_mem (fun ha hb h z => h (inj _ _ (List.mem_range.mp ha) (List.mem_range.mp hb) z)) List.nodup_range
  · obtain ⟨i,hi,rfl⟩ := zjR hx
    exact ltm i (by rw [← hlen]; exact hi)
  · unfold tot
    refine zlk (fun h hh => ?_) ?_
    · by_cases c : h∈w.hands
      · obtain ⟨t,t1⟩ := ex h c
        rw [show dOf (w.by dl) h = t from hin (h,t) t1]
        exact Nat.le_of_lt (hz _ t1).2.2
      · rw [hout h c]; exact Nat.le_refl _
    · obtain ⟨h,hh⟩ := List.exists_mem_of_ne_nil _ hne
      obtain ⟨t,t1⟩ := ex h hh
      refine ⟨h,List.mem_range.mpr (g.lt h hh),?_⟩
      rw [show dOf (w.by dl) h = t from hin (h,t) t1]
      exact (hz _ t1).2.2
theorem znf (D : Dl rows dl n m) : tot rows n dl≤n * m := by
  unfold tot
  have : ∀ (l : List Nat),(∀ h∈l,h < n)→(l.map fun h => (Wr rows h).idxOf (dOf dl h)).sum≤l.length * m := by
    intro l
    induction l with
    | nil => intro _; simp
    | cons a l ih =>
      intro h
      have h1 := h a List.mem_cons_self
      have h2 := ih fun x hx => h x (List.mem_cons_of_mem _ hx)
      have h3 := List.idxOf_lt_length_of_mem (D.R.has h1 (D.dlt h1))
      rw [(D.R.row h1).length_eq] at h3
      simp only [List.length_range] at h3
      rw [List.map_cons,List.sum_cons,List.length_cons,Nat.add_mul]
      omega
  have := this (List.range n) fun h hh => List.mem_range.mp hh
  simpa using this
theorem zlc (D : Dl rows dl n m) {w : Wy} (g : Good rows dl n m w) : Rg.beh (Wr rows) (dOf dl) 64 (List.range n) (List.range m) [] = none := by
  cases e : Rg.beh (Wr rows) (dOf dl) 64 (List.range n) (List.range m) [] with
  | none => rfl
  | some o =>
    exfalso
    obtain ⟨o',_,e2,e3⟩ := Rg.zmW e
    have hmem : ∀ h,h∈o'↔h < n := fun h => by rw [e2.mem_iff]; exact List.mem_range
    cases w with
    | ring r =>
      have E : Env rows dl n r := g
      refine Rg.zl0 (C := r) e3 (List.ne_nil_of_length_pos (by have := E.two; omega)) (fun h hh => (hmem h).mpr (E.lt h hh)) (fun h hh => ?_) (fun h hh => List.mem_range.mpr (D.dlt ((hmem h).mp hh))) (fun h hh l hl => ze2 D.nd (by rw [D.dn]; exact (hmem h).mp hh) (by rw [D.dn]; exact (hmem l).mp hl)) (fun h hh x hx => D.R.has ((hmem h).mp hh) (List.mem_range.mp hx))
      obtain ⟨i,hi⟩ := List.getElem?_of_mem hh
      have hlt : (i + 1) % r.length < r.length := Nat.mod_lt _ (by have := E.two; omega)
      exact ⟨r[(i + 1) % r.length],List.getElem_mem _,E.lk i h _ hi (List.getElem?_eq_getElem hlt)⟩
    | line r x =>
      obtain ⟨h,_,h1,h2,h3,h4⟩ := g
      exact Rg.zl1 e3 ((hmem h).mpr h1) (List.mem_range.mpr h2) (fun l hl z => h3 (by rw [← z]; exact zhh (by rw [D.dn]; exact (hmem l).mp hl))) h4 (D.R.has h1 h2)
theorem zj5 (D : Dl rows dl n m) (h1 : ∀ h,h < n→∀ x,x < m→x∉dl→¬ Rg.lk (Wr rows) h x (dOf dl h)) (h2 : ∀ C : List Nat,C≠[]→(∀ h∈C,h < n)→¬ ∀ h∈C,∃ l∈C,Rg.lk (Wr rows) h (dOf dl l) (dOf dl h)) : Rg.beh (Wr rows) (dOf dl) 64 (List.range n) (List.range m) []≠none := by
  have hn7 := D.R.n7
  refine Rg.zoT (fun h hh => List.mem_range.mpr (D.dlt (List.mem_range.mp hh))) List.nodup_range List.nodup_range (by simp; omega) (fun h hh x hx => D.R.has (List.mem_range.mp hh) (List.mem_range.mp hx)) (fun h hh x hx hno => h1 h (List.mem_range.mp hh) x (List.mem_range.mp hx) fun z => ?_) (fun C c1 c2 => h2 C c1 fun h hh => List.mem_range.mp (c2 h hh)) (fun h hh l hl => ze2 D.nd (by rw [D.dn]; exact List.mem_range.mp hh) (by rw [D.dn]; exact List.mem_range.mp hl))
  obtain ⟨i,hi,e⟩ := zjR z
  exact hno i (List.mem_range.mpr (by rw [← D.dn]; exact hi)) e
end
end Law
end
section
namespace Law
open PySem PyProof.Rows L2 DL
theorem zjH {ds es : List DL.D} (h : ds.length + es.length≤1000) : extD (.lst ds) [.lst es] = some (.lst (ds++es)) := by
  show (if ds.length + es.length≤sizeLine then some (DL.D.lst (ds++es)) else none) = _
  rw [if_pos (by rw [sizeLine_eq]; omega)]
section
variable {rows : List (List Nat)} {dl : List Nat} {n m : Nat}
theorem zlR (x0 x1 : Option DL.D) {T : List Nat} {h : Nat} : ∀ (l g : List Nat) (y : Option DL.D),h < g.length→(∃ x∈l,x∈T) →
    ∃ x y',x∈T∧forF (ftN 5) zbl (l.map nD) [x0,x1,some (LN T),some (LN g),some (nD h),y] = .nx [x0,x1,some (LN T),some (LN (g.set h x)),some (nD h),y']
  | [],g,y,_,hx => by obtain ⟨_,z,_⟩ := hx; cases z
  | a::l,g,y,hg,hx => by
    have c := zam (zaj (f := gv 5) (f' := gv 2) (r := [x0,x1,some (LN T),some (LN g),some (nD h),some (nD a)]) (a := nD a) (b := LN T) rfl rfl (zic T a))
    by_cases ha : a∈T
    · rw [decide_eq_true ha] at c
      have st : forF (ftN 5) zbl ((a::l).map nD) [x0,x1,some (LN T),some (LN g),some (nD h),y] = forF (ftN 5) zbl (l.map nD) [x0,x1,some (LN T),some (LN (g.set h a)),some (nD h),some (nD a)] := by
        refine zbU (r1 := [x0,x1,some (LN T),some (LN g),some (nD h),some (nD a)]) rfl ?_
        refine (zad ((if_t c).trans (zad (zgi (d := LN g) (k := nD h) (v := nD a) rfl rfl rfl (ziv (by rw [List.length_map]; exact hg)))))).trans ?_
        rw [show (g.map nD).set h (nD a) = (g.set h a).map nD by rw [List.map_set]]; rfl
      by_cases more : ∃ x∈l,x∈T
      · obtain ⟨x,y',h1,h2⟩ := zlR x0 x1 (T := T) (h := h) l (g.set h a) (some (nD a)) (by rw [List.length_set]; exact hg) more
        refine ⟨x,y',h1,?_⟩
        rw [st,h2,List.set_set]
      · refine ⟨a,?_⟩
        have skip : ∀ (l : List Nat) (y : Option DL.D),(∀ x∈l,x∉T)→∃ y',forF (ftN 5) zbl (l.map nD) [x0,x1,some (LN T),some (LN (g.set h a)),some (nD h),y] = .nx [x0,x1,some (LN T),some (LN (g.set h a)),some (nD h),y'] := by
          intro l
          induction l with
          | nil => intro y _; exact ⟨y,zbD⟩
          | cons b l ih =>
            intro y hb
            obtain ⟨y',ih⟩ := ih (some (nD b)) fun x hx => hb x (List.mem_cons_of_mem _ hx)
            refine ⟨y',?_⟩
            rw [← ih]
            have c' := zam (zaj (f := gv 5) (f' := gv 2) (r := [x0,x1,some (LN T),some (LN (g.set h a)),some (nD h),some (nD b)]) (a := nD b) (b := LN T) rfl rfl (zic T b))
            rw [decide_eq_false (hb b List.mem_cons_self)] at c'
            exact zbU (r1 := [x0,x1,some (LN T),some (LN (g.set h a)),some (nD h),some (nD b)]) rfl ((zad ((if_f c').trans (e_skip _))).trans rfl)
        obtain ⟨y',h2⟩ := skip l (some (nD a)) fun x hx z => more ⟨x,hx,z⟩
        exact ⟨y',ha,by rw [st,h2]⟩
    · rw [decide_eq_false ha] at c
      obtain ⟨x,y',h1,h2⟩ := zlR x0 x1 (T := T) (h := h) l g (some (nD a)) hg (by
        obtain ⟨x,x1,x2⟩ := hx
        rcases List.mem_cons.mp x1 with rfl | x1
        · exact absurd x2 ha
        · exact ⟨x,x1,x2⟩)
      refine ⟨x,y',h1,?_⟩
      rw [← h2]
      exact zbU (r1 := [x0,x1,some (LN T),some (LN g),some (nD h),some (nD a)]) rfl ((zad ((if_f c).trans (e_skip _))).trans rfl)
theorem zlg (R : Rws rows n m) (x1 : Option DL.D) : ∀ (o T g : List Nat) (y4 y5 : Option DL.D),o.Nodup→(∀ h∈o,h < n)→T.Nodup→o.length≤T.length→(∀ x∈T,x < m)→g.length = n →
    ∃ (g' T' : List Nat) (z4 z5 : Option DL.D),g'.length = n∧(∀ h∈o,dOf g' h∈T)∧(∀ h∈o,∀ l∈o,dOf g' h = dOf g' l→h = l)∧(∀ h,h∉o→dOf g' h = dOf g h) ∧
      forF (ftN 4) zdD (o.map nD) [some (WD rows),x1,some (LN T),some (LN g),y4,y5] = .nx [some (WD rows),x1,some (LN T'),some (LN g'),z4,z5]
  | [],T,g,y4,y5,_,_,_,_,_,hg => ⟨g,T,y4,y5,hg,fun _ h => (nomatch h),fun _ h => (nomatch h),fun _ _ => rfl,zbD⟩
  | h::o,T,g,y4,y5,hn,hh,hT,hl,hm,hg => by
    have hn' := List.nodup_cons.mp hn
    have h0 := hh h List.mem_cons_self
    have hp : 0 < T.length := by simp at hl; omega
    obtain ⟨x,y',x1',s1⟩ := zlR (some (WD rows)) x1 (T := T) (h := h) (Wr rows h) g y5 (by omega) (R.one h0 hp hm)
    obtain ⟨g',T',z4,z5,i1,i2,i3,i4,i5⟩ := zlg R x1 o (T.erase x) (g.set h x) (some (nD h)) y' hn'.2 (fun k hk => hh k (List.mem_cons_of_mem _ hk)) (hT.erase _) (by rw [List.length_erase_of_mem x1']; simp at hl; omega) (fun z hz => hm z (List.mem_of_mem_erase hz)) (by rw [List.length_set]; exact hg)
    have eh : dOf g' h = x := by rw [i4 h hn'.1,zfU (by omega),if_pos rfl]
    refine ⟨g',T',z4,z5,i1,fun k hk => ?_,fun k hk l hl' e => ?_,fun k hk => ?_,?_⟩
    · rcases List.mem_cons.mp hk with q | q
      · subst q; rw [eh]; exact x1'
      · exact List.mem_of_mem_erase (i2 k q)
    · have ne : ∀ k∈o,dOf g' k≠x := fun k hk z => by
        have := i2 k hk
        rw [z] at this
        exact ((List.Nodup.mem_erase_iff hT).mp this).1 rfl
      rcases List.mem_cons.mp hk with q | q
      · rcases List.mem_cons.mp hl' with q' | q'
        · rw [q,q']
        · subst q; rw [eh] at e; exact absurd e.symm (ne l q')
      · rcases List.mem_cons.mp hl' with q' | q'
        · subst q'; rw [eh] at e; exact absurd e (ne k q)
        · exact i3 k q l q' e
    · rw [i4 k fun z => hk (List.mem_cons_of_mem _ z),zfU (by omega),if_neg]
      rintro rfl
      exact hk List.mem_cons_self
    · rw [← i5]
      refine zbU (r1 := [some (WD rows),x1,some (LN T),some (LN g),some (nD h),y5]) rfl ?_
      refine (zad ((zbj (ds := (Wr rows h).map nD) (zgb (d := TN (Wr rows h)) (zaj (a := WD rows) (b := nD h) rfl rfl (zet (ziF (by rw [R.rl]; exact h0)))) rfl)).trans s1)).trans ?_
      have hat : ((g.set h x).map nD)[h]? = some (nD x) := by rw [List.getElem?_map,List.getElem?_set_self (by omega)]; rfl
      exact zad (zdW (d := LN T) (ds := [nD x]) rfl rfl (zac (zaj (a := LN (g.set h x)) (b := nD h) rfl rfl (zkR hat)) zai) (zlr x1'))
theorem zpX (R : Rws rows n m) {g : List Nat} (hg : g.length = n) (h1 : ∀ h,h < n→dOf g h < m) (h2 : ∀ h,h < n→∀ l,l < n→dOf g h = dOf g l→h = l) : Dl rows g n m := by
  refine ⟨R,hg,?_,fun x hx => ?_⟩
  · rw [← zlO hg,List.nodup_iff_pairwise_ne,List.pairwise_map]
    exact List.Pairwise.imp_of_mem (fun ha hb h z => h (h2 _ (List.mem_range.mp ha) _ (List.mem_range.mp hb) z)) List.nodup_range
  · obtain ⟨i,hi,rfl⟩ := zjR hx
    exact h1 i (by rw [← hg]; exact hi)
theorem ziB (R : Rws rows n m) {o : List Nat} (hp : o.Perm (List.range n)) : ∃ g,Dl rows g n m∧zcs [WD rows,TN o] = .ok (TN g) := by
  have hn7 := R.n7
  have hm8 := R.m8
  have hnm := R.nm
  have hlen : o.length = n := by rw [hp.length_eq]; simp
  obtain ⟨r0,hr0,hr0m⟩ := R.ix0
  have hmem : ∀ h,h∈o↔h < n := fun h => by rw [hp.mem_iff]; exact List.mem_range
  obtain ⟨g',T',z4,z5,i1,i2,i3,i4,i5⟩ := zlg R (some (TN o)) o (List.range m) o none none (hp.nodup_iff.mpr List.nodup_range) (fun h hh => (hmem h).mp hh) List.nodup_range (by simp; omega) (fun x hx => List.mem_range.mp hx) hlen
  refine ⟨g',zpX R i1 (fun h hh => List.mem_range.mp (i2 h ((hmem h).mpr hh))) (fun h hh l hl => i3 h ((hmem h).mpr hh) l ((hmem l).mpr hl)),zaU (B := zcu) (n := 6) ?_⟩
  unfold zcu
  refine (zad (zas (d := LN (List.range m)) (za6 (zac (d := nD m) (za6 (zac (zaj (a := WD rows) (b := .int 0) rfl rfl hr0) zai) hr0m) zai) (zjf (by omega))))).trans ?_
  refine (zad (zas (d := LN o) (za6 (zac (d := TN o) rfl zai) rfl))).trans ?_
  refine (zad ((zbj (ds := o.map nD) rfl).trans i5)).trans ?_
  exact zat (zaI (za6 (zac (d := LN g') rfl zai) rfl))
noncomputable def Few (n : Nat) (w : Wy) : Prop := w.hands≠[]∧(∀ h∈w.hands,h < n)∧w.hands.length≤2
noncomputable def stO (rows : List (List Nat)) (dl : List Nat) (c : Nat) (ways : List Wy) (left : List Nat) (x5 x6 x7 x8 x9 x10 : Option DL.D) : Rho := [some (WD rows),some (TN dl),some (nD c),some (.lst (ways.map wyD)),some (LN left),x5,x6,x7,x8,x9,x10]
theorem znW (D : Dl rows dl n m) {c one : Nat} (h1 : one < n) {wanted left : List Nat} : ∀ (l : List Nat) (ways : List Wy) (x7 x8 x9 x10 : Option DL.D),(∀ h∈l,h < n)→(∀ w∈ways,Few n w)→ways.length + l.length * 9≤900 →
    ∃ (ways' : List Wy) (z7 z8 z9 z10 : Option DL.D),(∀ w∈ways',Few n w)∧ways'.length≤ways.length + l.length * 9 ∧
      forF (ftN 7) zbx (l.map nD) (stO rows dl c ways left (some (nD one)) (some (TN wanted)) x7 x8 x9 x10) = .nx (stO rows dl c ways' left (some (nD one)) (some (TN wanted)) z7 z8 z9 z10)
  | [],ways,x7,x8,x9,x10,_,hw,_ => ⟨ways,x7,x8,x9,x10,hw,by simp,zbD⟩
  | h::l,ways,x7,x8,x9,x10,hl,hw,hb => by
    have h0 := hl h List.mem_cons_self
    have hm8 := D.R.m8
    rw [List.length_cons] at hb
    have t := zam (zaj (f := f2 (gv 1) (gv 7) ixA) (f' := gv 6) (r := stO rows dl c ways left (some (nD one)) (some (TN wanted)) (some (nD h)) x8 x9 x10) (a := nD (dOf dl h)) (b := TN wanted) (zaj (a := TN dl) (b := nD h) rfl rfl (D.at h0)) rfl (zmI wanted (dOf dl h)))
    have step : ∃ (ways1 : List Wy) (z8 z9 z10 : Option DL.D),(∀ w∈ways1,Few n w)∧ways1.length≤ways.length + 9∧zbx (stO rows dl c ways left (some (nD one)) (some (TN wanted)) (some (nD h)) x8 x9 x10) = .nx (stO rows dl c ways1 left (some (nD one)) (some (TN wanted)) (some (nD h)) z8 z9 z10) := by
      by_cases q : dOf dl h∈wanted
      · rw [decide_eq_true q] at t
        generalize hB : (Wr rows h).take ((Wr rows h).idxOf (dOf dl h)) = behind
        have hbl : behind.length≤m := by rw [← hB,List.length_take,(D.R.row h0).length_eq]; simp; omega
        generalize hN : ((behind.filter fun x => decide (x∈left)).map fun x => Wy.line [one,h] x) = new
        have hnl : new.length≤m := by rw [← hN,List.length_map]; exact Nat.le_trans (List.length_filter_le _ _) hbl
        have hnew : ∀ w∈new,Few n w := fun w hw' => by
          rw [← hN] at hw'
          obtain ⟨x,_,rfl⟩ := List.mem_map.mp hw'
          refine ⟨by simp [Wy.hands],fun k hk => ?_,by simp [Wy.hands]⟩
          simp only [Wy.hands,List.mem_cons,List.not_mem_nil,or_false] at hk
          rcases hk with rfl | rfl
          · exact h1
          · exact h0
        have hcomp : (zch 1 [10,4] (fSeq zbk (gv 9)) (ftN 0) (zaq (f2 (gv 0) (gv 2) inD)) (mkT (zab (fun _ => Res.ok (DL.D.str "line")) (zab (gv 1) (zab (gv 0) lNil))))) (stO rows dl c ways left (some (nD one)) (some (TN wanted)) (some (nD h)) (some (TN (Wr rows h))) (some (TN behind)) (some (TN [one,h]))) = .ok (.lst (new.map wyD)) := by
          have := zcS (nl := 1) (cap := [10,4]) (fi := fSeq zbk (gv 9)) (ft := ftN 0) (q := zaq (f2 (gv 0) (gv 2) inD)) (fe := mkT (zab (fun _ => Res.ok (DL.D.str "line")) (zab (gv 1) (zab (gv 0) lNil)))) (r := stO rows dl c ways left (some (nD one)) (some (TN wanted)) (some (nD h)) (some (TN (Wr rows h))) (some (TN behind)) (some (TN [one,h]))) (l := behind) nD (fun x => decide (x∈left)) (fun x => wyD (.line [one,h] x)) rfl (by omega) fun x hx => ⟨[some (nD x),some (TN [one,h]),some (LN left)],rfl,zam (zaj (a := nD x) (b := LN left) rfl rfl (zic _ _)),fun _ => zdX (zac (d := .str "line") rfl (zac (d := TN [one,h]) rfl (zac (d := nD x) rfl zai))) (by simp)⟩
          rw [this,← hN,List.map_map]; rfl
        have pre : ∀ s2 : FS,(seqF (setF q101 8 (f2 (gv 0) (gv 7) ixA)) (seqF (setF q101 9 (fSlA (gv 8) (fun _ => Res.ok none) (zeu (fM "tuple" (gv 8) (zab (f2 (gv 1) (gv 7) ixA) lNil) zcQ)))) (seqF (setF q101 10 (mkT (zab (gv 5) (zab (gv 7) lNil)))) (seqF (mutF "list" q101 3 (zab (zch 1 [10,4] (fSeq zbk (gv 9)) (ftN 0) (zaq (f2 (gv 0) (gv 2) inD)) (mkT (zab (fun _ => Res.ok (DL.D.str "line")) (zab (gv 1) (zab (gv 0) lNil))))) lNil) extD) s2)))) (stO rows dl c ways left (some (nD one)) (some (TN wanted)) (some (nD h)) x8 x9 x10) = s2 (stO rows dl c (ways++new) left (some (nD one)) (some (TN wanted)) (some (nD h)) (some (TN (Wr rows h))) (some (TN behind)) (some (TN [one,h]))) := fun s2 => by
          refine (zad (zas (d := TN (Wr rows h)) (zaj (a := WD rows) (b := nD h) rfl rfl (D.rw' h0)))).trans ?_
          refine (zad (zas (d := TN behind) (zeK (d := TN (Wr rows h)) rfl rfl (zdF (i := (((Wr rows h).idxOf (dOf dl h) : Nat) : Int)) (zhc (d := TN (Wr rows h)) rfl rfl (zac (zaj (a := TN dl) (b := nD h) rfl rfl (D.at h0)) zai) (zdo (D.R.has h0 (D.dlt h0))))) (by rw [zex,hB])))).trans ?_
          refine (zad (zas (d := TN [one,h]) (zdX (zac (d := nD one) rfl (zac (d := nD h) rfl zai)) (by simp)))).trans ?_
          refine (zad (zdW (d := .lst (ways.map wyD)) (ds := [.lst (new.map wyD)]) (d' := .lst ((ways++new).map wyD)) rfl rfl (zac hcomp zai) ?_)).trans rfl
          rw [zjH (by rw [List.length_map,List.length_map]; omega),← List.map_append]
        have t2 := zam (zaj (f := f2 (gv 1) (gv 5) ixA) (f' := gv 9) (r := stO rows dl c (ways++new) left (some (nD one)) (some (TN wanted)) (some (nD h)) (some (TN (Wr rows h))) (some (TN behind)) (some (TN [one,h]))) (a := nD (dOf dl one)) (b := TN behind) (zaj (a := TN dl) (b := nD one) rfl rfl (D.at h1)) rfl (zmI behind (dOf dl one)))
        have hall : ∀ w∈ways++new,Few n w := fun w hw' => by
          rcases List.mem_append.mp hw' with z | z
          · exact hw w z
          · exact hnew w z
        by_cases q2 : dOf dl one∈behind
        · rw [decide_eq_true q2] at t2
          refine ⟨ways++new++[Wy.ring [one,h]],_,_,_,fun w hw' => ?_,by simp; omega,(zad ((if_t t).trans ((pre _).trans ((zad ((if_t t2).trans (zad (zdW (d := .lst ((ways++new).map wyD)) (ds := [wyD (.ring [one,h])]) (d' := .lst ((ways++new++[Wy.ring [one,h]]).map wyD)) rfl rfl (zac (zdX (zac (d := .str "ring") rfl (zac (d := TN [one,h]) rfl zai)) (by simp)) zai) (by rw [zf0 (by simp; omega)]; rw [List.map_append (l₁ := ways++new)]; rfl))))).trans rfl)))).trans rfl⟩
          rcases List.mem_append.mp hw' with z | z
          · exact hall w z
          · rw [List.mem_singleton.mp z]
            refine ⟨by simp [Wy.hands],fun k hk => ?_,by simp [Wy.hands]⟩
            simp only [Wy.hands,List.mem_cons,List.not_mem_nil,or_false] at hk
            rcases hk with rfl | rfl
            · exact h1
            · exact h0
        · rw [decide_eq_false q2] at t2
          exact ⟨ways++new,_,_,_,hall,by simp; omega,(zad ((if_t t).trans ((pre _).trans ((zad ((if_f t2).trans (e_skip _))).trans rfl)))).trans rfl⟩
      · rw [decide_eq_false q] at t
        exact ⟨ways,x8,x9,x10,hw,by omega,(zad ((if_f t).trans (e_skip _))).trans rfl⟩
    obtain ⟨ways1,z8,z9,z10,s1,s2,s3⟩ := step
    obtain ⟨ways',u7,u8,u9,u10,r1,r2,r3⟩ := znW D h1 (wanted := wanted) (left := left) l ways1 (some (nD h)) z8 z9 z10 (fun k hk => hl k (List.mem_cons_of_mem _ hk)) s1 (by omega)
    refine ⟨ways',u7,u8,u9,u10,r1,by rw [List.length_cons]; omega,?_⟩
    rw [← r3]
    exact zbU (r1 := stO rows dl c ways left (some (nD one)) (some (TN wanted)) (some (nD h)) x8 x9 x10) rfl s3
theorem zlt (D : Dl rows dl n m) {c : Nat} {left : List Nat} : ∀ (l : List Nat) (ways : List Wy) (x5 x6 x7 x8 x9 x10 : Option DL.D),(∀ h∈l,h < n)→(∀ w∈ways,Few n w)→ways.length + l.length * 71≤800 →
    ∃ (ways' : List Wy) (z5 z6 z7 z8 z9 z10 : Option DL.D),(∀ w∈ways',Few n w)∧ways'.length≤ways.length + l.length * 71 ∧
      forF (ftN 5) zcr (l.map nD) (stO rows dl c ways left x5 x6 x7 x8 x9 x10) = .nx (stO rows dl c ways' left z5 z6 z7 z8 z9 z10)
  | [],ways,x5,x6,x7,x8,x9,x10,_,hw,_ => ⟨ways,x5,x6,x7,x8,x9,x10,hw,by simp,zbD⟩
  | h::l,ways,x5,x6,x7,x8,x9,x10,hl,hw,hb => by
    have h0 := hl h List.mem_cons_self
    have hm8 := D.R.m8
    have hn7 := D.R.n7
    rw [List.length_cons] at hb
    generalize hB : (Wr rows h).take ((Wr rows h).idxOf (dOf dl h)) = wanted
    have hbl : wanted.length≤m := by rw [← hB,List.length_take,(D.R.row h0).length_eq]; simp; omega
    generalize hN : ((wanted.filter fun x => decide (x∈left)).map fun x => Wy.line [h] x) = new
    have hnl : new.length≤m := by rw [← hN,List.length_map]; exact Nat.le_trans (List.length_filter_le _ _) hbl
    have hall : ∀ w∈ways++new,Few n w := fun w hw' => by
      rcases List.mem_append.mp hw' with z | z
      · exact hw w z
      · rw [← hN] at z
        obtain ⟨x,_,rfl⟩ := List.mem_map.mp z
        refine ⟨by simp [Wy.hands],fun k hk => ?_,by simp [Wy.hands]⟩
        simp only [Wy.hands,List.mem_cons,List.not_mem_nil,or_false] at hk
        rw [hk]; exact h0
    have hcomp : (zch 1 [5,4] (fSeq zbk (gv 6)) (ftN 0) (zaq (f2 (gv 0) (gv 2) inD)) (mkT (zab (fun _ => Res.ok (DL.D.str "line")) (zab (mkT (zab (gv 1) lNil)) (zab (gv 0) lNil))))) (stO rows dl c ways left (some (nD h)) (some (TN wanted)) x7 x8 x9 x10) = .ok (.lst (new.map wyD)) := by
      have := zcS (nl := 1) (cap := [5,4]) (fi := fSeq zbk (gv 6)) (ft := ftN 0) (q := zaq (f2 (gv 0) (gv 2) inD)) (fe := mkT (zab (fun _ => Res.ok (DL.D.str "line")) (zab (mkT (zab (gv 1) lNil)) (zab (gv 0) lNil)))) (r := stO rows dl c ways left (some (nD h)) (some (TN wanted)) x7 x8 x9 x10) (l := wanted) nD (fun x => decide (x∈left)) (fun x => wyD (.line [h] x)) rfl (by omega) fun x hx => ⟨[some (nD x),some (nD h),some (LN left)],rfl,zam (zaj (a := nD x) (b := LN left) rfl rfl (zic _ _)),fun _ => zdX (zac (d := .str "line") rfl (zac (d := TN [h]) (zdX (zac (d := nD h) rfl zai) (by simp)) (zac (d := nD x) rfl zai))) (by simp)⟩
      rw [this,← hN,List.map_map]; rfl
    obtain ⟨ways1,z7,z8,z9,z10,s1,s2,s3⟩ := znW D (c := c) h0 (wanted := wanted) (left := left) (List.range n) (ways++new) x7 x8 x9 x10 (fun k hk => List.mem_range.mp hk) hall (by simp; omega)
    simp only [List.length_range,List.length_append] at s2
    obtain ⟨ways',u5,u6,u7,u8,u9,u10,r1,r2,r3⟩ := zlt D (c := c) (left := left) l ways1 (some (nD h)) (some (TN wanted)) z7 z8 z9 z10 (fun k hk => hl k (List.mem_cons_of_mem _ hk)) s1 (by omega)
    refine ⟨ways',u5,u6,u7,u8,u9,u10,r1,by rw [List.length_cons]; omega,?_⟩
    rw [← r3]
    refine zbU (r1 := stO rows dl c ways left (some (nD h)) x6 x7 x8 x9 x10) rfl ?_
    refine (zad (zas (d := TN wanted) (zeK (d := TN (Wr rows h)) (zaj (a := WD rows) (b := nD h) rfl rfl (D.rw' h0)) rfl (zdF (i := (((Wr rows h).idxOf (dOf dl h) : Nat) : Int)) (zhc (d := TN (Wr rows h)) (zaj (a := WD rows) (b := nD h) rfl rfl (D.rw' h0)) rfl (zac (zaj (a := TN dl) (b := nD h) rfl rfl (D.at h0)) zai) (zdo (D.R.has h0 (D.dlt h0))))) (by rw [zex,hB])))).trans ?_
    refine (zad (zdW (d := .lst (ways.map wyD)) (ds := [.lst (new.map wyD)]) (d' := .lst ((ways++new).map wyD)) rfl rfl (zac hcomp zai) ?_)).trans ?_
    · rw [zjH (by rw [List.length_map,List.length_map]; omega),← List.map_append]
    exact zad ((zbj (ds := (List.range n).map nD) (zcR (zac (za6 (zac (d := WD rows) rfl zai) D.R.len) zai) (zdT (by omega)))).trans s3)
theorem zln (w : Wy) (k : Nat) (hk : 2≤k) : Shp k (wyD w) := by
  obtain ⟨k,rfl⟩ : ∃ j,k = j + 1 + 1 := ⟨k - 2,by omega⟩
  cases w with
  | ring r =>
    refine zcL.mpr fun x hx => ?_
    simp only [List.mem_cons,List.not_mem_nil,or_false] at hx
    rcases hx with rfl | rfl
    · show PyData.strOk _ = true
      decide +kernel
    · exact zcL.mpr zhW
  | line r x =>
    refine zcL.mpr fun y hy => ?_
    simp only [List.mem_cons,List.not_mem_nil,or_false] at hy
    rcases hy with rfl | rfl | rfl
    · show PyData.strOk _ = true
      decide +kernel
    · exact zcL.mpr zhW
    · trivial
theorem zk0 (ways : List Wy) : eqD (.lst (ways.map wyD)) (.lst []) = some (.bl (decide (ways = []))) := by
  unfold eqD
  rw [zeE rfl (zdE.mpr fun x hx => by obtain ⟨w,_,rfl⟩ := List.mem_map.mp hx; exact zln w _ (by decide)) (zdE.mpr (by simp))]
  unfold eqb
  cases ways with
  | nil => simp [toPy,zcz,PyData.eqv,PyData.eqvAll]
  | cons w ws => simp [toPy,zcz,PyData.eqv,PyData.eqvAll]
theorem ziC (D : Dl rows dl n m) (c : Nat) : ∃ o : Option Wy,(∀ w,o = some w→Few n w)∧zaM [WD rows,TN dl,nD c] = .ok (match o with | some w => wyD w | none => .non) := by
  have hn7 := D.R.n7
  have hm8 := D.R.m8
  obtain ⟨r0,hr0,hr0m⟩ := D.R.ix0
  obtain ⟨ways,z5,z6,z7,z8,z9,z10,s1,s2,s3⟩ := zlt D (c := c) (left := (List.range m).filter fun x => !decide (x∈dl)) (List.range n) [] none none none none none none (fun k hk => List.mem_range.mp hk) (fun _ h => (nomatch h)) (by simp; omega)
  simp only [List.length_range,List.length_nil] at s2
  have main : ∀ d : DL.D,(seqF (ifF q101 (zaq (f2 (gv 3) (mkL lNil) eqD)) (seqF (retF q101 (fun _ => Res.ok DL.D.non)) zak) zak) (seqF (retF q101 (f2 (gv 3) (f2 (gv 2) (fC (zab (gv 3) lNil) lenD) modI) ixA)) zak)) (stO rows dl c ways ((List.range m).filter fun x => !decide (x∈dl)) z5 z6 z7 z8 z9 z10) = .rt d→zaM [WD rows,TN dl,nD c] = .ok d := fun d hd => by
    refine zaU (B := zbm) (n := 11) ?_
    unfold zbm
    refine (zad (zas (d := .lst (([] : List Wy).map wyD)) (zdA zai (by simp)))).trans ?_
    refine (zad (zas (zcS (l := List.range m) nD (fun x => !decide (x∈dl)) nD (zcR (zac (za6 (zac (zaj (a := WD rows) (b := .int 0) rfl rfl hr0) zai) hr0m) zai) (zdT (by omega))) (by simp; omega) fun x hx => ⟨[some (nD x),some (TN dl)],rfl,zam (zaj (a := nD x) (b := TN dl) rfl rfl (zlB dl x)),fun _ => rfl⟩))).trans ?_
    refine (zad ((zbj (ds := (List.range n).map nD) (zcR (zac (za6 (zac (d := WD rows) rfl zai) D.R.len) zai) (zdT (by omega)))).trans s3)).trans ?_
    exact hd
  have t := zam (zaj (f := gv 3) (f' := mkL lNil) (r := stO rows dl c ways ((List.range m).filter fun x => !decide (x∈dl)) z5 z6 z7 z8 z9 z10) (a := .lst (ways.map wyD)) (b := .lst []) rfl (zdA zai (by simp)) (zk0 ways))
  by_cases e : ways = []
  · rw [decide_eq_true e] at t
    exact ⟨none,fun w h => (nomatch h),main _ (zat ((if_t t).trans (zat (zaI (d := .non) rfl))))⟩
  · rw [decide_eq_false e] at t
    have hp := List.length_pos_iff.mpr e
    have hi : c % ways.length < ways.length := Nat.mod_lt _ hp
    refine ⟨some ways[c % ways.length],fun w h => by cases h; exact s1 _ (List.getElem_mem _),main _ ((zad ((if_f t).trans (e_skip _))).trans (zat (zaI (zaj (a := .lst (ways.map wyD)) (b := nD (c % ways.length)) rfl (zaj (a := nD c) (b := nD ways.length) rfl (za6 (zac (d := .lst (ways.map wyD)) rfl zai) (zcq _ _)) (zgo hp)) (zkR ?_)))))⟩
    rw [List.getElem?_map,List.getElem?_eq_getElem hi]; rfl
end
end Law
end
section
namespace Law
open PySem PyProof.Rows L2 DL
noncomputable def owD : Option Wy→DL.D
  | some w => wyD w
  | none => .non
theorem zkZ : ∀ (k : Nat) (x : DL.D),Shp k x→PyData.eqv (toPy x) (toPy x) = true := by
  have all : ∀ (k : Nat),(∀ x,Shp k x→PyData.eqv (toPy x) (toPy x) = true)→∀ ds : List DL.D,(∀ x∈ds,Shp k x)→PyData.eqvAll (zcz ds) (zcz ds) = true := by
    intro k hk ds
    induction ds with
    | nil => intro _; simp [zcz,PyData.eqvAll]
    | cons x ds ih =>
      intro h
      simp only [zcz,PyData.eqvAll]
      rw [hk x (h x List.mem_cons_self),ih fun y hy => h y (List.mem_cons_of_mem _ hy)]; rfl
  intro k
  induction k with
  | zero =>
    intro x hx
    cases x with
    | tup ds => exact hx.elim
    | lst ds => exact hx.elim
    | dic _ => exact hx.elim
    | obj _ _ => exact hx.elim
    | _ => simp [toPy,PyData.eqv]
  | succ k ih =>
    intro x hx
    cases x with
    | tup ds =>
      have := all k ih ds (zcL.mp hx)
      simp only [toPy,PyData.eqv]; exact this
    | lst ds =>
      have := all k ih ds (zdE.mp hx)
      simp only [toPy,PyData.eqv]; exact this
    | dic _ => exact (by unfold Shp at hx; exact hx.elim)
    | obj _ _ => exact (by unfold Shp at hx; exact hx.elim)
    | _ => simp [toPy,PyData.eqv]
theorem zn7 (o : Option Wy) : neD (owD o) (owD o) = some (.bl false) := by
  cases o with
  | none => unfold neD owD; rw [eqB_non_non]; rfl
  | some w =>
    have hs : Shp 60 (wyD w) := zln w 60 (by decide)
    unfold neD owD
    rw [zeE (by cases w <;> rfl) hs hs]
    unfold eqb
    rw [zkZ 60 _ hs]; rfl
theorem zlG (o : Option Wy) : isD (owD o) .non = some (.bl (decide (o = none))) := by
  cases o with
  | none => rfl
  | some w => cases w <;> rfl
theorem zmG (o : Option Wy) : isnD (owD o) .non = some (.bl (!decide (o = none))) := by
  cases o with
  | none => rfl
  | some w => cases w <;> rfl
theorem zkS (x : Option (List Nat)) : isnD (resD x) .non = some (.bl (!decide (x = none))) := by cases x <;> rfl
theorem zn9 (a b : Bool) : neD (.bl a) (.bl b) = some (.bl (!(a == b))) := by
  unfold neD
  rw [zeD rfl]
  cases a <;> cases b <;> rfl
section
variable {rows : List (List Nat)} {n m : Nat}
noncomputable abbrev stW (ns : List Int) (c1 n m : Nat) (rows : List (List Nat)) (dl : List Nat) (x6 x7 x8 x9 x10 : Option DL.D) : Rho := [some (IN ns),some (nD c1),some (nD n),some (nD m),some (WD rows),some (TN dl),x6,x7,x8,x9,x10]
theorem zmw {ns : List Int} {c1 c3 : Nat} (h3 : zaB [IN ns,nD 3] = .ok (nD c3)) : ∀ (j i : Nat) (dl : List Nat) (x6 x7 x8 x9 x10 : Option DL.D),Dl rows dl n m→tot rows n dl < j→i + j≤100 →
    forF (ftN 6) zf2 ((List.range' i j).map nD) (stW ns c1 n m rows dl x6 x7 x8 x9 x10) = .rt (.bl true) := by
  intro j
  induction j with
  | zero => intro i dl x6 x7 x8 x9 x10 D h; omega
  | succ j ih =>
    intro i dl x6 x7 x8 x9 x10 D ht hij
    obtain ⟨o,o1,o2,o3⟩ := zff D
    have o3 : zaR [WD rows,TN dl] = .ok (owD o) := by rw [o3]; cases o <;> rfl
    have hb := zd5 D.R D.dn
    have hbb : (Rg.beh (Wr rows) (dOf dl) 64 (List.range n) (List.range m) [] = none)↔o≠none := by
      cases o with
      | none => obtain ⟨a1,a2⟩ := o2 rfl; exact ⟨fun z => absurd z (zj5 D a1 a2),fun z => absurd rfl z⟩
      | some w => exact ⟨fun _ => by simp,fun _ => zlc D (o1 w rfl)⟩
    generalize Rg.beh (Wr rows) (dOf dl) 64 (List.range n) (List.range m) [] = bb at hb hbb
    have call : ∀ y7 y8 y9 y10 : Option DL.D,(zaz (zab (gv 4) (zab (gv 5) lNil)) [] zaR) (stW ns c1 n m rows dl (some (nD i)) y7 y8 y9 y10) = .ok (owD o) := fun y7 y8 y9 y10 => zan (zac (d := WD rows) rfl (zac (d := TN dl) rfl zai)) o3
    have pre : ∀ s2 : FS,seqF (setF q0 7 (zaz (zab (gv 4) (zab (gv 5) lNil)) [] zaR)) (seqF (ifF q0 (fOr (zaq (f2 (zaz (zab (gv 4) (zab (gv 5) lNil)) [] zaR) (gv 7) neD)) (zaq (f2 (f2 (gv 7) (fun _ => Res.ok DL.D.non) isD) (f2 (zaz (zab (gv 4) (zab (gv 5) lNil)) [] zaK) (fun _ => Res.ok DL.D.non) isnD) neD))) (seqF (retF q0 (fun _ => Res.ok (DL.D.bl false))) zak) zak) s2) (stW ns c1 n m rows dl (some (nD i)) x7 x8 x9 x10) = s2 (stW ns c1 n m rows dl (some (nD i)) (some (owD o)) x8 x9 x10) := fun s2 => by
      refine (zad (zas (call _ _ _ _))).trans ?_
      refine zad ((if_f ?_).trans (e_skip _))
      refine (or_f (zam (zaj (a := owD o) (b := owD o) (call (some (owD o)) x8 x9 x10) rfl (zn7 o)))).trans ?_
      refine zam (zaj (zaj (a := owD o) (b := .non) rfl rfl (zlG o)) (zaj (b := .non) (zan (zac (d := WD rows) rfl (zac (d := TN dl) rfl zai)) hb) rfl (zkS bb)) ?_)
      rw [zn9]
      congr 2
      by_cases q : o = none
      · have : ¬ bb = none := fun z => hbb.mp z q
        rw [decide_eq_true q,decide_eq_false this]; rfl
      · have : bb = none := hbb.mpr q
        rw [decide_eq_false q,decide_eq_true this]; rfl
    have t7 := zam (zaj (f := gv 7) (f' := fun _ => Res.ok DL.D.non) (r := stW ns c1 n m rows dl (some (nD i)) (some (owD o)) x8 x9 x10) (a := owD o) (b := .non) rfl rfl (zlG o))
    show forF (ftN 6) zf2 (nD i::(List.range' (i + 1) j).map nD) _ = _
    cases o with
    | none =>
      rw [decide_eq_true rfl] at t7
      refine zhC (r1 := stW ns c1 n m rows dl (some (nD i)) x7 x8 x9 x10) rfl ?_
      exact (pre _).trans (zat ((if_t t7).trans (zat (zaI (d := .bl true) rfl))))
    | some w =>
      rw [decide_eq_false (by simp)] at t7
      have g := o1 w rfl
      have gl : w.hands.length≤60 := by have := g.len; have := D.R.n7; omega
      obtain ⟨D',htot⟩ := g.next D
      obtain ⟨u,u1,u2⟩ := ziC D (c3 / (i + 1))
      have u2 : zaM [WD rows,TN dl,nD (c3 / (i + 1))] = .ok (owD u) := by rw [u2]; cases u <;> rfl
      have hi := ih (i + 1) (w.by dl) (some (nD i)) (some (owD (some w))) (some (TN (w.by dl))) (some (TN (w.by dl))) (some (owD u)) D' (by omega) (by omega)
      rw [← hi]
      refine zbU (r1 := stW ns c1 n m rows dl (some (nD i)) x7 x8 x9 x10) rfl ?_
      refine (pre _).trans ?_
      refine (zad ((if_f t7).trans (e_skip _))).trans ?_
      refine (zad ((if_f (zdU (b := true) (zbY (zan (zac (d := WD rows) rfl (zac (d := TN dl) rfl (zac (d := wyD w) rfl zai))) (zkr D g)) rfl))).trans (e_skip _))).trans ?_
      refine (zad (zas (zan (zac (d := TN dl) rfl (zac (d := wyD w) rfl zai)) (ziD D g.ne g.lt gl)))).trans ?_
      refine (zad (zas (zan (zac (d := WD rows) rfl (zac (d := TN dl) rfl (zac (d := wyD w) rfl zai))) (zeg D g.ne g.lt gl)))).trans ?_
      refine (zad ((if_f ?_).trans (e_skip _))).trans ?_
      · refine (or_f (zdU (b := true) (zbY (d := .bl true) (zhd (a := TN (w.by dl)) rfl rfl) rfl))).trans ?_
        exact zam (zaj (a := TN (w.by dl)) (b := TN (w.by dl)) rfl rfl (zoa _))
      refine (zad (zas (zan (zac (d := WD rows) rfl (zac (d := TN dl) rfl (zac (zaj (b := nD (i + 1)) (zan (zac (d := IN ns) rfl (zac (d := nD 3) rfl zai)) h3) (zaj (a := nD i) (b := nD 1) rfl rfl (ze8 i 1)) (zg9 (by omega) (by omega))) zai))) u2))).trans ?_
      refine (zad ((if_f ?_).trans (e_skip _))).trans ?_
      · have t10 := zam (zaj (f := gv 10) (f' := fun _ => Res.ok DL.D.non) (r := stW ns c1 n m rows dl (some (nD i)) (some (owD (some w))) (some (TN (w.by dl))) (some (TN (w.by dl))) (some (owD u))) (a := owD u) (b := .non) rfl rfl (zmG u))
        cases u with
        | none => exact zih t10
        | some v =>
          obtain ⟨f1,f2',f3⟩ := u1 v rfl
          refine (zhj t10).trans ?_
          exact zam (zaj (a := TN (v.by dl)) (b := TN (v.by dl)) (zan (zac (d := WD rows) rfl (zac (d := TN dl) rfl (zac (d := wyD v) rfl zai))) (zeg D f1 f2' (by omega))) (zan (zac (d := TN dl) rfl (zac (d := wyD v) rfl zai)) (ziD D f1 f2' (by omega))) (zoa _))
      exact zad (zas (d := TN (w.by dl)) rfl)
theorem zpH (ns : List Int) : zmZ [IN ns] = .ok (.bl true) := by
  obtain ⟨c1,h1⟩ := zdl ns 1 (by decide)
  obtain ⟨c2,h2⟩ := zdl ns 2 (by decide)
  obtain ⟨c3,h3⟩ := zdl ns 3 (by decide)
  obtain ⟨c11,h11⟩ := zdl ns 11 (by decide)
  obtain ⟨c12,h12⟩ := zdl ns 12 (by decide)
  have hn : c1 % 7 < 7 := Nat.mod_lt _ (by decide)
  have hm : c1 / 7 % (9 - (1 + c1 % 7)) < 9 - (1 + c1 % 7) := Nat.mod_lt _ (by omega)
  obtain ⟨rows,r1,r2,r3⟩ := zhY ns 4 (1 + c1 % 7) (1 + c1 % 7 + c1 / 7 % (9 - (1 + c1 % 7))) (by omega) (by omega) (by omega)
  have hsub : subI (.int 9) (nD (1 + c1 % 7)) = some (nD (9 - (1 + c1 % 7))) := by
    have e : (9 : Int) - ((1 + c1 % 7 : Nat) : Int) = ((9 - (1 + c1 % 7) : Nat) : Int) := by omega
    show some (DL.D.int ((9 : Int) - ((1 + c1 % 7 : Nat) : Int))) = some (DL.D.int _)
    rw [e]
  generalize en : 1 + c1 % 7 = n at r1 r2 r3 hm hsub
  generalize em : n + c1 / 7 % (9 - n) = m at r2 r3
  have R : Rws rows n m := ⟨by omega,by omega,by omega,by omega,r1,r2⟩
  obtain ⟨row,p1,p2⟩ := zgU c11 m (by omega)
  have hrl : row.length = m := by rw [p1.length_eq]; simp
  have hd0 : (row.take n).length = n := by rw [List.length_take]; omega
  have D0 : Dl rows (row.take n) n m := ⟨R,hd0,(p1.nodup_iff.mpr List.nodup_range).sublist (List.take_sublist _ _),fun x hx => List.mem_range.mp (p1.mem_iff.mp (List.mem_of_mem_take hx))⟩
  obtain ⟨o12,q1,q2⟩ := zgU c12 n (by omega)
  obtain ⟨g,Dg,hg⟩ := ziB R q1
  have hnm : n * m≤56 := Nat.mul_le_mul (by omega : n≤7) (by omega : m≤8)
  refine zaU (B := zlf) (n := 11) ?_
  unfold zlf
  refine (zad (zas (zan (zac (d := IN ns) rfl (zac (d := nD 1) rfl zai)) h1))).trans ?_
  refine (zad (zas (d := nD n) (zaj (a := nD 1) (b := nD (c1 % 7)) rfl (zaj (a := nD c1) (b := nD 7) rfl rfl (zgo (by decide))) (by rw [ze8,en])))).trans ?_
  refine (zad (zas (d := nD m) (zaj (a := nD n) (b := nD (c1 / 7 % (9 - n))) rfl (zaj (a := nD (c1 / 7)) (b := nD (9 - n)) (zaj (a := nD c1) (b := nD 7) rfl rfl (zg9 (by decide) (by decide))) (zaj (a := .int 9) (b := nD n) rfl rfl hsub) (zgo (by omega))) (by rw [ze8,em])))).trans ?_
  refine (zad (zas (zan (zac (d := IN ns) rfl (zac (d := nD 4) rfl (zac (d := nD n) rfl (zac (d := nD m) rfl zai)))) r3))).trans ?_
  refine (zad (zas (d := TN (row.take n)) (zeK (zan (zac (zan (zac (d := IN ns) rfl (zac (d := nD 11) rfl zai)) h11) (zac (d := nD m) rfl zai)) p2) rfl (zdF (i := (n : Int)) rfl) (zex row n)))).trans ?_
  have t := zam (zaj (f := f2 (zaz (zab (gv 0) (zab (fun _ => Res.ok (DL.D.int 2)) lNil)) [] zaB) (fun _ => Res.ok (DL.D.int 3)) modI) (f' := fun _ => Res.ok (DL.D.int 1)) (r := stW ns c1 n m rows (row.take n) none none none none none) (b := nD 1) (zaj (b := nD 3) (zan (zac (d := IN ns) rfl (zac (d := nD 2) rfl zai)) h2) rfl (zgo (by decide))) rfl (zjJ (c2 % 3) 1))
  have hmul : mulI (nD n) (nD m) = some (nD (n * m)) := by
    rw [zi7 (.inr ⟨by omega,by omega⟩)]
    show some (DL.D.int _) = some (DL.D.int _)
    rw [Int.natCast_mul]
  have fin : ∀ dl : List Nat,Dl rows dl n m→seqF (zcf q0 (fRng rng1 (zab (f2 (fun _ => Res.ok (DL.D.int 1)) (f2 (gv 2) (gv 3) mulI) addA) lNil)) (ftN 6) zf2) (seqF (retF q0 (fun _ => Res.ok (DL.D.bl false))) zak) (stW ns c1 n m rows dl none none none none none) = .rt (.bl true) := fun dl D => by
    have hl := zmw (rows := rows) (n := n) (m := m) (ns := ns) (c1 := c1) h3 (1 + n * m) 0 dl none none none none none D (by have := znf D; omega) (by omega)
    rw [← List.range_eq_range'] at hl
    exact zat ((zbj (ds := (List.range (1 + n * m)).map nD) (zcR (zac (d := nD (1 + n * m)) (zaj (a := nD 1) (b := nD (n * m)) rfl (zaj (a := nD n) (b := nD m) rfl rfl hmul) (ze8 1 (n * m))) zai) (zdT (by omega)))).trans hl)
  by_cases q : c2 % 3 = 1
  · rw [decide_eq_true q] at t
    refine (zad ((if_t t).trans (zad (zas (zan (zac (d := WD rows) rfl (zac (zan (zac (zan (zac (d := IN ns) rfl (zac (d := nD 12) rfl zai)) h12) (zac (d := nD n) rfl zai)) q2) zai)) hg))))).trans ?_
    exact fin g Dg
  · rw [decide_eq_false q] at t
    refine (zad ((if_f t).trans (e_skip _))).trans ?_
    exact fin _ D0
end
theorem main (ns : List Int) (_ : ns.length≤63) : zmZ [.lst (ns.map .int)] = .ok (.bl true) := zpH ns
end Law
end
open PySem PySem.W PyProof.Rows
set_option maxRecDepth 100000 in
set_option maxHeartbeats 0 in
theorem PySem.Challenge.cw_ringtrade_k18_bettered_step_by_step_holds : PySem.Challenge.rw_ringtrade_k18_bettered_step_by_step.Holds := by
  w_on; o_law; k_head; (case hw => w_witness2)
  k_fill
  refine DL.zp7 (l := PySem.Challenge.rw_ringtrade_k18_bettered_step_by_step) (k := 6) (x := "_law_script") (F := Law.zmZ) rfl rfl ⟨rfl,by decide,by decide⟩ (fun w h Y => PySem.W.kIn_of Y) Law.main ?C
  intro w mg fa h KX G hmg
  have T : Law.Txt (L2.KOf KX) mg := by
    dsimp only [L2.KOf]
    refine ⟨?b_len,?b_range,?b_tuple,?b_list,?b_enumerate,?b_zip,?b_isinstance,?b_bool,?b_int,?b_all,?b_set⟩
    case b_len => (refine' PySem.W.mg_none_of KX G ?z_b_len; k_is)
    case b_range => (refine' PySem.W.mg_none_of KX G ?z_b_range; k_is)
    case b_tuple => (refine' PySem.W.mg_none_of KX G ?z_b_tuple; k_is)
    case b_list => (refine' PySem.W.mg_none_of KX G ?z_b_list; k_is)
    case b_enumerate => (refine' PySem.W.mg_none_of KX G ?z_b_enumerate; k_is)
    case b_zip => (refine' PySem.W.mg_none_of KX G ?z_b_zip; k_is)
    case b_isinstance => (refine' PySem.W.mg_none_of KX G ?z_b_isinstance; k_is)
    case b_bool => (refine' PySem.W.mg_none_of KX G ?z_b_bool; k_is)
    case b_int => (refine' PySem.W.mg_none_of KX G ?z_b_int; k_is)
    case b_all => (refine' PySem.W.mg_none_of KX G ?z_b_all; k_is)
    case b_set => (refine' PySem.W.mg_none_of KX G ?z_b_set; k_is)
  have A__law_cell : DL.DefAt (L2.KOf KX) mg "_law_cell" Law.zed := by
    dsimp only [L2.KOf]
    refine' DL.zp6 KX G ?a ?l ?c ?k
    (case a => k_is)
    (case l => k_is)
    (case c => k_is)
    (case k => k_is)
  have A__law_row : DL.DefAt (L2.KOf KX) mg "_law_row" Law.zeJ := by
    dsimp only [L2.KOf]
    refine' DL.zp6 KX G ?a ?l ?c ?k
    (case a => k_is)
    (case l => k_is)
    (case c => k_is)
    (case k => k_is)
  have A__law_wishes : DL.DefAt (L2.KOf KX) mg "_law_wishes" Law.zbH := by
    dsimp only [L2.KOf]
    refine' DL.zp6 KX G ?a ?l ?c ?k
    (case a => k_is)
    (case l => k_is)
    (case c => k_is)
    (case k => k_is)
  have A__law_worst : DL.DefAt (L2.KOf KX) mg "_law_worst" Law.zdO := by
    dsimp only [L2.KOf]
    refine' DL.zp6 KX G ?a ?l ?c ?k
    (case a => k_is)
    (case l => k_is)
    (case c => k_is)
    (case k => k_is)
  have A_likes : DL.DefAt (L2.KOf KX) mg "likes" Law.zhr := by
    dsimp only [L2.KOf]
    refine' DL.zp6 KX G ?a ?l ?c ?k
    (case a => k_is)
    (case l => k_is)
    (case c => k_is)
    (case k => k_is)
  have A_things_in : DL.DefAt (L2.KOf KX) mg "things_in" Law.zec := by
    dsimp only [L2.KOf]
    refine' DL.zp6 KX G ?a ?l ?c ?k
    (case a => k_is)
    (case l => k_is)
    (case c => k_is)
    (case k => k_is)
  have A_line_for : DL.DefAt (L2.KOf KX) mg "line_for" Law.zcK := by
    dsimp only [L2.KOf]
    refine' DL.zp6 KX G ?a ?l ?c ?k
    (case a => k_is)
    (case l => k_is)
    (case c => k_is)
    (case k => k_is)
  have A_steps_within : DL.DefAt (L2.KOf KX) mg "steps_within" Law.zbt := by
    dsimp only [L2.KOf]
    refine' DL.zp6 KX G ?a ?l ?c ?k
    (case a => k_is)
    (case l => k_is)
    (case c => k_is)
    (case k => k_is)
  have A_places_that_go_on : DL.DefAt (L2.KOf KX) mg "places_that_go_on" Law.zaT := by
    dsimp only [L2.KOf]
    refine' DL.zp6 KX G ?a ?l ?c ?k
    (case a => k_is)
    (case l => k_is)
    (case c => k_is)
    (case k => k_is)
  have A_ring_of_steps : DL.DefAt (L2.KOf KX) mg "ring_of_steps" Law.zcZ := by
    dsimp only [L2.KOf]
    refine' DL.zp6 KX G ?a ?l ?c ?k
    (case a => k_is)
    (case l => k_is)
    (case c => k_is)
    (case k => k_is)
  have A_hands_envied : DL.DefAt (L2.KOf KX) mg "hands_envied" Law.zbu := by
    dsimp only [L2.KOf]
    refine' DL.zp6 KX G ?a ?l ?c ?k
    (case a => k_is)
    (case l => k_is)
    (case c => k_is)
    (case k => k_is)
  have A_ring_for : DL.DefAt (L2.KOf KX) mg "ring_for" Law.zeH := by
    dsimp only [L2.KOf]
    refine' DL.zp6 KX G ?a ?l ?c ?k
    (case a => k_is)
    (case l => k_is)
    (case c => k_is)
    (case k => k_is)
  have A_betterment : DL.DefAt (L2.KOf KX) mg "betterment" Law.zdN := by
    dsimp only [L2.KOf]
    refine' DL.zp6 KX G ?a ?l ?c ?k
    (case a => k_is)
    (case l => k_is)
    (case c => k_is)
    (case k => k_is)
  have A__law_things_got : DL.DefAt (L2.KOf KX) mg "_law_things_got" Law.za4 := by
    dsimp only [L2.KOf]
    refine' DL.zp6 KX G ?a ?l ?c ?k
    (case a => k_is)
    (case l => k_is)
    (case c => k_is)
    (case k => k_is)
  have A__law_by : DL.DefAt (L2.KOf KX) mg "_law_by" Law.zfl := by
    dsimp only [L2.KOf]
    refine' DL.zp6 KX G ?a ?l ?c ?k
    (case a => k_is)
    (case l => k_is)
    (case c => k_is)
    (case k => k_is)
  have A_ones_behind : DL.DefAt (L2.KOf KX) mg "ones_behind" Law.zdu := by
    dsimp only [L2.KOf]
    refine' DL.zp6 KX G ?a ?l ?c ?k
    (case a => k_is)
    (case l => k_is)
    (case c => k_is)
    (case k => k_is)
  have A_things_along : DL.DefAt (L2.KOf KX) mg "things_along" Law.zbs := by
    dsimp only [L2.KOf]
    refine' DL.zp6 KX G ?a ?l ?c ?k
    (case a => k_is)
    (case l => k_is)
    (case c => k_is)
    (case k => k_is)
  have A_bettered : DL.DefAt (L2.KOf KX) mg "bettered" Law.zeI := by
    dsimp only [L2.KOf]
    refine' DL.zp6 KX G ?a ?l ?c ?k
    (case a => k_is)
    (case l => k_is)
    (case c => k_is)
    (case k => k_is)
  have A__law_other_way : DL.DefAt (L2.KOf KX) mg "_law_other_way" Law.zau := by
    dsimp only [L2.KOf]
    refine' DL.zp6 KX G ?a ?l ?c ?k
    (case a => k_is)
    (case l => k_is)
    (case c => k_is)
    (case k => k_is)
  have A__law_likes : DL.DefAt (L2.KOf KX) mg "_law_likes" Law.zdP := by
    dsimp only [L2.KOf]
    refine' DL.zp6 KX G ?a ?l ?c ?k
    (case a => k_is)
    (case l => k_is)
    (case c => k_is)
    (case k => k_is)
  have A__law_is_whole : DL.DefAt (L2.KOf KX) mg "_law_is_whole" Law.zc0 := by
    dsimp only [L2.KOf]
    refine' DL.zp6 KX G ?a ?l ?c ?k
    (case a => k_is)
    (case l => k_is)
    (case c => k_is)
    (case k => k_is)
  have A__law_is_way : DL.DefAt (L2.KOf KX) mg "_law_is_way" Law.zbI := by
    dsimp only [L2.KOf]
    refine' DL.zp6 KX G ?a ?l ?c ?k
    (case a => k_is)
    (case l => k_is)
    (case c => k_is)
    (case k => k_is)
  have A__law_best : DL.DefAt (L2.KOf KX) mg "_law_best" Law.zee := by
    dsimp only [L2.KOf]
    refine' DL.zp6 KX G ?a ?l ?c ?k
    (case a => k_is)
    (case l => k_is)
    (case c => k_is)
    (case k => k_is)
  have A__law_order_behind : DL.DefAt (L2.KOf KX) mg "_law_order_behind" Law.zb2 := by
    dsimp only [L2.KOf]
    refine' DL.zp6 KX G ?a ?l ?c ?k
    (case a => k_is)
    (case l => k_is)
    (case c => k_is)
    (case k => k_is)
  have A_law : DL.DefAt (L2.KOf KX) mg "law" Law.zll := by
    dsimp only [L2.KOf]
    refine' DL.zp6 KX G ?a ?l ?c ?k
    (case a => k_is)
    (case l => k_is)
    (case c => k_is)
    (case k => k_is)
  refine DL.zp5 hmg A_law (fun _ _ _ _ _ _ us hl => match us,hl with | [_],_ => rfl) fun f fd Fn base => ?_
  have C__law_cell := Law.zlx (P := PySem.Challenge.rw_ringtrade_k18_bettered_step_by_step.prog) (w := w) (base := base) T A__law_cell
  have C__law_row := Law.zmu (P := PySem.Challenge.rw_ringtrade_k18_bettered_step_by_step.prog) (w := w) (base := base) T A__law_row
  have C__law_wishes := Law.zkf (P := PySem.Challenge.rw_ringtrade_k18_bettered_step_by_step.prog) (w := w) (base := base) T A__law_wishes C__law_cell C__law_row
  have C__law_worst := Law.zkG (P := PySem.Challenge.rw_ringtrade_k18_bettered_step_by_step.prog) (w := w) (base := base) T A__law_worst
  have C_likes := Law.zo2 (P := PySem.Challenge.rw_ringtrade_k18_bettered_step_by_step.prog) (w := w) (base := base) T A_likes
  have C_things_in := Law.zlw (P := PySem.Challenge.rw_ringtrade_k18_bettered_step_by_step.prog) (w := w) (base := base) T A_things_in
  have C_line_for := Law.zms (P := PySem.Challenge.rw_ringtrade_k18_bettered_step_by_step.prog) (w := w) (base := base) T A_line_for C_things_in C_likes
  have C_steps_within := Law.zi1 (P := PySem.Challenge.rw_ringtrade_k18_bettered_step_by_step.prog) (w := w) (base := base) T A_steps_within
  have C_places_that_go_on := Law.zgK (P := PySem.Challenge.rw_ringtrade_k18_bettered_step_by_step.prog) (w := w) (base := base) T A_places_that_go_on C_steps_within
  have C_ring_of_steps := Law.zij (P := PySem.Challenge.rw_ringtrade_k18_bettered_step_by_step.prog) (w := w) (base := base) T A_ring_of_steps C_places_that_go_on C_steps_within
  have C_hands_envied := Law.zi2 (P := PySem.Challenge.rw_ringtrade_k18_bettered_step_by_step.prog) (w := w) (base := base) T A_hands_envied C_likes
  have C_ring_for := Law.zmr (P := PySem.Challenge.rw_ringtrade_k18_bettered_step_by_step.prog) (w := w) (base := base) T A_ring_for C_hands_envied C_ring_of_steps
  have C_betterment := Law.zkF (P := PySem.Challenge.rw_ringtrade_k18_bettered_step_by_step.prog) (w := w) (base := base) T A_betterment C_line_for C_ring_for
  have C__law_things_got := Law.zhy (P := PySem.Challenge.rw_ringtrade_k18_bettered_step_by_step.prog) (w := w) (base := base) T A__law_things_got
  have C__law_by := Law.zm1 (P := PySem.Challenge.rw_ringtrade_k18_bettered_step_by_step.prog) (w := w) (base := base) T A__law_by C__law_things_got
  have C_ones_behind := Law.zke (P := PySem.Challenge.rw_ringtrade_k18_bettered_step_by_step.prog) (w := w) (base := base) T A_ones_behind
  have C_things_along := Law.zi0 (P := PySem.Challenge.rw_ringtrade_k18_bettered_step_by_step.prog) (w := w) (base := base) T A_things_along C_ones_behind
  have C_bettered := Law.zmt (P := PySem.Challenge.rw_ringtrade_k18_bettered_step_by_step.prog) (w := w) (base := base) T A_bettered C_things_along
  have C__law_other_way := Law.zh6 (P := PySem.Challenge.rw_ringtrade_k18_bettered_step_by_step.prog) (w := w) (base := base) T A__law_other_way
  have C__law_likes := Law.zkH (P := PySem.Challenge.rw_ringtrade_k18_bettered_step_by_step.prog) (w := w) (base := base) T A__law_likes
  have C__law_is_whole := Law.zik (P := PySem.Challenge.rw_ringtrade_k18_bettered_step_by_step.prog) (w := w) (base := base) T A__law_is_whole
  have C__law_is_way := Law.zkg (P := PySem.Challenge.rw_ringtrade_k18_bettered_step_by_step.prog) (w := w) (base := base) T A__law_is_way C__law_is_whole C__law_things_got C__law_likes
  have C__law_best := Law.zly (P := PySem.Challenge.rw_ringtrade_k18_bettered_step_by_step.prog) (w := w) (base := base) T A__law_best
  have C__law_order_behind := Law.zgL (P := PySem.Challenge.rw_ringtrade_k18_bettered_step_by_step.prog) (w := w) (base := base) T A__law_order_behind C__law_best
  exact Law.zp4 T Fn C__law_cell C__law_wishes C__law_row C__law_worst C_betterment C__law_order_behind C__law_is_way C__law_by C_bettered C__law_other_way
