import PyProof.Rows.All
import Wide.All
import OpenK.AllK
import Wide.FinOn
import Lean
import PyProof.EqAt
import PyProof.EqKinds
import PyProof.TupleCall
import PyProof.Rows.SetFrom
import KE.KSortTup
import PyProof.Draws
import PyProof.EnumMake
import PyProof.ListRange
import PyProof.Rows.EnumRows
import PyProof.SetRoads
import PyProof.Rows.MinMaxN
import PyProof.Rows.MaxTwoN
import PyProof.ZipIter
import PySem.Challenge.RW_ringtrade_k28_eaten_shares_known
set_option Elab.async false
set_option linter.all false
set_option maxRecDepth 100000
set_option maxHeartbeats 4000000
section
namespace L2
open PySem PySem.Spec PyProof.Rows
noncomputable abbrev Key := Sum Int Str
noncomputable def zh5 : Key→Value→Bool
  | .inl k,v => Value.isInt k v
  | .inr x,v => Value.isStrOf x v
noncomputable def keyH (w : World) : Key→Int
  | .inl k => hashInt k
  | .inr x => hashStr w x
theorem keyIs_shape : ∀ {k : Key} {v : Value},zh5 k v = true→(∃ i t,k = Sum.inl i∧v = Value.int i t)∨(∃ x t,k = Sum.inr x∧v = Value.str x t)
  | .inl i,v,h => by
    obtain ⟨t,e⟩ := Value.isInt_shape (k := i) (v := v) h
    exact .inl ⟨i,t,rfl,e⟩
  | .inr x,v,h => by
    obtain ⟨t,e⟩ := Value.isStrOf_shape (x := x) (v := v) h
    exact .inr ⟨x,t,rfl,e⟩
theorem zjw (i : Int) (t : Tok) : zh5 (.inl i) (.int i t) = true := by simp [zh5,Value.isInt]
theorem zjv (x : Str) (t : Tok) : zh5 (.inr x) (.str x t) = true := by simp [zh5,Value.isStrOf]
theorem zpb (a b : Int) : decide ((Sum.inl a : Key) = Sum.inl b) = (a == b) := by
  by_cases e : a = b
  · subst e; simp
  · have h : ¬ (Sum.inl a : Key) = Sum.inl b := fun q => e (Sum.inl.inj q)
    rw [decide_eq_false h]
    exact (beq_eq_false_iff_ne.mpr e).symm
theorem zo8 (a b : Str) : decide ((Sum.inr a : Key) = Sum.inr b) = decide (a = b) := by
  by_cases e : a = b
  · subst e; simp
  · have h : ¬ (Sum.inr a : Key) = Sum.inr b := fun q => e (Sum.inr.inj q)
    rw [decide_eq_false h,decide_eq_false e]
theorem zpa (a : Int) (b : Str) : decide ((Sum.inl a : Key) = Sum.inr b) = false := decide_eq_false (fun q => nomatch q)
theorem zo9 (a : Str) (b : Int) : decide ((Sum.inr a : Key) = Sum.inl b) = false := decide_eq_false (fun q => nomatch q)
noncomputable def za4 (prog : Program) (w : World) : PySem.KeyKind prog w Key where
  is := zh5
  hash := keyH w
  inj := fun v a b ha hb => by
    rcases keyIs_shape ha with ⟨i,t,rfl,rfl⟩ | ⟨x,t,rfl,rfl⟩
    · rcases keyIs_shape hb with ⟨j,u,rfl,e⟩ | ⟨y,u,rfl,e⟩
      · injection e with e1 _; rw [e1]
      · exact nomatch e
    · rcases keyIs_shape hb with ⟨j,u,rfl,e⟩ | ⟨y,u,rfl,e⟩
      · exact nomatch e
      · injection e with e1 _; rw [e1]
  byValue := fun k v h => by
    rcases keyIs_shape h with ⟨i,t,rfl,rfl⟩ | ⟨x,t,rfl,rfl⟩ <;> rfl
  pyHash := fun hv h => by
    rcases keyIs_shape hv with ⟨i,t,rfl,rfl⟩ | ⟨x,t,rfl,rfl⟩
    · exact wpAny_pyHash_int h
    · exact wpAny_pyHash_str h
  eqBool := fun hu hv h => by
    rcases keyIs_shape hu with ⟨i,t,rfl,rfl⟩ | ⟨x,t,rfl,rfl⟩
    · rcases keyIs_shape hv with ⟨j,u,rfl,rfl⟩ | ⟨y,u,rfl,rfl⟩
      · rw [zpb] at h; exact wpAny_eqBool_int h
      · rw [zpa] at h; exact SeqAt.EqAt.int_str i t y u _ _ _ _ h
    · rcases keyIs_shape hv with ⟨j,u,rfl,rfl⟩ | ⟨y,u,rfl,rfl⟩
      · rw [zo9] at h; exact SeqAt.EqAt.str_int x t j u _ _ _ _ h
      · rw [zo8] at h; exact wpAny_eqBool_str h
  «strs» := fun k x t v h => by
    rcases keyIs_shape h with ⟨i,u,rfl,e⟩ | ⟨y,u,rfl,e⟩
    · exact nomatch e
    · injection e with e1 _
      subst e1
      cases v <;> rfl
theorem zgR (prog : Program) (w : World) (i : Int) (t : Tok) : (za4 prog w).is (.inl i) (.int i t) = true := zjw i t
theorem zgQ (prog : Program) (w : World) (x : Str) (t : Tok) : (za4 prog w).is (.inr x) (.str x t) = true := zjv x t
end L2
namespace L2
open PySem PySem.Spec PyProof.Rows
inductive V where
  | non | bl (b : Bool) | int (i : Int) | str (x : Str) | byt (b : Array UInt8) | flt (b : UInt64) | ref (a : Addr) | ty (n : String)
  deriving DecidableEq
noncomputable def RelV : V→Value→Prop
  | .non,u => u = Value.none
  | .bl b,u => u = Value.bool b
  | .int i,u => ∃ t,u = Value.int i t
  | .str x,u => ∃ t,u = Value.str x t
  | .byt b,u => ∃ t,u = Value.bytes b t
  | .flt b,u => ∃ t,u = Value.float b t
  | .ref a,u => u = Value.ref a
  | .ty n,u => u = Value.type n
noncomputable abbrev Vals : List V→List Value→Prop := Paired RelV
theorem Vals.length {xs : List V} {us : List Value} (r : Vals xs us) : xs.length = us.length := Paired.length r
theorem Vals.get : ∀ {xs : List V} {us : List Value} {i : Nat} {x : V},Vals xs us→xs[i]? = some x→∃ u,us[i]? = some u∧RelV x u
  | _,_,_,_,.nil,e => by simp at e
  | _,_,0,_,.cons r _,e => by simp at e; subst e; exact ⟨_,rfl,r⟩
  | _,_,i + 1,x,.cons _ t,e => by
    obtain ⟨u,h1,h2⟩ := Vals.get (i := i) (x := x) t (by simpa using e)
    exact ⟨u,by simpa using h1,h2⟩
theorem Vals.set {x : V} {u : Value} (r : RelV x u) : ∀ {xs : List V} {us : List Value} (i : Nat),Vals xs us→Vals (xs.set i x) (us.set i u)
  | _,_,_,.nil => .nil
  | _,_,0,.cons _ t => .cons r t
  | _,_,i + 1,.cons q t => .cons q (Vals.set r i t)
theorem Vals.append {xs ys : List V} {us ws : List Value} (h : Vals xs us) (h' : Vals ys ws) : Vals (xs++ys) (us++ws) := by
  induction h with
  | nil => exact h'
  | cons r _ ih => exact .cons r ih
theorem Vals.take : ∀ {xs : List V} {us : List Value} (n : Nat),Vals xs us→Vals (xs.take n) (us.take n)
  | _,_,0,_ => .nil
  | _,_,_ + 1,.nil => .nil
  | _,_,n + 1,.cons r t => .cons r (Vals.take n t)
theorem Vals.drop : ∀ {xs : List V} {us : List Value} (n : Nat),Vals xs us→Vals (xs.drop n) (us.drop n)
  | _,_,0,r => r
  | _,_,_ + 1,.nil => .nil
  | _,_,n + 1,.cons _ t => Vals.drop n t
noncomputable def RelO : Option V→Option Value→Prop
  | some v,some u => RelV v u
  | none,none => True
  | _,_ => False
noncomputable def KV {κ : Type} : List (κ × V)→List (κ × Value)→Prop := Paired fun (p : κ × V) (q : κ × Value) => p.1 = q.1∧RelV p.2 q.2
noncomputable def kV : Key→V
  | .inl i => .int i
  | .inr x => .str x
inductive HO where
  | lst (xs : List V)
  | tup (xs : List V)
  | dK (kvs : List (Key × V)) | dT (kvs : List (List Key × V))
  | set (S : Int→Bool) (n : Nat)
  | ins (C dx : Addr) (fs : List (Str × V))
  | own (x : Addr)
  | xd (fs : List (Str × V))
  | met (f x : Addr)
  | rng (lo hi : Int)
  | frz (o : Obj) (u : HO)
  | tbl (ps : Array Value)
  | ext (φ : Heap→Prop)
noncomputable abbrev Hp := Addr→Option HO
noncomputable def upd (H : Hp) (a : Addr) (o : HO) : Hp := fun b => if b = a then some o else H b
theorem zan {H : Hp} {a : Addr} {o : HO} : upd H a o a = some o := by unfold upd; rw [if_pos rfl]
theorem zal {H : Hp} {a b : Addr} {o : HO} (h : b≠a) : upd H a o b = H b := by unfold upd; rw [if_neg h]
theorem zqy {H : Hp} {a b : Addr} {o u : HO} (h : H a = some o) (h' : H b = some u) (d : o≠u) : a≠b := by
  intro e; subst e; rw [h] at h'; exact d (Option.some.inj h')
theorem zbc {H : Hp} {a b : Addr} {o : HO} (h : H a = some o) (h' : H b = none) : a≠b := by
  intro e; subst e; rw [h] at h'; cases h'
section
variable (P : Program) (w : World)
noncomputable def za8 (H : Hp) (h : Heap) (a : Addr) : HO→Prop
  | .lst xs => xs.length≤sizeLine∧∃ (its : List Value) (n : Nat),Vals xs its∧h.get? a = some { cls := .type "list",data := .seq its.toArray n }
  | .tup xs => xs.length≤sizeLine∧∃ its : List Value,Vals xs its∧IsTup h a its.toArray∧∃ o,h.get? a = some o∧o.dict = none
  | .dK kvs => kvs.length≤sizeLine∧(a == sysModules) = false∧∃ vs,KV kvs vs∧h.DictOf (za4 P w) a vs
  | .dT kvs => kvs.length≤sizeLine∧(a == sysModules) = false∧∃ xs : List (List Key × Addr × Value),
      Paired (fun (p : List Key × V) (q : List Key × Addr × Value) => p.1 = q.1∧H q.2.1 = some (.tup (p.1.map kV))∧RelV p.2 q.2.2) kvs xs ∧
      ∃ o es ep,h.get? a = some o∧o.ExactDict∧o.data = .dict es ep∧es.toList = xs.map (entryOfKey (tupleKind (za4 P w)))∧(xs.map (·.1)).Nodup
  | .set S n => h.SetOf (intKind P w) a S n
  | .ins C dx fs => H dx = some (.own a)∧fs.length≤1000∧dx≠a∧h.get? a = some (PySem.W.instObj C dx) ∧
      ∃ mA,h.Ns1 dx mA∧(∀ f,RelO (fs.lookup f) (mA f))∧PySem.Within mA (fs.map (·.1))
  | .own _ => ∃ o,h.get? a = some o
  | .xd fs => ∃ mA,h.Ns1 a mA∧∀ f,RelO (fs.lookup f) (mA f)
  | .rng lo hi => ∃ t u v,h.get? a = some { cls := .type "range",data := .fields #[.int lo t,.int hi u,.int 1 v] }
  | .frz o u => h.get? a = some o∧za8 H h a u
  | .tbl ps => h.get? a = some { cls := .none,data := .fields ps }
  | .met f x => h.get? a = some (PySem.W.methodObj (.ref f) (.ref x))
  | .ext φ => φ h∧(∃ o,h.get? a = some o)∧∀ h1 h2 : Heap,φ h1→(∀ o,h1.get? a = some o→h2.get? a = some o)→φ h2
noncomputable def HOk (H : Hp) (h : Heap) : Prop := ∀ a o,H a = some o→za8 P w H h a o
end
section
variable {P : Program} {w : World} {H H' : Hp} {h h' : Heap} {a : Addr} {o : HO}
theorem za8.lt (x : za8 P w H h a o) : a < h.objs.size := by
  cases o with
  | lst xs => obtain ⟨_,_,_,_,e⟩ := x; exact Heap.lt_size e
  | tup xs => obtain ⟨_,_,_,p,_⟩ := x; exact p.lt
  | dK kvs => obtain ⟨_,_,_,_,o,_,_,e,_⟩ := x; exact Heap.lt_size e
  | dT kvs => obtain ⟨_,_,_,_,o,_,_,e,_⟩ := x; exact Heap.lt_size e
  | set S n => obtain ⟨o,_,_,_,e,_⟩ := x; exact Heap.lt_size e
  | ins C dx fs => obtain ⟨_,_,_,e,_⟩ := x; exact Heap.lt_size e
  | own y => obtain ⟨_,e⟩ := x; exact Heap.lt_size e
  | xd fs => obtain ⟨_,⟨_,_,_,e,_⟩,_⟩ := x; exact Heap.lt_size e
  | rng lo hi => obtain ⟨_,_,_,e⟩ := x; exact Heap.lt_size e
  | frz ob u => obtain ⟨e,_⟩ := x; exact Heap.lt_size e
  | tbl ps => exact Heap.lt_size (show h.get? a = some _ from x)
  | met f y => exact Heap.lt_size (show h.get? a = some _ from x)
  | ext φ => obtain ⟨_,⟨_,e⟩,_⟩ := x; exact Heap.lt_size e
theorem Paired.mapP {α β : Type} {F G : α→β→Prop} {l₁ : List α} {l₂ : List β} (h : Paired F l₁ l₂) (f : ∀ a b,F a b→G a b) : Paired G l₁ l₂ := by
  induction h with
  | nil => exact .nil
  | cons r _ ih => exact .cons (f _ _ r) ih
theorem za8.stay (x : za8 P w H h a o) (k : ∀ b u,(b = a∨H b = some (.own a))→h.get? b = some u→h'.get? b = some u)
    (ho : ∀ b,H b = some (.own a)→H' b = some (.own a)) (ht : ∀ b xs,H b = some (.tup xs)→H' b = some (.tup xs)) : za8 P w H' h' a o := by
  induction o with
  | lst xs => obtain ⟨z,its,n,r,e⟩ := x; exact ⟨z,its,n,r,k _ _ (.inl rfl) e⟩
  | tup xs => obtain ⟨z,its,r,⟨ob,e,c⟩,ob2,e2,c2⟩ := x; exact ⟨z,its,r,⟨ob,k _ _ (.inl rfl) e,c⟩,ob2,k _ _ (.inl rfl) e2,c2⟩
  | dK kvs => obtain ⟨z,y,vs,r,ob,es,ep,e,c⟩ := x; exact ⟨z,y,vs,r,ob,es,ep,k _ _ (.inl rfl) e,c⟩
  | dT kvs =>
    obtain ⟨z,y,xs,r,ob,es,ep,e,c⟩ := x
    exact ⟨z,y,xs,Paired.mapP r fun p q z => ⟨z.1,ht _ _ z.2.1,z.2.2⟩,ob,es,ep,k _ _ (.inl rfl) e,c⟩
  | set S n => obtain ⟨ob,es,ep,t,e,c⟩ := x; exact ⟨ob,es,ep,t,k _ _ (.inl rfl) e,c⟩
  | ins C dx fs =>
    obtain ⟨d,z,ne,e,mA,⟨od,es,ep,e2,c⟩,r⟩ := x
    exact ⟨ho _ d,z,ne,k _ _ (.inl rfl) e,mA,⟨od,es,ep,k _ _ (.inr d) e2,c⟩,r⟩
  | own y => obtain ⟨ob,e⟩ := x; exact ⟨ob,k _ _ (.inl rfl) e⟩
  | xd fs => obtain ⟨mA,⟨od,es,ep,e,c⟩,r⟩ := x; exact ⟨mA,⟨od,es,ep,k _ _ (.inl rfl) e,c⟩,r⟩
  | rng lo hi => obtain ⟨t,u,v,e⟩ := x; exact ⟨t,u,v,k _ _ (.inl rfl) e⟩
  | frz ob u ih => obtain ⟨e,q⟩ := x; exact ⟨k _ _ (.inl rfl) e,ih q⟩
  | tbl ps =>
    have e : h.get? a = some { cls := .none,data := .fields ps } := x
    show h'.get? a = some { cls := .none,data := .fields ps }
    exact k a _ (.inl rfl) e
  | met f y =>
    have e : h.get? a = some (PySem.W.methodObj (.ref f) (.ref y)) := x
    show h'.get? a = some (PySem.W.methodObj (.ref f) (.ref y))
    exact k a _ (.inl rfl) e
  | ext φ => obtain ⟨p,⟨o,e⟩,st⟩ := x; exact ⟨st _ _ p fun o q => k _ _ (.inl rfl) q,⟨o,k _ _ (.inl rfl) e⟩,st⟩
theorem HOk.lt (x : HOk P w H h) (e : H a = some o) : a < h.objs.size := (x a o e).lt
theorem HOk.fresh (x : HOk P w H h) (e : h.objs.size≤a) : H a = none := by
  cases q : H a with
  | none => rfl
  | some u => exact absurd (Nat.lt_of_lt_of_le (x.lt q) e) (Nat.lt_irrefl _)
theorem HOk.kept (x : HOk P w H h) (k : ∀ b u,h.get? b = some u→h'.get? b = some u) : HOk P w H h' := fun a o e =>
  (x a o e).stay (fun b u _ q => k b u q) (fun _ q => q) fun _ _ q => q
theorem HOk.laid (x : HOk P w H h) (k : ∀ b u,h.get? b = some u→h'.get? b = some u) (hp : h.objs.size≤a) (new : za8 P w (upd H a o) h' a o) : HOk P w (upd H a o) h' := fun b u e => by
  have hn := x.fresh hp
  by_cases hb : b = a
  · subst hb; rw [zan] at e; cases e; exact new
  · rw [zal hb] at e
    exact (x b u e).stay (fun c v _ q => k c v q) (fun c q => by rw [zal (zbc q hn)]; exact q) fun c xs q => by rw [zal (zbc q hn)]; exact q
end
noncomputable def Rd (H : Hp) (a : Addr) (u : HO) : Prop := H a = some u∨∃ o,H a = some (.frz o u)
theorem Rd.ok {P : Program} {w : World} {H : Hp} {h : Heap} {a : Addr} {u : HO} (r : Rd H a u) (x : HOk P w H h) : za8 P w H h a u := by
  rcases r with r | ⟨o,r⟩
  · exact x a u r
  · obtain ⟨_,q⟩ := x a _ r
    exact q
noncomputable def Mut : Option HO→Prop
  | some (.lst _) => True
  | some (.dK _) => True
  | some (.dT _) => True
  | some (.set _ _) => True
  | some (.ins _ _ _) => True
  | some (.ext _) => True
  | _ => False
section
variable {P : Program} {w : World} {H : Hp} {h h' : Heap} {x e : Addr} {o' : HO}
theorem HOk.write (ok : HOk P w H h) (mu : Mut (H x)) (he : e = x∨H e = some (.own x)) (k : ∀ b u,b≠e→h.get? b = some u→h'.get? b = some u) (heo : ∃ u,h'.get? e = some u)
    (new : za8 P w (upd H x o') h' x o') : HOk P w (upd H x o') h' := fun b u q => by
  have nown : ∀ c y,H c = some (.own y)→c≠x := fun c y r z => by subst z; rw [r] at mu; exact mu
  have ntup : ∀ c xs,H c = some (.tup xs)→c≠x := fun c xs r z => by subst z; rw [r] at mu; exact mu
  by_cases hb : b = x
  · subst hb; rw [zan] at q; cases q; exact new
  · rw [zal hb] at q
    by_cases hbe : b = e
    · have q' : H b = some (.own x) := by
        rcases he with z | z
        · exact absurd (hbe.trans z) hb
        · rw [hbe]; exact z
      rw [q] at q'; cases q'
      obtain ⟨v,hv⟩ := heo
      exact ⟨v,by rw [hbe]; exact hv⟩
    · refine (ok b u q).stay (fun c v hc r => k c v ?_ r) (fun c r => by rw [zal (nown c b r)]; exact r) fun c xs r => by rw [zal (ntup c xs r)]; exact r
      rcases hc with rfl | hc
      · exact hbe
      · rintro rfl
        rcases he with z | z
        · exact nown c b hc z
        · rw [hc] at z; cases z; exact hb rfl
end
structure Un (fs ex : List Addr) (H H' : Hp) (h h' : Heap) : Prop where
  keep : ∀ b o,h.get? b = some o→H b = none→b∉fs→b∉ex→h'.get? b = some o
  slot : ∀ b o,h.get? b = some o→H b = none→b∈fs→b∉ex→∃ sl,h'.get? b = some { o with slots := sl }
  free : ∀ b o,h.get? b = some o→H b = none→b∉ex→H' b = none
  there : ∀ b o,h.get? b = some o→b∉ex→∃ o',h'.get? b = some o'
  tups : ∀ b xs,H b = some (.tup xs)→H' b = some (.tup xs)
  frzs : ∀ b o u,H b = some (.frz o u)→H' b = some (.frz o u)
  tbls : ∀ b ps,H b = some (.tbl ps)→∃ more,H' b = some (.tbl (ps++more))
section
variable {fs fs' ex ex' : List Addr} {H H1 H2 : Hp} {h h1 h2 h' : Heap} {a x e : Addr} {o : HO}
theorem Un.any (u : Un fs ex H H1 h h1) {b : Addr} {ob : Obj} (q : h.get? b = some ob) (n : H b = none) (hx : b∉ex) : ∃ sl,h1.get? b = some { ob with slots := sl } := by
  by_cases hb : b∈fs
  · exact u.slot b ob q n hb hx
  · exact ⟨ob.slots,u.keep b ob q n hb hx⟩
theorem Un.trans (a : Un fs ex H H1 h h1) (b : Un fs ex H1 H2 h1 h2) : Un fs ex H H2 h h2 where
  keep := fun c ob q n hc hx => b.keep c ob (a.keep c ob q n hc hx) (a.free c ob q n hx) hc hx
  slot := fun c ob q n hc hx => by
    obtain ⟨sl,e1⟩ := a.slot c ob q n hc hx
    obtain ⟨sl',e2⟩ := b.slot c _ e1 (a.free c ob q n hx) hc hx
    exact ⟨sl',e2⟩
  free := fun c ob q n hx => by
    obtain ⟨o',e1⟩ := a.there c ob q hx
    exact b.free c o' e1 (a.free c ob q n hx) hx
  there := fun c ob q hx => by
    obtain ⟨o',e1⟩ := a.there c ob q hx
    exact b.there c o' e1 hx
  tups := fun c xs q => b.tups c xs (a.tups c xs q)
  frzs := fun c ob xs q => b.frzs c ob xs (a.frzs c ob xs q)
  tbls := fun c ps q => by
    obtain ⟨m1,e1⟩ := a.tbls c ps q
    obtain ⟨m2,e2⟩ := b.tbls c _ e1
    exact ⟨m1++m2,by rw [e2,Array.append_assoc]⟩
theorem Un.kept (k : ∀ b u,h.get? b = some u→h'.get? b = some u) : Un fs ex H H h h' :=
  ⟨fun b ob q _ _ _ => k b ob q,fun b ob q _ _ _ => ⟨ob.slots,k b ob q⟩,fun _ _ _ n _ => n,fun b ob q _ => ⟨ob,k b ob q⟩,fun _ _ q => q,fun _ _ _ q => q,fun _ ps q => ⟨#[],by rw [q]; simp⟩⟩
theorem Un.refl : Un fs ex H H h h := Un.kept fun _ _ q => q
theorem Un.laid (k : ∀ b u,h.get? b = some u→h'.get? b = some u) (hp : h.objs.size≤a) (hn : H a = none) : Un fs ex H (upd H a o) h h' where
  keep := fun b u q _ _ _ => k b u q
  slot := fun b u q _ _ _ => ⟨u.slots,k b u q⟩
  free := fun b u q n _ => by rw [zal (Nat.ne_of_lt (Nat.lt_of_lt_of_le (Heap.lt_size q) hp))]; exact n
  there := fun b u q _ => ⟨u,k b u q⟩
  tups := fun b xs q => by rw [zal (zbc q hn)]; exact q
  frzs := fun b u xs q => by rw [zal (zbc q hn)]; exact q
  tbls := fun b ps q => ⟨#[],by rw [zal (zbc q hn),q]; simp⟩
theorem Un.write (mu : Mut (H x)) (he : e = x∨H e = some (.own x)) (k : ∀ b u,b≠e→h.get? b = some u→h'.get? b = some u) (heo : ∃ u,h'.get? e = some u) : Un fs ex H (upd H x o) h h' := by
  have hx : ∀ b,H b = none→b≠x := fun b n z => by subst z; rw [n] at mu; exact mu
  have hb : ∀ b,H b = none→b≠e := fun b n z => by
    subst z
    rcases he with r | r
    · exact hx b n r
    · rw [n] at r; cases r
  have hm : ∀ b u,H b = some u→¬ Mut (some u)→b≠x := fun b u q nm z => by subst z; rw [q] at mu; exact nm mu
  refine ⟨fun b u q n _ _ => k b u (hb b n) q,fun b u q n _ _ => ⟨u.slots,k b u (hb b n) q⟩,fun b u q n _ => by rw [zal (hx b n)]; exact n,fun b u q _ => ?_,
    fun b xs q => by rw [zal (hm b _ q fun z => z)]; exact q,fun b u xs q => by rw [zal (hm b _ q fun z => z)]; exact q,fun b ps q => ⟨#[],by rw [zal (hm b _ q fun z => z),q]; simp⟩⟩
  by_cases hbe : b = e
  · subst hbe; exact heo
  · exact ⟨u,k b u hbe q⟩
theorem Un.mono (u : Un fs ex H H1 h h1) (hs : ∀ b∈fs,b∈fs') (hx : ∀ b∈ex,b∈ex') : Un fs' ex' H H1 h h1 :=
  ⟨fun b ob q n hb he => u.keep b ob q n (fun z => hb (hs b z)) fun z => he (hx b z),fun _ _ q n _ he => u.any q n fun z => he (hx _ z),fun b ob q n he => u.free b ob q n fun z => he (hx b z),fun b ob q he => u.there b ob q fun z => he (hx b z),u.tups,u.frzs,u.tbls⟩
end
noncomputable def trk (h : Heap) (H : Hp) : List Addr := (List.range h.objs.size).filter fun a => (H a).isSome
noncomputable def hidT (h : Heap) (H : Hp) : Heap := PySem.W.hideAll h (trk h H)
theorem zjI (h : Heap) (H : Hp) : (hidT h H).objs.size = h.objs.size := PySem.W.hideAll_size _ _
theorem zk5 {h : Heap} {H : Hp} {b : Addr} {o : Obj} (e : h.get? b = some o) (n : H b = none) : (hidT h H).get? b = some o :=
  PySem.W.hideAll_get _ e fun hm => by
    have q : (H b).isSome = true := (List.mem_filter.mp hm).2
    rw [n] at q; simp at q
theorem zmU {h : Heap} {H : Hp} {b : Addr} {o : Obj} (e : (hidT h H).get? b = some o) : h.get? b = some o∧H b = none := by
  have e' : h.get? b = some o := PySem.W.of_hideAll (trk h H) e
  refine ⟨e',?_⟩
  cases q : H b with
  | none => rfl
  | some x =>
    have hm : b∈trk h H := List.mem_filter.mpr ⟨List.mem_range.mpr (Heap.lt_size e'),by simp [q]⟩
    have z : (hidT h H).get? b = none := PySem.W.hideAll_none (trk h H) hm
    rw [z] at e; cases e
noncomputable def zfE (g h : Heap) (L : Addr) : List (Addr × Obj) := (List.range h.objs.size).filterMap fun a => if a = L∨(g.get? a).isSome = true then none else (h.get? a).map fun o => (a,o)
theorem zev {g h : Heap} {L a : Addr} {o : Obj} (h1 : a≠L) (h2 : g.get? a = none) (h3 : h.get? a = some o) : (a,o)∈zfE g h L :=
  List.mem_filterMap.mpr ⟨a,List.mem_range.mpr (Heap.lt_size h3),by simp [h1,h2,h3]⟩
theorem zeS {g h : Heap} {L : Addr} {p : Addr × Obj} (hp : p∈zfE g h L) : p.1≠L∧g.get? p.1 = none∧h.get? p.1 = some p.2 := by
  obtain ⟨b,_,e⟩ := List.mem_filterMap.mp hp
  split at e
  · cases e
  · rename_i hn
    cases q : h.get? b with
    | none => rw [q] at e; simp at e
    | some u =>
      rw [q] at e
      simp only [Option.map_some,Option.some.injEq] at e
      subst e
      refine ⟨fun z => hn (.inl z),?_,q⟩
      show g.get? b = none
      cases r : g.get? b with
      | none => rfl
      | some v => exact (hn (.inr (by simp [r]))).elim
noncomputable def rest (g h : Heap) (L d : Addr) : List (Addr × Obj) := (zfE g h L).filter fun p => decide (p.1≠d)
theorem zkT {g h : Heap} {L : Addr} : News g L h (zfE g h L) := fun p hp => let ⟨a,b,c⟩ := zeS hp; ⟨c,a,b⟩
end L2
namespace L2
open PySem PySem.Spec PyProof.Rows
structure Mod (K : PySem.W.Frag) (mg : Str→Option Value) (base : Heap) : Prop where
  kin : K.In base
  glob : base.Ns mainGlobals mg
  blt : ∃ mb,base.Ns builtinsNs mb∧∀ x : Str,x≠"__name__"→mb x = bootBuiltins x
  nolimit : base.NoLimit
structure Cx where
  prog : Program
  w : World
  K : PySem.W.Frag
  mg : Str→Option Value
  base : Heap
  A : Around
  N : List Str
  s₀ : Shared
  H₀ : Hp
  env : Env
  outer : List Env
  stack : List Env
  ex : List Addr
  fn : Str→Bool
  calm : Bool
  pn : List (Addr × Obj)
  xe : Value→Shared→Prop
noncomputable def frs (l : List Env) : List Addr := l.filterMap (·.frame)
noncomputable abbrev Cx.fs (X : Cx) : List Addr := frs X.outer
noncomputable def Vis (sc : Scope) (x : Str) : Prop := sc.names.lookup x = some .local∨sc.names.lookup x = some .cell∨sc.names.lookup x = some .free
noncomputable def Loc (sc : Scope) (x : Str) : Prop := sc.names.lookup x = some .local∨sc.names.lookup x = some .cell
noncomputable def Look (env : Env) (h : Heap) (m : Str→Option Value) (x : Str) (u : Value) : Prop :=
  (env.kindOf x = some .local∧m x = some u)∨((env.kindOf x = some .cell∨env.kindOf x = some .free)∧∃ c,env.cells.lookup x = some c∧h.IsCell c (some u))
structure Cx.Ok (X : Cx) : Prop where
  mod : Mod X.K X.mg X.base
  kind : X.env.scope.kind = .function
  glob : X.env.globals = mainGlobals
  blt : X.env.builtins = builtinsNs
  above : X.s₀.heap.objs.size≤X.env.locals
  inj : ∀ x y c,X.env.cells.lookup x = some c→X.env.cells.lookup y = some c→x = y
  has : ∀ x,(X.env.kindOf x = some .cell∨X.env.kindOf x = some .free)→∃ c,X.env.cells.lookup x = some c
  cab : ∀ x c,X.fn x = true→X.env.cells.lookup x = some c→X.s₀.heap.objs.size≤c
  hd : X.calm = true→X.A.handled = none
  frames : X.A.frames = some X.stack
  stk : X.stack = X.outer∨(X.stack = X.env::X.outer∧X.env.frame = some X.env.locals)
  exf : ∀ b∈X.ex,b≠X.env.locals∧∀ x c,X.env.cells.lookup x = some c→c≠b
  bs : ∀ b o,X.base.get? b = some o→X.s₀.heap.get? b = some o∧X.H₀ b = none
  bsz : X.base.objs.size≤X.s₀.heap.objs.size
  noex : ∀ b o,X.base.get? b = some o→b∉X.ex
  exfs : ∀ b∈X.ex,b∉X.fs
  funs : X.s₀.heap.FunFrames X.base X.outer
  frf : ∀ b∈X.fs,X.H₀ b = none
structure Inv (X : Cx) (pins : List (Addr × Obj)) (σ : List (Option V)) (H : Hp) (s : Shared) : Prop where
  ok : X.Ok
  os : s.os = X.s₀.os
  bare : AllBare s.gens
  base : Un X.fs X.ex X.H₀ H X.s₀.heap s.heap
  loc : ∃ m,s.heap.Ns X.env.locals m∧∀ (i : Nat) (x : Str) (v : V),X.N[i]? = some x→σ[i]? = some (some v)→Vis X.env.scope x→∃ u,RelV v u∧Look X.env s.heap m x u
  cell : ∀ x c,X.env.cells.lookup x = some c→∃ v,s.heap.IsCell c v
  free : H X.env.locals = none
  freeC : ∀ x c,X.env.cells.lookup x = some c→H c = none
  pin : ∀ p∈X.pn++pins,s.heap.get? p.1 = some p.2∧H p.1 = none∧p.1≠X.env.locals∧p.1∉X.fs∧∀ v,p.2.data≠.cell v
  hok : HOk X.prog X.w H s.heap
  len : σ.length = X.N.length
section
variable {X : Cx} {pins : List (Addr × Obj)} {σ : List (Option V)} {H H' : Hp} {s : Shared} {h' : Heap}
theorem Cx.Ok.nofr (ok : X.Ok) {b : Addr} {o : Obj} (e : X.base.get? b = some o) : b∉X.fs := fun hb => by
  have := (ok.funs.mem hb).1
  rw [e] at this; cases this
theorem Inv.bs (I : Inv X pins σ H s) : ∀ b o,X.base.get? b = some o→s.heap.get? b = some o∧H b = none := fun b o e =>
  ⟨I.base.keep b o (I.ok.bs b o e).1 (I.ok.bs b o e).2 (I.ok.nofr e) (I.ok.noex b o e),I.base.free b o (I.ok.bs b o e).1 (I.ok.bs b o e).2 (I.ok.noex b o e)⟩
theorem Inv.bk (I : Inv X pins σ H s) : ∀ b o,X.base.get? b = some o→s.heap.get? b = some o := fun b o e => (I.bs b o e).1
theorem Inv.mod (I : Inv X pins σ H s) : Mod X.K X.mg X.base := I.ok.mod
theorem Inv.kIn (I : Inv X pins σ H s) : X.K.In s.heap := I.ok.mod.kin.keeps I.bk
theorem Inv.nolimit (I : Inv X pins σ H s) : s.heap.NoLimit := I.ok.mod.nolimit.keeps I.bk
theorem Inv.fr (I : Inv X pins σ H s) : ∃ m,Fr X.base X.env.locals s.heap m :=
  let ⟨m,hn,_⟩ := I.loc
  ⟨m,hn,I.bk,Nat.le_trans I.ok.bsz I.ok.above⟩
theorem Inv.lt (I : Inv X pins σ H s) : X.env.locals < s.heap.objs.size := let ⟨_,hn,_⟩ := I.loc; hn.lt
theorem Inv.sz (I : Inv X pins σ H s) : X.s₀.heap.objs.size≤s.heap.objs.size := Nat.le_trans I.ok.above (Nat.le_of_lt I.lt)
theorem Inv.nofs (I : Inv X pins σ H s) {a : Addr} (h : s.heap.objs.size≤a) : a∉X.fs := fun hb => by
  obtain ⟨_,o,ho,_⟩ := I.ok.funs.mem hb
  exact absurd (Nat.lt_of_lt_of_le (Heap.lt_size ho) (Nat.le_trans I.sz h)) (Nat.lt_irrefl _)
theorem Inv.cne (I : Inv X pins σ H s) : ∀ x c,X.env.cells.lookup x = some c→c≠X.env.locals := fun x c e z => by
  obtain ⟨v,o,ho,hd⟩ := I.cell x c e
  obtain ⟨m,⟨o',es,ep,ho',hd',_⟩,_⟩ := I.loc
  rw [z,ho'] at ho; cases ho; rw [hd'] at hd; cases hd
theorem Inv.funs (I : Inv X pins σ H s) : s.heap.FunFrames X.base X.outer := by
  have all : ∀ (l : List Env),(∀ b∈frs l,b∈X.fs)→X.s₀.heap.FunFrames X.base l→s.heap.FunFrames X.base l := by
    intro l
    induction l with
    | nil => intro _ _; trivial
    | cons env r ih =>
      intro hs hl
      obtain ⟨hk,⟨L,o,hf,hn,ho,hd⟩,hr⟩ := hl
      have hL : L∈X.fs := hs L (by unfold frs; rw [List.filterMap_cons,hf]; exact List.mem_cons_self)
      obtain ⟨sl,e⟩ := I.base.slot L o ho (I.ok.frf L hL) hL fun z => I.ok.exfs L z hL
      exact ⟨hk,⟨L,_,hf,hn,e,hd⟩,ih (fun b hb => hs b (by unfold frs; rw [List.filterMap_cons,hf]; exact List.mem_cons_of_mem _ hb)) hr⟩
  exact all X.outer (fun _ hb => hb) I.ok.funs
theorem Inv.stack (I : Inv X pins σ H s) : s.heap.FunFrames X.base X.stack := by
  rcases I.ok.stk with e | ⟨e,hf⟩
  · rw [e]; exact I.funs
  · rw [e]
    obtain ⟨m,hn,_⟩ := I.loc
    refine .cons (by rw [I.ok.kind]; decide) hf hn ?_ I.funs
    exact Heap.get?_none_of_le (Nat.le_trans I.ok.bsz I.ok.above)
theorem Inv.stkSub (I : Inv X pins σ H s) : ∀ b∈frs X.stack,b∈X.env.locals::X.fs := fun b hb => by
  rcases I.ok.stk with e | ⟨e,hf⟩
  · rw [e] at hb; exact List.mem_cons_of_mem _ hb
  · rw [e] at hb
    unfold frs at hb
    rw [List.filterMap_cons,hf] at hb
    exact hb
theorem Inv.stkFree (I : Inv X pins σ H s) : ∀ b∈frs X.stack,H b = none := fun b hb => by
  rcases List.mem_cons.mp (I.stkSub b hb) with e | hb
  · rw [e]; exact I.free
  · obtain ⟨_,o,ho,_⟩ := I.ok.funs.mem hb
    exact I.base.free b o ho (I.ok.frf b hb) fun z => I.ok.exfs b z hb
theorem Inv.step {g' : Array GenState} {t' : Nat} {d' : Drawn} {ch : List Addr} (I : Inv X pins σ H s)
    (hch : ∀ b∈ch,(b∈X.ex∨X.s₀.heap.objs.size≤b)∧b≠X.env.locals∧(∀ x c,X.env.cells.lookup x = some c→c≠b)∧∀ p∈X.pn++pins,p.1≠b)
    (keep : ∀ b o,b≠X.env.locals→b∉X.fs→b∉ch→s.heap.get? b = some o→H b = none→h'.get? b = some o)
    (slot : ∀ b o,b≠X.env.locals→b∈X.fs→b∉ch→s.heap.get? b = some o→H b = none→∃ sl,h'.get? b = some { o with slots := sl }) (free : ∀ b o,b∉ch→s.heap.get? b = some o→H b = none→H' b = none)
    (there : ∀ b o,b∉ch→s.heap.get? b = some o→∃ o',h'.get? b = some o')
    (tups : ∀ b xs,H b = some (.tup xs)→H' b = some (.tup xs)) (frzs : ∀ b o u,H b = some (.frz o u)→H' b = some (.frz o u)) (tbls : ∀ b ps,H b = some (.tbl ps)→∃ more,H' b = some (.tbl (ps++more)))
    (ns : ∀ m,s.heap.Ns X.env.locals m→h'.Ns X.env.locals m) (hok : HOk X.prog X.w H' h') (hg : AllBare g') :
    Inv X pins σ H' { s with heap := h',gens := g',drawn := d',toks := t' } := by
  have neL : ∀ b o,X.s₀.heap.get? b = some o→b≠X.env.locals := fun b o e => Nat.ne_of_lt (Nat.lt_of_lt_of_le (Heap.lt_size e) I.ok.above)
  have neC : ∀ b o,X.s₀.heap.get? b = some o→b∉X.ex→b∉ch := fun b o e hx hb => by
    rcases (hch b hb).1 with z | z
    · exact hx z
    · exact absurd (Nat.lt_of_lt_of_le (Heap.lt_size e) z) (Nat.lt_irrefl _)
  have cellK : ∀ x c,X.env.cells.lookup x = some c→∀ v,s.heap.IsCell c v→h'.IsCell c v := fun x c e v ⟨o,ho,hd⟩ => by
    have nch : c∉ch := fun z => (hch c z).2.2.1 x c e rfl
    by_cases hc : c∈X.fs
    · obtain ⟨sl,q⟩ := slot c o (I.cne x c e) hc nch ho (I.freeC x c e)
      exact ⟨_,q,hd⟩
    · exact ⟨o,keep c o (I.cne x c e) hc nch ho (I.freeC x c e),hd⟩
  refine ⟨I.ok,I.os,hg,⟨fun b o e n hb hx => ?_,fun b o e n hb hx => ?_,fun b o e n hx => ?_,fun b o e hx => ?_,fun b xs e => tups b xs (I.base.tups b xs e),fun b o xs e => frzs b o xs (I.base.frzs b o xs e),fun b ps e => ?_⟩,?_,fun x c e => ?_,?_,fun x c e => ?_,fun p hp => ?_,hok,I.len⟩
  · exact keep b o (neL b o e) hb (neC b o e hx) (I.base.keep b o e n hb hx) (I.base.free b o e n hx)
  · obtain ⟨sl,e1⟩ := I.base.slot b o e n hb hx
    obtain ⟨sl',e2⟩ := slot b _ (neL b o e) hb (neC b o e hx) e1 (I.base.free b o e n hx)
    exact ⟨sl',e2⟩
  · obtain ⟨o',e1⟩ := I.base.there b o e hx
    exact free b o' (neC b o e hx) e1 (I.base.free b o e n hx)
  · obtain ⟨o',e1⟩ := I.base.there b o e hx
    exact there b o' (neC b o e hx) e1
  · obtain ⟨m1,e1⟩ := I.base.tbls b ps e
    obtain ⟨m2,e2⟩ := tbls b _ e1
    exact ⟨m1++m2,by rw [e2,Array.append_assoc]⟩
  · obtain ⟨m,hn,hl⟩ := I.loc
    refine ⟨m,ns m hn,fun i x v e1 e2 e3 => ?_⟩
    obtain ⟨u,r,l⟩ := hl i x v e1 e2 e3
    refine ⟨u,r,?_⟩
    rcases l with l | ⟨k,c,e,z⟩
    · exact .inl l
    · exact .inr ⟨k,c,e,cellK x c e _ z⟩
  · obtain ⟨v,z⟩ := I.cell x c e
    exact ⟨v,cellK x c e v z⟩
  · obtain ⟨m,⟨o,_,_,ho,_⟩,_⟩ := I.loc
    exact free _ o (fun z => (hch _ z).2.1 rfl) ho I.free
  · obtain ⟨v,o,ho,hd⟩ := I.cell x c e
    exact free c o (fun z => (hch c z).2.2.1 x c e rfl) ho (I.freeC x c e)
  · obtain ⟨e,n,ne,nf,d⟩ := I.pin p hp
    have nch : p.1∉ch := fun z => (hch p.1 z).2.2.2 p hp rfl
    exact ⟨keep p.1 p.2 ne nf nch e n,free p.1 p.2 nch e n,ne,nf,d⟩
theorem Inv.un {t' : Nat} (I : Inv X pins σ H s) (u : Un X.fs [] H H' s.heap h') (hok : HOk X.prog X.w H' h') : Inv X pins σ H' { s with heap := h',toks := t' } := by
  obtain ⟨m,⟨o,es,ep,ho,r⟩,_⟩ := id I.loc
  obtain ⟨sl,hL⟩ := u.any ho I.free (by simp)
  exact I.step (g' := s.gens) (d' := s.drawn) (ch := []) (fun _ z => nomatch z) (fun b o _ hb _ e n => u.keep b o e n hb (by simp)) (fun b o _ hb _ e n => u.slot b o e n hb (by simp)) (fun b o _ e n => u.free b o e n (by simp)) (fun b o _ e => u.there b o e (by simp)) u.tups u.frzs u.tbls (fun m' hm => by
    obtain ⟨o',es',ep',ho',r'⟩ := hm
    rw [ho] at ho'; cases ho'
    exact ⟨_,es',ep',hL,r'⟩) hok I.bare
theorem Inv.call {g' : Array GenState} {t' : Nat} {d' : Drawn} {ch : List Addr} (I : Inv X pins σ H s) (u : Un (frs X.stack) ch H H' s.heap h') (hok : HOk X.prog X.w H' h') (hg : AllBare g')
    (hch : ∀ b∈ch,(b∈X.ex∨X.s₀.heap.objs.size≤b)∧b≠X.env.locals∧(∀ x c,X.env.cells.lookup x = some c→c≠b)∧∀ p∈X.pn++pins,p.1≠b) :
    Inv X pins σ H' { s with heap := h',gens := g',drawn := d',toks := t' } := by
  obtain ⟨m,⟨o,es,ep,ho,r⟩,_⟩ := id I.loc
  obtain ⟨sl,hL⟩ := u.any ho I.free fun z => (hch _ z).2.1 rfl
  exact I.step (ch := ch) hch (fun b o hL hb hc e n => u.keep b o e n (fun z => (List.mem_cons.mp (I.stkSub b z)).elim hL hb) hc) (fun b o _ _ hc e n => u.any e n hc) (fun b o hc e n => u.free b o e n hc) (fun b o hc e => u.there b o e hc) u.tups u.frzs u.tbls (fun m' hm => by
    obtain ⟨o',es',ep',ho',r'⟩ := hm
    rw [ho] at ho'; cases ho'
    exact ⟨_,es',ep',hL,r'⟩) hok hg
theorem Inv.turned {t' : Nat} {it : Addr} (I : Inv X pins σ H s) (k : ∀ b o,b≠it→s.heap.get? b = some o→h'.get? b = some o) (hn : H it = none) (hL : it≠X.env.locals)
    (h1 : it∈X.ex∨X.s₀.heap.objs.size≤it) (h2 : ∀ x c,X.env.cells.lookup x = some c→c≠it) (h3 : ∀ p∈X.pn++pins,p.1≠it) : Inv X pins σ H { s with heap := h',toks := t' } := by
  have nit : ∀ b u,H b = some u→b≠it := fun b u e z => by rw [z,hn] at e; cases e
  refine I.step (g' := s.gens) (d' := s.drawn) (ch := [it]) (fun b hb => ?_) (fun b o _ _ hc e _ => k b o (fun z => hc (by simp [z])) e) (fun b o _ _ hc e _ => ⟨o.slots,k b o (fun z => hc (by simp [z])) e⟩) (fun _ _ _ _ n => n)
    (fun b o hc e => ⟨o,k b o (fun z => hc (by simp [z])) e⟩) (fun _ _ e => e) (fun _ _ _ e => e) (fun b ps e => ⟨#[],by rw [e]; simp⟩) (fun m hm => ?_) (fun b u e => ?_) I.bare
  · have e : b = it := by simpa using hb
    subst e
    exact ⟨h1,hL,h2,h3⟩
  · obtain ⟨o,es,ep,ho,r⟩ := hm
    exact ⟨o,es,ep,k _ o (Ne.symm hL) ho,r⟩
  · refine (I.hok b u e).stay (fun c v hc q => k c v ?_ q) (fun _ q => q) fun _ _ q => q
    rcases hc with z | z
    · rw [z]; exact nit b u e
    · exact nit c _ z
theorem Inv.tok (I : Inv X pins σ H s) (t : Nat) : Inv X pins σ H { s with toks := t } := I.un (h' := s.heap) (t' := t) Un.refl I.hok
theorem Inv.kept {t' : Nat} (I : Inv X pins σ H s) (k : ∀ b u,s.heap.get? b = some u→h'.get? b = some u) : Inv X pins σ H { s with heap := h',toks := t' } := I.un (Un.kept k) (I.hok.kept k)
theorem Inv.laid {a : Addr} {o : HO} {t' : Nat} (I : Inv X pins σ H s) (k : ∀ b u,s.heap.get? b = some u→h'.get? b = some u) (hp : s.heap.objs.size≤a) (new : za8 X.prog X.w (upd H a o) h' a o) :
    Inv X pins σ (upd H a o) { s with heap := h',toks := t' } := I.un (Un.laid k hp (I.hok.fresh hp)) (I.hok.laid k hp new)
theorem Inv.write {x e : Addr} {o : HO} {t' : Nat} (I : Inv X pins σ H s) (mu : Mut (H x)) (he : e = x∨H e = some (.own x)) (k : ∀ b u,b≠e→s.heap.get? b = some u→h'.get? b = some u) (heo : ∃ u,h'.get? e = some u)
    (new : za8 X.prog X.w (upd H x o) h' x o) : Inv X pins σ (upd H x o) { s with heap := h',toks := t' } := I.un (Un.write mu he k heo) (I.hok.write mu he k heo new)
theorem Inv.pins_of {pins' : List (Addr × Obj)} (I : Inv X pins σ H s) (h : ∀ p∈pins',s.heap.get? p.1 = some p.2∧H p.1 = none∧p.1≠X.env.locals∧p.1∉X.fs∧∀ v,p.2.data≠.cell v) : Inv X pins' σ H s :=
  ⟨I.ok,I.os,I.bare,I.base,I.loc,I.cell,I.free,I.freeC,fun p hp => (List.mem_append.mp hp).elim (fun z => I.pin p (List.mem_append_left _ z)) (h p),I.hok,I.len⟩
theorem zht {N : List Str} (hN : N.Nodup) {i j : Nat} {x : Str} (a : N[i]? = some x) (b : N[j]? = some x) : i = j := by
  obtain ⟨h1,e1⟩ := List.getElem?_eq_some_iff.mp a
  obtain ⟨h2,e2⟩ := List.getElem?_eq_some_iff.mp b
  exact (List.getElem_inj hN).mp (e1.trans e2.symm)
theorem zfR {M : Model} {A : Around} {E : Value→Shared→Prop} {i : Nat} {x : Str} {v : V} {u : Value} {Q : Unit→Shared→Prop} (I : Inv X pins σ H s) (hN : X.N.Nodup) (hi : X.N[i]? = some x) (hx : Loc X.env.scope x) (r : RelV v u)
    (h : ∀ s',Inv X pins (σ.set i (some v)) H s'→(∃ a,Heap.SameBut a s.heap s'.heap∧(a = X.env.locals∨X.env.cells.lookup x = some a))→Q () s') (hf : X.fn x = true∨X.env.scope.names.lookup x = some .local := by first | exact .inl rfl | exact .inr rfl | assumption) : wpAny M A (storeName X.env x u) Q E s := by
  obtain ⟨m,hn,hl⟩ := id I.loc
  have hcls : (X.env.scope.kind == .class || (X.env.scope.kind == .module && X.env.locals != X.env.globals)) = false := by rw [I.ok.kind]; rfl
  have hiσ : i < σ.length := by rw [I.len]; exact (List.getElem?_eq_some_iff.mp hi).1
  have cne := I.cne
  have tracked : ∀ {a : Addr} {h' : Heap},(∃ o,s.heap.get? a = some o∧H a = none)→Heap.SameBut a s.heap h'→HOk X.prog X.w H h' := fun {a h'} ha hs b ob e => by
    obtain ⟨_,_,hfree⟩ := ha
    refine (I.hok b ob e).stay (fun c w' hc q => (hs.2 c ?_).trans q) (fun _ q => q) fun _ _ q => q
    rintro rfl
    rcases hc with rfl | hc
    · rw [hfree] at e; cases e
    · rw [hfree] at hc; cases hc
  rcases hx with hk | hk
  · refine wpAny_storeName_local hk hn (fun h' hn' hs => ?_) hcls
    obtain ⟨oL,_,_,hoL,_⟩ := id hn
    refine h _ ⟨I.ok,I.os,I.bare,⟨fun b o e n hb hx => ?_,fun b o e n hb hx => ?_,I.base.free,fun b o e hx => ?_,I.base.tups,I.base.frzs,I.base.tbls⟩,⟨_,hn',fun j y v' e1 e2 e3 => ?_⟩,fun y c e => ?_,I.free,I.freeC,fun p hp => ?_,tracked ⟨oL,hoL,I.free⟩ hs,by simpa using I.len⟩ ⟨_,hs,.inl rfl⟩
    · exact (hs.2 b (Nat.ne_of_lt (Nat.lt_of_lt_of_le (Heap.lt_size e) I.ok.above))).trans (I.base.keep b o e n hb hx)
    · obtain ⟨sl,e1⟩ := I.base.slot b o e n hb hx
      exact ⟨sl,(hs.2 b (Nat.ne_of_lt (Nat.lt_of_lt_of_le (Heap.lt_size e) I.ok.above))).trans e1⟩
    · obtain ⟨o',e1⟩ := I.base.there b o e hx
      exact ⟨o',(hs.2 b (Nat.ne_of_lt (Nat.lt_of_lt_of_le (Heap.lt_size e) I.ok.above))).trans e1⟩
    · by_cases hj : j = i
      · subst hj
        rw [hi] at e1; cases e1
        rw [List.getElem?_set_self hiσ] at e2
        cases e2
        exact ⟨u,r,.inl ⟨hk,by simp⟩⟩
      · rw [List.getElem?_set_ne (Ne.symm hj)] at e2
        obtain ⟨u',r',q⟩ := hl j y v' e1 e2 e3
        refine ⟨u',r',?_⟩
        rcases q with ⟨k,e⟩ | ⟨k,c,e,z⟩
        · refine .inl ⟨k,?_⟩
          have : y≠x := fun e => hj (zht hN e1 (e ▸ hi))
          simp [this,e]
        · exact .inr ⟨k,c,e,z.sameBut hs (cne y c e)⟩
    · obtain ⟨w',z⟩ := I.cell y c e
      exact ⟨w',z.sameBut hs (cne y c e)⟩
    · obtain ⟨e,n,ne,nf,d⟩ := I.pin p hp
      exact ⟨(hs.2 p.1 ne).trans e,n,ne,nf,d⟩
  · have hfn : X.fn x = true := by
      rcases hf with z | z
      · exact z
      · rw [z] at hk; cases hk
    obtain ⟨c,hc⟩ := I.ok.has x (.inl hk)
    obtain ⟨w',z⟩ := I.cell x c hc
    refine wpAny_storeName_cell I.ok.kind hk hc z (fun h' hc' hs => ?_)
    obtain ⟨oc,hoc,hocd⟩ := id z
    refine h { s with heap := h' } ⟨I.ok,I.os,I.bare,⟨fun b o e n hb hx => ?_,fun b o e n hb hx => ?_,I.base.free,fun b o e hx => ?_,I.base.tups,I.base.frzs,I.base.tbls⟩,⟨m,hn.sameBut hs (Ne.symm (cne x c hc)),fun j y v' e1 e2 e3 => ?_⟩,fun y c' e => ?_,I.free,I.freeC,fun p hp => ?_,tracked ⟨oc,hoc,I.freeC x c hc⟩ hs,by simpa using I.len⟩ ⟨c,hs,.inr hc⟩
    · exact (hs.2 b (Nat.ne_of_lt (Nat.lt_of_lt_of_le (Heap.lt_size e) (I.ok.cab x c hfn hc)))).trans (I.base.keep b o e n hb hx)
    · obtain ⟨sl,e1⟩ := I.base.slot b o e n hb hx
      exact ⟨sl,(hs.2 b (Nat.ne_of_lt (Nat.lt_of_lt_of_le (Heap.lt_size e) (I.ok.cab x c hfn hc)))).trans e1⟩
    · obtain ⟨o',e1⟩ := I.base.there b o e hx
      exact ⟨o',(hs.2 b (Nat.ne_of_lt (Nat.lt_of_lt_of_le (Heap.lt_size e) (I.ok.cab x c hfn hc)))).trans e1⟩
    · by_cases hj : j = i
      · subst hj
        rw [hi] at e1; cases e1
        rw [List.getElem?_set_self hiσ] at e2
        cases e2
        exact ⟨u,r,.inr ⟨.inl hk,c,hc,hc'⟩⟩
      · rw [List.getElem?_set_ne (Ne.symm hj)] at e2
        obtain ⟨u',r',q⟩ := hl j y v' e1 e2 e3
        refine ⟨u',r',?_⟩
        rcases q with q | ⟨k,c',e,z'⟩
        · exact .inl q
        · refine .inr ⟨k,c',e,z'.sameBut hs ?_⟩
          rintro rfl
          exact hj (zht hN e1 (I.ok.inj _ _ _ e hc ▸ hi))
    · by_cases hcc : c' = c
      · subst hcc; exact ⟨_,hc'⟩
      · obtain ⟨w2,z2⟩ := I.cell y c' e
        exact ⟨w2,z2.sameBut hs hcc⟩
    · obtain ⟨e,n,ne,nf,d⟩ := I.pin p hp
      refine ⟨(hs.2 p.1 ?_).trans e,n,ne,nf,d⟩
      intro q
      rw [q,hoc] at e
      have q' : oc = p.2 := Option.some.inj e
      exact d w' (by rw [← q']; exact hocd)
theorem zhh {M : Model} {A : Around} {E : Value→Shared→Prop} {i : Nat} {x : Str} {v : V} {u : Value} {Q : Unit→Shared→Prop} (I : Inv X pins σ H s) (hN : X.N.Nodup) (hi : X.N[i]? = some x) (hx : Loc X.env.scope x) (r : RelV v u)
    (h : ∀ s',Inv X pins (σ.set i (some v)) H s'→Q () s') (hf : X.fn x = true∨X.env.scope.names.lookup x = some .local := by first | exact .inl rfl | exact .inr rfl | assumption) : wpAny M A (storeName X.env x u) Q E s :=
  zfR I hN hi hx r (fun s' I' _ => h s' I') hf
theorem Inv.call' {s' : Shared} {ch : List Addr} (I : Inv X pins σ H s) (ho : s'.os = s.os) (u : Un (frs X.stack) ch H H' s.heap s'.heap) (hok : HOk X.prog X.w H' s'.heap) (hg : AllBare s'.gens)
    (hch : ∀ b∈ch,(b∈X.ex∨X.s₀.heap.objs.size≤b)∧b≠X.env.locals∧(∀ x c,X.env.cells.lookup x = some c→c≠b)∧∀ p∈X.pn++pins,p.1≠b) : Inv X pins σ H' s' := by
  obtain ⟨h',g',d',t',o'⟩ := s'
  have e : o' = s.os := ho
  subst e
  exact I.call (g' := g') (t' := t') (d' := d') u hok hg hch
end
noncomputable abbrev XK := Value→Option Addr→Hp→Prop
noncomputable abbrev St := List (Option V)
noncomputable abbrev VK := V→Hp→Prop
noncomputable abbrev TE := St→Hp→VK→Prop
noncomputable abbrev TT := St→Hp→(Bool→Hp→Prop)→Prop
noncomputable abbrev TA := St→Hp→(List V→Hp→Prop)→Prop
structure Ends where
  nx : St→Hp→Prop
  rt : VK
  bk : St→Hp→Prop := fun _ _ => False
  ct : St→Hp→Prop := fun _ _ => False
noncomputable abbrev TS := Ends→St→Hp→Prop
noncomputable def EP (X : Cx) (pins : List (Addr × Obj)) (σ : St) (Q : VK) (u : Value) (s' : Shared) : Prop := ∃ v H',Inv X pins σ H' s'∧RelV v u∧Q v H'
noncomputable def TP (X : Cx) (pins : List (Addr × Obj)) (σ : St) (Q : Bool→Hp→Prop) (b : Bool) (s' : Shared) : Prop := ∃ H',Inv X pins σ H' s'∧Q b H'
noncomputable def AP (X : Cx) (pins : List (Addr × Obj)) (σ : St) (Q : List V→Hp→Prop) (us : List Value) (s' : Shared) : Prop := ∃ vs H',Inv X pins σ H' s'∧Vals vs us∧Q vs H'
noncomputable def SP (X : Cx) (pins : List (Addr × Obj)) (D : Ends) (f : Flow) (s' : Shared) : Prop :=
  match f with
  | .next => ∃ σ' H',Inv X pins σ' H' s'∧D.nx σ' H'
  | .brk => ∃ σ' H',Inv X pins σ' H' s'∧D.bk σ' H'
  | .cont => ∃ σ' H',Inv X pins σ' H' s'∧D.ct σ' H'
  | .ret u => ∃ v σ' H',Inv X pins σ' H' s'∧RelV v u∧D.rt v H'
noncomputable def PE (X : Cx) (e : Expr) (t : TE) : Prop :=
  ∀ (pins : List (Addr × Obj)) (s : Shared) (σ : St) (H : Hp) (Q : VK),Inv X pins σ H s→t σ H Q→wpAny (model X.prog X.w) X.A (eval e X.env) (EP X pins σ Q) X.xe s
noncomputable def PT (X : Cx) (e : Expr) (t : TT) : Prop :=
  ∀ (pins : List (Addr × Obj)) (s : Shared) (σ : St) (H : Hp) (Q : Bool→Hp→Prop),Inv X pins σ H s→t σ H Q→wpAny (model X.prog X.w) X.A (isTrue e X.env (eval e X.env)) (TP X pins σ Q) X.xe s
noncomputable def PW (X : Cx) (e : Expr) (t : TT) : Prop :=
  ∀ (whole : Sem Value) (pins : List (Addr × Obj)) (s : Shared) (σ : St) (H : Hp) (Q : Bool→Hp→Prop),Inv X pins σ H s→t σ H Q→wpAny (model X.prog X.w) X.A (isTrue e X.env whole) (TP X pins σ Q) X.xe s
theorem PW.pt {X : Cx} {e : Expr} {t : TT} (h : PW X e t) : PT X e t := h _
noncomputable def PA (X : Cx) (es : List Expr) (t : TA) : Prop :=
  ∀ (pos : Pos) (pins : List (Addr × Obj)) (s : Shared) (σ : St) (H : Hp) (Q : List V→Hp→Prop),Inv X pins σ H s→t σ H Q→wpAny (model X.prog X.w) X.A (spliced (backTo pos (starEach es X.env))) (AP X pins σ Q) X.xe s
noncomputable def PS (X : Cx) (st : Stmt) (t : TS) : Prop :=
  ∀ (pins : List (Addr × Obj)) (s : Shared) (σ : St) (H : Hp) (D : Ends),Inv X pins σ H s→t D σ H→wpAny (model X.prog X.w) X.A (exec st X.env) (SP X pins D) X.xe s
noncomputable def PSs (X : Cx) (st : List Stmt) (t : TS) : Prop :=
  ∀ (pins : List (Addr × Obj)) (s : Shared) (σ : St) (H : Hp) (D : Ends),Inv X pins σ H s→t D σ H→wpAny (model X.prog X.w) X.A (execs st X.env) (SP X pins D) X.xe s
theorem thn {α : Type} {t : Sem α} {Q Q' : α→Shared→Prop} {M : Model} {A : Around} {E : Value→Shared→Prop} {s : Shared} (h : wpAny M A t Q E s) (hQ : ∀ a s,Q a s→Q' a s) : wpAny M A t Q' E s := wpAny_mono h hQ fun _ _ x => x
end L2
namespace L2
open PySem PySem.Spec PyProof.Rows
section
variable {X : Cx}
noncomputable def tVar (i : Nat) : TE := fun σ H Q => ∃ v,σ[i]? = some (some v)∧Q v H
noncomputable def tC (v : V) : TE := fun _ H Q => Q v H
theorem zdS {i : Nat} {x : Str} {pos : Pos} (hN : X.N[i]? = some x) (hv : Vis X.env.scope x) (hd : (x == ("__debug__" : Str)) = false := by decide) (hcd : (x == ("__classdict__" : Str)) = false := by decide) : PE X (.Name x pos) (tVar i) := by
  intro pins s σ H Q I h
  obtain ⟨v,e,h⟩ := h
  obtain ⟨m,hn,hl⟩ := I.loc
  obtain ⟨u,r,l⟩ := hl i x v hN e hv
  have fin : EP X pins σ Q u s := ⟨v,H,I,r,h⟩
  rcases l with ⟨hk,hm⟩ | ⟨hk,c,hc,hcell⟩
  · exact wpAny_Name (wpAny_loadName_local I.ok.kind hk hn hm fin) hd
  · rcases hk with hk | hk
    · exact wpAny_Name (wpAny_loadName_cell I.ok.kind hk hc hcell fin) hd
    · exact wpAny_Name (wpAny_loadName_free I.ok.kind hk hc hcell fin hcd) hd
theorem zoD {i j pos} : PE X (.Constant (.int i) j pos) (tC (.int i)) := fun _ _ _ H _ I h => wpAny_Constant_int ⟨.int i,H,I.tok _,⟨_,rfl⟩,h⟩
theorem zqr {b j pos} : PE X (.Constant (.bool b) j pos) (tC (.bl b)) := fun _ _ _ H _ I h => Constant_bool ⟨.bl b,H,I,rfl,h⟩
noncomputable def Gl (X : Cx) (x : Str) : Prop := X.env.kindOf x = some .globalImplicit
theorem zjq {E : Value→Shared→Prop} {pins : List (Addr × Obj)} {s : Shared} {σ : St} {H : Hp} {x : Str} {u : Value} {pos : Pos} {Q : Value→Shared→Prop} (I : Inv X pins σ H s) (hg : Gl X x) (hm : X.mg x = some u) (h : Q u s)
    (hd : (x == ("__debug__" : Str)) = false := by decide) : wpAny (model X.prog X.w) X.A (eval (.Name x pos) X.env) Q E s :=
  Calls.Name_function_global I.ok.kind hg (Calls.loadGlobal_global (by rw [I.ok.glob]; exact I.mod.glob.keeps I.bk) hm h) hd
theorem zgc {E : Value→Shared→Prop} {pins : List (Addr × Obj)} {s : Shared} {σ : St} {H : Hp} {x : Str} {u : Value} {pos : Pos} {Q : Value→Shared→Prop} (I : Inv X pins σ H s) (hg : Gl X x) (hm : X.mg x = none) (hv : bootBuiltins x = some u) (h : Q u s)
    (hn : x≠"__name__" := by decide) (hd : (x == ("__debug__" : Str)) = false := by decide) : wpAny (model X.prog X.w) X.A (eval (.Name x pos) X.env) Q E s := by
  obtain ⟨mb,h1,h2⟩ := I.mod.blt
  exact Calls.Name_function_global I.ok.kind hg (Calls.loadGlobal_builtin (by rw [I.ok.glob]; exact I.mod.glob.keeps I.bk) hm (by rw [I.ok.blt]; exact h1.keeps I.bk) ((h2 x hn).trans hv) h) hd
theorem zmD {x : Str} {v : V} {u : Value} {pos : Pos} (hg : Gl X x) (hm : X.mg x = some u) (r : RelV v u) (hd : (x == ("__debug__" : Str)) = false := by decide) : PE X (.Name x pos) (tC v) :=
  fun _ _ _ H _ I h => zjq I hg hm ⟨v,H,I,r,h⟩ hd
theorem zmF {x : Str} {v : V} {u : Value} {pos : Pos} (hg : Gl X x) (hm : X.mg x = none) (hv : bootBuiltins x = some u) (r : RelV v u) (hn : x≠"__name__" := by decide) (hd : (x == ("__debug__" : Str)) = false := by decide) : PE X (.Name x pos) (tC v) :=
  fun _ _ _ H _ I h => zgc I hg hm hv ⟨v,H,I,r,h⟩ hn hd
variable {a b : Expr} {ta tb : TE} {pos : Pos}
variable {tA tB' : TT} {rest : List Expr}
noncomputable def tAnd (t u : TT) : TT := fun σ H Q => t σ H fun c H1 => if c = true then u σ H1 Q else Q false H1
noncomputable def tOr (t u : TT) : TT := fun σ H Q => t σ H fun c H1 => if c = true then Q true H1 else u σ H1 Q
noncomputable def tNot (t : TT) : TT := fun σ H Q => t σ H fun c H1 => Q (! c) H1
theorem zmx (ha : PT X a tA) : PW X (.BoolOp .And [a] pos) tA := by
  intro wh pins s σ H Q I h
  refine isTrue_and (thn (ha pins s σ H Q I h) fun c s1 e => ?_)
  cases c with
  | true => exact isTrue_and_nil e
  | false => exact e
theorem zor (ha : PT X a tA) : PW X (.BoolOp .Or [a] pos) tA := by
  intro wh pins s σ H Q I h
  refine isTrue_or (thn (ha pins s σ H Q I h) fun c s1 e => ?_)
  cases c with
  | false => exact isTrue_or_nil e
  | true => exact e
theorem zos (ha : PT X a tA) (hb : PW X (.BoolOp .And (b::rest) pos) tB') : PW X (.BoolOp .And (a::b::rest) pos) (tAnd tA tB') := by
  intro wh pins s σ H Q I h
  refine isTrue_and (thn (ha pins s σ H _ I h) fun c s1 ⟨H1,I1,q1⟩ => ?_)
  cases c with
  | true => exact hb wh pins s1 σ H1 Q I1 q1
  | false => exact ⟨H1,I1,q1⟩
theorem zqo (ha : PT X a tA) (hb : PW X (.BoolOp .Or (b::rest) pos) tB') : PW X (.BoolOp .Or (a::b::rest) pos) (tOr tA tB') := by
  intro wh pins s σ H Q I h
  refine isTrue_or (thn (ha pins s σ H _ I h) fun c s1 ⟨H1,I1,q1⟩ => ?_)
  cases c with
  | true => exact ⟨H1,I1,q1⟩
  | false => exact hb wh pins s1 σ H1 Q I1 q1
theorem zot (ha : PT X a tA) : PT X (.UnaryOp .Not a pos) (tNot tA) := by
  intro pins s σ H Q I h
  exact isTrue_not (ha pins s σ H (fun c H1 => Q (! c) H1) I h)
noncomputable def zqa (ta tb : TE) : TE := fun σ H Q => ta σ H fun x H1 => ∃ c,x = .bl c∧if c = true then tb σ H1 Q else Q (.bl false) H1
noncomputable def zp5 (ta : TE) : TE := fun σ H Q => ta σ H fun x H1 => ∃ c,x = .bl c∧Q (.bl (! c)) H1
theorem zoA {op} {t : TE} (h : PE X a t) : PE X (.BoolOp op [a] pos) t := fun pins s σ H Q I hw => BoolOp_one (h pins s σ H Q I hw)
theorem zoE (ha : PE X a ta) (hb : PE X (.BoolOp .And (b::rest) pos) tb) : PE X (.BoolOp .And (a::b::rest) pos) (zqa ta tb) := by
  intro pins s σ H Q I h
  refine BoolOp_and (thn (ha pins s σ H _ I h) fun v s1 ⟨x,H1,I1,r1,q1⟩ => ?_)
  obtain ⟨c,rfl,q1⟩ := q1
  cases r1
  refine wpAny_truthy_bool ?_
  cases c with
  | true => exact hb pins s1 σ H1 Q I1 q1
  | false => exact ⟨.bl false,H1,I1,rfl,q1⟩
theorem zoB (ha : PE X a ta) : PE X (.UnaryOp .Not a pos) (zp5 ta) := by
  intro pins s σ H Q I h
  refine UnaryOp_ (thn (ha pins s σ H _ I h) fun v s1 ⟨x,H1,I1,r1,q1⟩ => ?_)
  obtain ⟨c,rfl,q1⟩ := q1
  cases r1
  exact not_of (wpAny_truthy_bool ⟨.bl (! c),H1,I1,rfl,q1⟩)
end
end L2
namespace L2
open PySem PySem.Spec PyProof.Rows
noncomputable def SqL (K : PySem.W.Frag) (H : Hp) (a : Addr) (xs : List V) : Prop :=
  Rd H a (.lst xs) ∨
    ∃ (o : Obj) (its : Array Value) (n : Nat),K.lookup a = some o∧o.cls = .type "list"∧o.dict = none∧o.data = .seq its n∧its.size≤sizeLine∧Vals xs its.toList
noncomputable def SqT (K : PySem.W.Frag) (H : Hp) (a : Addr) (xs : List V) : Prop :=
  Rd H a (.tup xs) ∨
    ∃ (o : Obj) (its : Array Value) (n : Nat),K.lookup a = some o∧o.cls = .type "tuple"∧o.data = .seq its n∧its.size≤sizeLine∧Vals xs its.toList
noncomputable def absV : Value→Option V
  | .none => some .non
  | .bool b => some (.bl b)
  | .int i _ => some (.int i)
  | .str x _ => some (.str x)
  | .bytes b _ => some (.byt b)
  | .float b _ => some (.flt b)
  | .ref a => some (.ref a)
  | .type n => some (.ty n)
  | _ => none
theorem RelV.abs {x : V} {u : Value} (r : RelV x u) : absV u = some x := by
  cases x with
  | non => cases r; rfl
  | bl _ => cases r; rfl
  | int _ => obtain ⟨t,rfl⟩ := r; rfl
  | str _ => obtain ⟨t,rfl⟩ := r; rfl
  | byt _ => obtain ⟨t,rfl⟩ := r; rfl
  | flt _ => obtain ⟨t,rfl⟩ := r; rfl
  | ref _ => cases r; rfl
  | ty _ => cases r; rfl
theorem RelV.inj {x y : V} {u : Value} (r : RelV x u) (q : RelV y u) : x = y := Option.some.inj (r.abs.symm.trans q.abs)
theorem Vals.inj {xs ys : List V} {us : List Value} (h : Vals xs us) (h' : Vals ys us) : xs = ys := by
  induction h generalizing ys with
  | nil => cases h'; rfl
  | cons r t ih =>
    cases h' with
    | cons r' t' => rw [r.inj r',ih t']
section
variable {X : Cx} {pins : List (Addr × Obj)} {σ : St} {H : Hp} {s : Shared} {a : Addr} {xs ys : List V}
theorem SqL.of {K : PySem.W.Frag} (h : H a = some (.lst xs)) : SqL K H a xs := .inl (.inl h)
theorem Inv.list (I : Inv X pins σ H s) (h : SqL X.K H a xs) : ∃ its : List Value,Vals xs its∧PlainL s.heap a its.toArray∧xs.length≤sizeLine := by
  rcases h with h | ⟨o,its,n,hk,hc,hd,hs,hz,r⟩
  · obtain ⟨z,its,n,r,e⟩ := h.ok I.hok
    exact ⟨its,r,⟨_,n,e,rfl,rfl,rfl⟩,z⟩
  · refine ⟨its.toList,r,⟨o,n,I.kIn a o hk,hc,hd,by simpa using hs⟩,?_⟩
    have e := r.length
    simp only [Array.length_toList] at e
    omega
theorem Inv.tuple (I : Inv X pins σ H s) (h : SqT X.K H a xs) : ∃ its : List Value,Vals xs its∧IsTup s.heap a its.toArray∧xs.length≤sizeLine := by
  rcases h with h | ⟨o,its,n,hk,hc,hs,hz,r⟩
  · obtain ⟨z,its,r,p,_⟩ := h.ok I.hok
    exact ⟨its,r,p,z⟩
  · refine ⟨its.toList,r,⟨o,I.kIn a o hk,hc,n,by simpa using hs⟩,?_⟩
    have e := r.length
    simp only [Array.length_toList] at e
    omega
theorem Inv.list_inj (I : Inv X pins σ H s) (h : SqL X.K H a xs) (h' : SqL X.K H a ys) : xs = ys := by
  obtain ⟨its,r,⟨o,n,e,_,_,d⟩,_⟩ := I.list h
  obtain ⟨its',r',⟨o',n',e',_,_,d'⟩,_⟩ := I.list h'
  rw [e] at e'; cases e'
  rw [d] at d'
  injection d' with d1 _
  have : its = its' := by simpa using congrArg Array.toList d1
  subst this
  exact r.inj r'
theorem Inv.tuple_inj (I : Inv X pins σ H s) (h : SqT X.K H a xs) (h' : SqT X.K H a ys) : xs = ys := by
  obtain ⟨its,r,⟨o,e,_,n,d⟩,_⟩ := I.tuple h
  obtain ⟨its',r',⟨o',e',_,n',d'⟩,_⟩ := I.tuple h'
  rw [e] at e'; cases e'
  rw [d] at d'
  injection d' with d1 _
  have : its = its' := by simpa using congrArg Array.toList d1
  subst this
  exact r.inj r'
end
noncomputable abbrev Cx.wish (X : Cx) (E : Value→Shared→Prop) : Cx := { X with xe := E }
noncomputable abbrev Cx.nox (X : Cx) : Cx := X.wish fun _ _ => False
theorem Cx.Ok.wish {X : Cx} (ok : X.Ok) (E : Value→Shared→Prop) : (X.wish E).Ok :=
  ⟨ok.mod,ok.kind,ok.glob,ok.blt,ok.above,ok.inj,ok.has,ok.cab,ok.hd,ok.frames,ok.stk,ok.exf,ok.bs,ok.bsz,ok.noex,ok.exfs,ok.funs,ok.frf⟩
theorem Cx.Ok.unwish {X : Cx} {E : Value→Shared→Prop} (ok : (X.wish E).Ok) : X.Ok :=
  ⟨ok.mod,ok.kind,ok.glob,ok.blt,ok.above,ok.inj,ok.has,ok.cab,ok.hd,ok.frames,ok.stk,ok.exf,ok.bs,ok.bsz,ok.noex,ok.exfs,ok.funs,ok.frf⟩
section
variable {X : Cx} {pins : List (Addr × Obj)} {σ : St} {H : Hp} {s : Shared} {E : Value → Shared → Prop}
theorem Inv.wish (I : Inv X pins σ H s) (E : Value→Shared→Prop) : Inv (X.wish E) pins σ H s := ⟨I.ok.wish E,I.os,I.bare,I.base,I.loc,I.cell,I.free,I.freeC,I.pin,I.hok,I.len⟩
theorem Inv.unwish (I : Inv (X.wish E) pins σ H s) : Inv X pins σ H s := ⟨I.ok.unwish,I.os,I.bare,I.base,I.loc,I.cell,I.free,I.freeC,I.pin,I.hok,I.len⟩
theorem SP.unwish {D : Ends} {f : Flow} {s' : Shared} (h : SP (X.wish E) pins D f s') : SP X pins D f s' := by
  cases f with
  | next => obtain ⟨σ',H',I,q⟩ := h; exact ⟨σ',H',I.unwish,q⟩
  | brk => obtain ⟨σ',H',I,q⟩ := h; exact ⟨σ',H',I.unwish,q⟩
  | cont => obtain ⟨σ',H',I,q⟩ := h; exact ⟨σ',H',I.unwish,q⟩
  | ret u => obtain ⟨v,σ',H',I,r,q⟩ := h; exact ⟨v,σ',H',I.unwish,r,q⟩
theorem PSs.nox {st : List Stmt} {t : TS} (h : PSs X.nox st t) : PSs X st t := fun pins s σ H D I hw =>
  wpAny_mono (h pins s σ H D (I.wish _) hw) (fun _ _ q => q.unwish) fun _ _ z => False.elim z
end
section
variable {X : Cx} {st : Stmt} {rest : List Stmt} {t u : TS} {e : Expr} {te : TE} {pos : Pos}
noncomputable def zp6 : TS := fun D σ H => D.nx σ H
noncomputable def tSeq (t u : TS) : TS := fun D σ H => t { D with nx := u D } σ H
theorem ziU : PSs X [] zp6 := fun _ _ σ H _ I h => wpAny_execs_nil ⟨σ,H,I,h⟩
theorem zea (h1 : PS X st t) (h2 : PSs X rest u) : PSs X (st::rest) (tSeq t u) := by
  intro pins s σ H D I h
  refine wpAny_execs_cons (thn (h1 pins s σ H { D with nx := u D } I h) fun f s1 q => ?_)
  cases f with
  | next =>
    obtain ⟨σ',H',I',q⟩ := q
    exact h2 pins s1 σ' H' D I' q
  | ret v => exact q
  | brk => exact q
  | cont => exact q
theorem Inv.quiet {pins : List (Addr × Obj)} {σ : St} {H : Hp} {s : Shared} (I : Inv X pins σ H s) : interactive X.env = false := by simp [interactive,I.ok.kind]
noncomputable def zp7 (te : TE) : TS := fun D σ H => te σ H fun _ H1 => D.nx σ H1
theorem zfn (he : PE X e te) (hs : swapsWith e none pos.line X.env = pure false := by rfl) : PS X (.Expr e pos) (zp7 te) := by
  intro pins s σ H D I h
  exact wpAny_Expr_any (thn (he pins s σ H _ I h) fun v s1 ⟨x,H1,I1,r1,q1⟩ => ⟨σ,H1,I1,q1⟩) I.quiet hs
noncomputable def tRet (te : TE) : TS := fun D σ H => te σ H D.rt
theorem zlD (he : PE X e te) : PS X (.Return (some e) pos) (tRet te) := by
  intro pins s σ H D I h
  exact wpAny_Return_some (thn (he pins s σ H _ I h) fun v s1 ⟨x,H1,I1,r1,q1⟩ => ⟨x,σ,H1,I1,r1,q1⟩)
noncomputable def tIfS (c : TT) (t u : TS) : TS := fun D σ H => c σ H fun b H1 => if b = true then t D σ H1 else u D σ H1
theorem zou {c : Expr} {a b : List Stmt} {tc : TT} (hc : PT X c tc) (ha : PSs X a t) (hb : PSs X b u) : PS X (.If c a b pos) (tIfS tc t u) := by
  intro pins s σ H D I h
  refine wpAny_If (thn (hc pins s σ H _ I h) fun d s1 ⟨H1,I1,q1⟩ => ?_)
  cases d with
  | true => exact ha pins s1 σ H1 D I1 q1
  | false => exact hb pins s1 σ H1 D I1 q1
noncomputable def znJ : TS := fun _ _ _ => False
theorem zkH : PS X st znJ := fun _ _ _ _ _ _ h => h.elim
end
noncomputable abbrev TG := V→St→Hp→(St→Hp→Prop)→Prop
noncomputable abbrev TGs := List V→St→Hp→(St→Hp→Prop)→Prop
noncomputable def PG (X : Cx) (target : Expr) (t : TG) : Prop :=
  ∀ (pins : List (Addr × Obj)) (s : Shared) (σ : St) (H : Hp) (v : V) (u : Value) (Q : St→Hp→Prop),Inv X pins σ H s→RelV v u→t v σ H Q →
    wpAny (model X.prog X.w) X.A (assign target X.env u) (fun _ s' => ∃ σ' H',Inv X pins σ' H' s'∧Q σ' H') X.xe s
noncomputable def PGs (X : Cx) (ts : List Expr) (t : TGs) : Prop :=
  ∀ (pins : List (Addr × Obj)) (s : Shared) (σ : St) (H : Hp) (vs : List V) (us : List Value) (Q : St→Hp→Prop),Inv X pins σ H s→Vals vs us→t vs σ H Q →
    wpAny (model X.prog X.w) X.A (assignInOrder ((assignEach ts X.env).map (·.2)) us) (fun _ s' => ∃ σ' H',Inv X pins σ' H' s'∧Q σ' H') X.xe s
noncomputable abbrev TSet := V→V→V→Hp→(Hp→Prop)→Prop
noncomputable def PSet (X : Cx) (t : TSet) : Prop :=
  ∀ (pins : List (Addr × Obj)) (s : Shared) (σ : St) (H : Hp) (o i v : V) (ov iv u : Value) (Q : Hp→Prop),Inv X pins σ H s→RelV o ov→RelV i iv→RelV v u→t o i v H Q →
    wpAny (model X.prog X.w) X.A (setItem ov iv u) (fun _ s' => ∃ H',Inv X pins σ H' s'∧Q H') X.xe s
section
variable {X : Cx} {pos : Pos}
noncomputable def zpt (i : Nat) : TG := fun v σ H Q => Q (σ.set i (some v)) H
theorem zmC {i : Nat} {x : Str} (hN : X.N.Nodup) (hi : X.N[i]? = some x) (hx : Loc X.env.scope x) (hf : X.fn x = true∨X.env.scope.names.lookup x = some .local := by first | exact .inl rfl | exact .inr rfl | assumption) : PG X (.Name x pos) (zpt i) := by
  intro pins s σ H v u Q I r h
  exact wpAny_assign_Name (zhh I hN hi hx r (fun s' I' => ⟨_,H,I',h⟩) hf)
noncomputable def gNil : TGs := fun vs σ H Q => vs = []∧Q σ H
noncomputable def zqH (t : TG) (u : TGs) : TGs := fun vs σ H Q => ∃ v r,vs = v::r∧t v σ H fun σ' H' => u r σ' H' Q
theorem zmB : PGs X [] gNil := by
  intro pins s σ H vs us Q I r h
  obtain ⟨e,h⟩ := h
  subst e
  cases r
  exact assignInOrder_nil ⟨σ,H,I,h⟩
theorem zkK {e : Expr} {es : List Expr} {t : TG} {u : TGs} (h1 : PG X e t) (h2 : PGs X es u)
    (hs : (assignEach (e::es) X.env).map (·.2) = assign e X.env::(assignEach es X.env).map (·.2) := by rfl) : PGs X (e::es) (zqH t u) := by
  intro pins s σ H vs us Q I r h
  obtain ⟨v,vr,e1,h⟩ := h
  subst e1
  cases r with
  | cons r rr =>
    rw [hs]
    refine assignInOrder_cons (thn (h1 pins s σ H _ _ _ I r h) fun _ s1 ⟨σ1,H1,I1,q1⟩ => ?_)
    exact h2 pins s1 σ1 H1 _ _ Q I1 rr q1
noncomputable def gTup (K : PySem.W.Frag) (n : Nat) (t : TGs) : TG := fun v σ H Q => ∃ a xs,v = .ref a∧SqT K H a xs∧xs.length = n∧t xs σ H Q
theorem zow {es : List Expr} {k : Nat} {t : TGs} {n : Nat} (hc : X.calm = true) (h : PGs X es t)
    (hn : (assignEach es X.env).length = n := by rfl) (hst : (assignEach es X.env).findIdx? (·.1) = none := by rfl) : PG X (.Tuple es k pos) (gTup X.K n t) := by
  intro pins s σ H v u Q I r hw
  obtain ⟨a,xs,e1,hq,hl,hw⟩ := hw
  subst e1
  cases r
  obtain ⟨its,rv,ht,hz⟩ := I.tuple hq
  refine assign_Tuple_tuple (I.ok.hd hc) ht (by simp [hn,← hl,rv.length]) hst fun h' hx => ?_
  have I1 : Inv X pins σ H { s with heap := h' } := I.kept (t' := s.toks) fun b o e => hx b o (Nat.ne_of_lt (Heap.lt_size e)) e
  exact h pins _ σ H xs _ Q I1 (by simpa using rv) hw
noncomputable def gSub (to ti : TE) (t : TSet) : TG := fun v σ H Q => to σ H fun o H1 => ti σ H1 fun i H2 => t o i v H2 fun H3 => Q σ H3
theorem zox {o i : Expr} {to ti : TE} {t : TSet} (ho : PE X o to) (hi : PE X i ti) (hs : PSet X t)
    (ha : ∀ v,assign (.Subscript o i pos) X.env v = (do
      let ov ← holding [v] (eval o X.env)
      let iv ← holding [v,ov] (eval i X.env)
      standAt pos
      holding [v,ov,iv] (setItem ov iv v)
      release [v,ov,iv] []) := by intro _; rfl) : PG X (.Subscript o i pos) (gSub to ti t) := by
  intro pins s σ H v u Q I r h
  rw [ha]
  refine wpAny_bind (wpAny_holding (thn (ho pins s σ H _ I h) fun ov s1 ⟨x,H1,I1,r1,q1⟩ => ?_))
  refine wpAny_bind (wpAny_holding (thn (hi pins s1 σ H1 _ I1 q1) fun iv s2 ⟨y,H2,I2,r2,q2⟩ => ?_))
  refine wpAny_bind (wpAny_standAt (wpAny_bind (wpAny_holding (thn (hs pins s2 σ H2 x y v ov iv u _ I2 r1 r2 r q2) fun _ s3 ⟨H3,I3,q3⟩ => ?_))))
  exact wpAny_release ⟨σ,H3,I3,q3⟩
noncomputable def tAsg (te : TE) (g : TG) : TS := fun D σ H => te σ H fun x H1 => g x σ H1 D.nx
theorem zlE {tg e : Expr} {te : TE} {g : TG} (he : PE X e te) (hg : PG X tg g) (hs : swapsWithSole [tg] e pos.line X.env = pure false := by rfl) (hw : swappedStores [tg] e X.env = pure none := by rfl)
    (h1 : (assignEach [tg] X.env).map (·.2) = [assign tg X.env] := by rfl) : PS X (.Assign [tg] e pos) (tAsg te g) := by
  intro pins s σ H D I h
  refine wpAny_Assign_stores (thn (he pins s σ H _ I h) fun v s1 ⟨x,H1,I1,r1,q1⟩ => ?_) hs hw
  rw [h1]
  exact thn (hg pins s1 σ H1 x v _ I1 r1 q1) fun _ s2 q => q
theorem ziV {i : Nat} {x : Str} {e : Expr} {te : TE} {pos' : Pos} (hN : X.N.Nodup) (hi : X.N[i]? = some x) (hx : Loc X.env.scope x) (he : PE X e te) (hs : swapsWith e (some (.Name x pos')) pos.line X.env = pure false := by rfl) (hf : X.fn x = true∨X.env.scope.names.lookup x = some .local := by first | exact .inl rfl | exact .inr rfl | assumption) :
    PS X (.Assign [.Name x pos'] e pos) (tAsg te (zpt i)) := by
  intro pins s σ H D I h
  refine wpAny_Assign_Name (thn (he pins s σ H _ I h) fun v s1 ⟨y,H1,I1,r1,q1⟩ => ?_) hs
  exact zhh I1 hN hi hx r1 (fun s2 I2 => ⟨_,H1,I2,q1⟩) hf
end
section
variable {X : Cx} {pos : Pos}
noncomputable def znI (c : TT) (tb : TS) : TS := fun D σ H => ∃ W : Nat→St→Hp→Prop,(∃ m,W m σ H)∧∀ m σ H,W m σ H →
  c σ H fun b H1 => if b = true then ∃ N : St→Hp→Prop,(∀ σ' H',N σ' H'→∃ m',m' < m∧W m' σ' H')∧tb { D with nx := N,ct := N,bk := D.nx } σ H1 else D.nx σ H1
theorem zkG {c : Expr} {body : List Stmt} {tc : TT} {tb : TS} (hp : PassesOwn (model X.prog X.w) X.A X.env X.xe) (hc : PT X c tc) (hb : PSs X body tb) : PS X (.While c body [] pos) (znI tc tb) := by
  intro pins s σ H D I h
  obtain ⟨W,⟨m0,w0⟩,turn⟩ := h
  refine wpAny_While (codeAny_whileLoop (fun n s' => ∃ σ' H',Inv X pins σ' H' s'∧W n σ' H') ?_ m0 ⟨σ,H,I,w0⟩)
  rintro n s1 ⟨σ1,H1,I1,w1⟩
  refine wpAny_passesOwn hp (thn (hc pins s1 σ1 H1 _ I1 (turn n σ1 H1 w1)) fun b s2 ⟨H2,I2,q2⟩ => ?_)
  cases b with
  | true =>
    obtain ⟨N,hN,q2⟩ := q2
    rw [if_pos rfl]
    refine wpAny_passesOwn hp (thn (hb pins s2 σ1 H2 _ I2 q2) fun f s3 q3 => ?_)
    cases f with
    | next =>
      obtain ⟨σ3,H3,I3,n3⟩ := q3
      obtain ⟨m',hm,w3⟩ := hN σ3 H3 n3
      exact ⟨m',hm,σ3,H3,I3,w3⟩
    | cont =>
      obtain ⟨σ3,H3,I3,n3⟩ := q3
      obtain ⟨m',hm,w3⟩ := hN σ3 H3 n3
      exact ⟨m',hm,σ3,H3,I3,w3⟩
    | brk => exact q3
    | ret v => exact q3
  | false =>
    rw [if_neg Bool.false_ne_true]
    exact wpAny_execs_nil ⟨σ1,H2,I2,q2⟩
end
structure It where
  go : Nat→Hp→Prop
  yld : Nat→Hp→V→Hp→Prop
  stop : Nat→Hp→Prop
noncomputable def FpOk (X : Cx) (pins : List (Addr × Obj)) (H : Hp) (b : Addr) : Prop :=
  H b = none∧b≠X.env.locals∧b∉X.fs∧(b∈X.ex∨X.s₀.heap.objs.size≤b)∧(∀ x c,X.env.cells.lookup x = some c→c≠b)∧∀ p∈X.pn++pins,p.1≠b
theorem Inv.fpOk {X : Cx} {pins : List (Addr × Obj)} {σ : St} {H H' : Hp} {s : Shared} {b : Addr} (I : Inv X pins σ H s) (hb : s.heap.objs.size≤b) (hn : H' b = none) : FpOk X pins H' b := by
  refine ⟨hn,Nat.ne_of_gt (Nat.lt_of_lt_of_le I.lt hb),I.nofs hb,.inr (Nat.le_trans I.sz hb),fun x c e z => ?_,fun p hp z => ?_⟩
  · obtain ⟨v,q⟩ := I.cell x c e
    exact absurd (Nat.lt_of_lt_of_le q.lt (by rw [z]; exact hb)) (Nat.lt_irrefl _)
  · exact absurd (Nat.lt_of_lt_of_le (Heap.lt_size (I.pin p hp).1) (by rw [z]; exact hb)) (Nat.lt_irrefl _)
structure Turn (P : Program) (w : World) (K : PySem.W.Frag) (tg : Expr) (J : It) (fp : List Addr) (it : Addr) (tn : Nat→Heap→Prop) : Prop where
  mem : it∈fp
  obj : ∀ i h,tn i h→∀ b∈fp,∃ o,h.get? b = some o∧∀ v,o.data≠.cell v
  keep : ∀ i h h',tn i h→(∀ b∈fp,∀ o,h.get? b = some o→h'.get? b = some o)→tn i h'
  item : ∀ (X : Cx),X.prog = P→X.w = w→X.K = K→X.calm = true→∀ (i : Nat) (pins : List (Addr × Obj)) (s : Shared) (σ : St) (H : Hp) (E : Value→Shared→Prop),Inv X pins σ H s→(∀ b∈fp,FpOk X pins H b)→tn i s.heap→J.go i H →
    wpAny (model P w) X.A (pyNext (.ref it)) (fun r s1 => ∃ u,r = some u ∧
      wpAny (model P w) X.A (letOwnedTupleGo tg (.ref it) u) (fun _ s2 => ∃ x H',Inv X pins σ H' s2∧RelV x u∧J.yld i H x H'∧tn (i + 1) s2.heap∧∀ b∈fp,H' b = none) E s1) E s
  done : ∀ (X : Cx),X.prog = P→X.w = w→X.K = K→X.calm = true→∀ (i : Nat) (pins : List (Addr × Obj)) (s : Shared) (σ : St) (H : Hp) (E : Value→Shared→Prop),Inv X pins σ H s→(∀ b∈fp,FpOk X pins H b)→tn i s.heap→J.stop i H →
    wpAny (model P w) X.A (pyNext (.ref it)) (fun r s1 => r = none∧Inv X pins σ H s1) E s
  self : ∀ (A : Around) (i : Nat) (s : Shared) (Q : Value→Shared→Prop) (E : Value→Shared→Prop),tn i s.heap→Q (.ref it) s→wpAny (model P w) A (pyIter (.ref it)) Q E s
noncomputable abbrev TI := St→Hp→(It→Hp→Prop)→Prop
noncomputable def PIE (X : Cx) (pins : List (Addr × Obj)) (σ : St) (tg : Expr) (R : It→Hp→Prop) (itv : Value) (s2 : Shared) : Prop :=
  ∃ (it : Addr) (fp : List Addr) (tn : Nat→Heap→Prop) (J : It) (H' : Hp),itv = .ref it∧Inv X pins σ H' s2∧Turn X.prog X.w X.K tg J fp it tn∧tn 0 s2.heap∧(∀ b∈fp,FpOk X pins H' b)∧R J H'
noncomputable def PI (X : Cx) (tg iter : Expr) (wi : TI) : Prop :=
  ∀ (pins : List (Addr × Obj)) (s : Shared) (σ : St) (H : Hp) (R : It→Hp→Prop),Inv X pins σ H s→wi σ H R →
    wpAny (model X.prog X.w) X.A (eval iter X.env) (fun v s1 => wpAny (model X.prog X.w) X.A (pyIter v) (PIE X pins σ tg R) X.xe s1) X.xe s
theorem zk6 {M : Model} {A : Around} {E : Value→Shared→Prop} {s : Shared} {tg : Expr} {it : Addr} {u : Value} {o : Obj} {n : String} {vs : Array Value} {Q : Unit→Shared→Prop} (ho : s.heap.get? it = some o) (hc : o.cls = .type n) (hd : o.data = .fields vs)
    (hn : ["enumerate","zip","dict_itemiterator","dict_reverseitemiterator","odict_iterator","itertools.zip_longest","itertools.pairwise"].contains n = false) (hQ : Q () s) : wpAny M A (letOwnedTupleGo tg (.ref it) u) Q E s := by
  unfold letOwnedTupleGo
  cases tg <;> first
    | exact wpAny_pure hQ
    | (cases u <;> first
        | exact wpAny_pure hQ
        | (refine wpAny_bind (wpAny_load ho ?_)
           rw [hc,hd]
           show wpAny M A (if (["enumerate","zip","dict_itemiterator","dict_reverseitemiterator","odict_iterator","itertools.zip_longest","itertools.pairwise"].contains n && vs[0]? == some (rawInt _)) = true then _ else _) Q E s
           rw [if_neg (by intro h; rw [hn,Bool.false_and] at h; cases h)]
           exact wpAny_pure hQ))
noncomputable def Itl (K : PySem.W.Frag) (a : Addr) : It :=
  ⟨fun i H => ∃ xs x,SqL K H a xs∧xs[i]? = some x,fun i H x H' => H' = H∧∀ xs,SqL K H a xs→xs[i]? = some x,fun i H => ∃ xs,SqL K H a xs∧xs.length≤i⟩
noncomputable def Itt (K : PySem.W.Frag) (a : Addr) : It :=
  ⟨fun i H => ∃ xs x,SqT K H a xs∧xs[i]? = some x,fun i H x H' => H' = H∧∀ xs,SqT K H a xs→xs[i]? = some x,fun i H => ∃ xs,SqT K H a xs∧xs.length≤i⟩
noncomputable def Itr (lo : Int) (n : Nat) : It := ⟨fun i _ => i < n,fun i H x H' => H' = H∧x = .int (lo + i),fun i _ => n≤i⟩
theorem zil {P : Program} {w : World} {K : PySem.W.Frag} {tg : Expr} (a it : Addr) : Turn P w K tg (Itl K a) [it] it (fun i h => h.IsListIter it a i) where
  mem := by simp
  obj := fun i h st b hb => by
    have e : b = it := by simpa using hb
    subst e
    obtain ⟨o,e,c,d⟩ := st
    exact ⟨o,e,fun v z => by rw [d] at z; cases z⟩
  keep := fun i h h' st k => st.at fun o e => k it (by simp) o e
  item := by
    intro X hP hw hK hc i pins s σ H E I hf st hg
    subst hP hw hK
    obtain ⟨xs,x,hq,hx⟩ := hg
    obtain ⟨its,rv,p,hz⟩ := I.list hq
    obtain ⟨u,hu,ru⟩ := rv.get hx
    obtain ⟨f0,f1,f2,f3,f4,f5⟩ := hf it (by simp)
    refine wpAny_pyNext_list_item st p.isList (x := u) (by simpa using hu) fun h' st' sb => ?_
    have I1 : Inv X pins σ H { s with heap := h' } := I.turned (t' := s.toks) (fun b o hb e => (sb.2 b hb).trans e) f0 f1 f3 f4 f5
    obtain ⟨o,e,c,d⟩ := id st'
    exact ⟨u,rfl,zk6 (s := { s with heap := h' }) e c d (by decide) ⟨x,H,I1,ru,⟨rfl,fun ys hy => by rw [I.list_inj hy hq]; exact hx⟩,st',fun b hb => (hf b hb).1⟩⟩
  done := by
    intro X hP hw hK hc i pins s σ H E I hf st hg
    subst hP hw hK
    obtain ⟨xs,hq,hx⟩ := hg
    obtain ⟨its,rv,p,hz⟩ := I.list hq
    obtain ⟨f0,f1,f2,f3,f4,f5⟩ := hf it (by simp)
    have hl := rv.length
    exact wpAny_pyNext_list_end (I.ok.hd hc) st p.isList (by simp; omega) fun h' eb => ⟨rfl,I.turned (t' := s.toks) (fun b o hb e => eb b o hb e) f0 f1 f3 f4 f5⟩
  self := fun _ _ _ _ _ st h => wpAny_pyIter_listiter st h
theorem zhN {P : Program} {w : World} {K : PySem.W.Frag} {tg : Expr} (a it : Addr) : Turn P w K tg (Itt K a) [it] it (fun i h => h.IsTupleIter it a i) where
  mem := by simp
  obj := fun i h st b hb => by
    have e : b = it := by simpa using hb
    subst e
    obtain ⟨o,e,c,d⟩ := st
    exact ⟨o,e,fun v z => by rw [d] at z; cases z⟩
  keep := fun i h h' st k => st.at fun o e => k it (by simp) o e
  item := by
    intro X hP hw hK hc i pins s σ H E I hf st hg
    subst hP hw hK
    obtain ⟨xs,x,hq,hx⟩ := hg
    obtain ⟨its,rv,p,hz⟩ := I.tuple hq
    obtain ⟨u,hu,ru⟩ := rv.get hx
    obtain ⟨f0,f1,f2,f3,f4,f5⟩ := hf it (by simp)
    refine wpAny_pyNext_tuple_item st (show s.heap.IsTuple a its.toArray from p) (x := u) (by simpa using hu) fun h' st' sb => ?_
    have I1 : Inv X pins σ H { s with heap := h' } := I.turned (t' := s.toks) (fun b o hb e => (sb.2 b hb).trans e) f0 f1 f3 f4 f5
    obtain ⟨o,e,c,d⟩ := id st'
    exact ⟨u,rfl,zk6 (s := { s with heap := h' }) e c d (by decide) ⟨x,H,I1,ru,⟨rfl,fun ys hy => by rw [I.tuple_inj hy hq]; exact hx⟩,st',fun b hb => (hf b hb).1⟩⟩
  done := by
    intro X hP hw hK hc i pins s σ H E I hf st hg
    subst hP hw hK
    obtain ⟨xs,hq,hx⟩ := hg
    obtain ⟨its,rv,p,hz⟩ := I.tuple hq
    obtain ⟨f0,f1,f2,f3,f4,f5⟩ := hf it (by simp)
    have hl := rv.length
    exact wpAny_pyNext_tuple_end (I.ok.hd hc) st (show s.heap.IsTuple a its.toArray from p) (by simp; omega) fun h' eb => ⟨rfl,I.turned (t' := s.toks) (fun b o hb e => eb b o hb e) f0 f1 f3 f4 f5⟩
  self := fun _ _ _ _ _ st h => wpAny_pyIter_tupleiter st h
theorem zhO {P : Program} {w : World} {K : PySem.W.Frag} {tg : Expr} (it : Addr) (lo : Int) (n : Nat) : Turn P w K tg (Itr lo n) [it] it (fun i h => IsRangeIter h it (lo + (i : Nat) * 1) ((n : Int) - (i : Nat)) 1) where
  mem := by simp
  obj := fun i h st b hb => by
    have e : b = it := by simpa using hb
    subst e
    exact ⟨_,st,fun v z => by
      have z' : Data.fields _ = Data.cell v := z
      cases z'⟩
  keep := fun i h h' st k => k it (by simp) _ st
  item := by
    intro X hP hw hK hc i pins s σ H E I hf st hg
    subst hP hw hK
    obtain ⟨f0,f1,f2,f3,f4,f5⟩ := hf it (by simp)
    have W := Walks.range (prog := X.prog) (w := X.w) (I.ok.hd hc) it lo 1 n
    refine W.item i s _ _ hg st fun v h' tk hv st' kk => ?_
    obtain ⟨t,rfl⟩ := hv
    have I1 : Inv X pins σ H { s with heap := h',toks := tk } := I.turned (fun b o hb e => kk b o (by simpa using hb) e) f0 f1 f3 f4 f5
    refine ⟨_,rfl,zk6 (s := { s with heap := h',toks := tk }) (n := "range_iterator") st' rfl rfl (by decide) ⟨.int (lo + i),H,I1,⟨t,?_⟩,⟨rfl,rfl⟩,st',fun b hb => (hf b hb).1⟩⟩
    rw [Int.mul_one]
  done := by
    intro X hP hw hK hc i pins s σ H E I hf st hg
    subst hP hw hK
    obtain ⟨f0,f1,f2,f3,f4,f5⟩ := hf it (by simp)
    exact wpAny_pyNext_range_end (I.ok.hd hc) st (by have : n≤i := hg; omega) fun h' eb => ⟨rfl,I.turned (t' := s.toks) (fun b o hb e => eb b o hb e) f0 f1 f3 f4 f5⟩
  self := fun _ _ _ _ _ st h => wpAny_pyIter_rangeiter st h
end L2
namespace L2
open PySem PySem.Spec PyProof.Rows
section
variable {X : Cx} {tg : Expr}
theorem zkC {pins : List (Addr × Obj)} {σ : St} {H : Hp} {s : Shared} {R : It→Hp→Prop} {E : Value→Shared→Prop} {lo hi : Int} {t u v : Tok} {tk : Nat} (I : Inv X pins σ H s) (h1 : -(2 ^ 62)≤lo) (h2 : lo < 2 ^ 62) (h3 : -(2 ^ 62)≤hi) (h4 : hi < 2 ^ 62)
    (q : R (Itr lo (hi - lo).toNat) H) : wpAny (model X.prog X.w) X.A (pyIter (.ref s.heap.objs.size)) (PIE X pins σ tg R) E { s with heap := s.heap.push { cls := .type "range",data := .fields #[.int lo t,.int hi u,.int 1 v] },toks := tk } := by
  refine wpAny_pyIter_range (IsRange.new ..) (small_one h1 h2 h3 h4) ?_
  have I1 : Inv X pins σ H { s with heap := s.heap.push { cls := .type "range",data := .fields #[.int lo t,.int hi u,.int 1 v] },toks := tk } := I.kept fun b o e => Heap.get?_push_of_some _ e
  refine ⟨(s.heap.push { cls := .type "range",data := .fields #[.int lo t,.int hi u,.int 1 v] }).objs.size,[(s.heap.push { cls := .type "range",data := .fields #[.int lo t,.int hi u,.int 1 v] }).objs.size],_,_,H,rfl,
    I1.kept (t' := tk) fun b o e => Heap.get?_push_of_some _ e,zhO _ lo (hi - lo).toNat,?_,fun b hb => ?_,q⟩
  · have e1 : lo + ((0 : Nat) : Int) * 1 = lo := by simp
    have e2 : (((hi - lo).toNat : Nat) : Int) - ((0 : Nat) : Int) = Builtin.Range.rangeSize lo hi 1 := by rw [rangeSize_one]; split <;> omega
    show IsRangeIter _ _ (lo + ((0 : Nat) : Int) * 1) ((((hi - lo).toNat : Nat) : Int) - ((0 : Nat) : Int)) 1
    rw [e1,e2]
    exact Heap.get?_push_size _ rfl
  · have e : b = (s.heap.push { cls := .type "range",data := .fields #[.int lo t,.int hi u,.int 1 v] }).objs.size := by simpa using hb
    subst e
    exact I1.fpOk (Nat.le_refl _) (I1.hok.fresh (Nat.le_refl _))
noncomputable def zqF (ta : TA) : TI := fun σ H R => ta σ H fun vs H1 => ∃ j : Int,vs = [.int j]∧-(2 ^ 62)≤j∧j < 2 ^ 62∧R (Itr 0 j.toNat) H1
theorem ziZ {a : Expr} {ta : TA} {p pos : Pos} (hg : Gl X "range") (hm : X.mg "range" = none) (ha : PA X [a] ta) (hs : starEach [a] X.env = [(false,eval a X.env)] := by rfl) : PI X tg (.Call (.Name "range" p) [a] [] pos) (zqF ta) := by
  intro pins s σ H R I h
  refine Call_ (zgc I hg hm boot_range (PyProof.Rows.callWith_type1 (thn (ha pos pins s σ H _ I h) fun us s1 ⟨vs,H1,I1,r1,q1⟩ => ?_) hs rfl))
  obtain ⟨j,e,q1,q2,q⟩ := q1
  subst e
  cases r1 with
  | cons r rr =>
    cases rr
    obtain ⟨t,rfl⟩ := r
    exact call_range_1 (zkC I1 (by omega) (by omega) q1 q2 (by simpa using q))
noncomputable def tFor (wi : TI) (g : TG) (tb : TS) : TS := fun D σ H => wi σ H fun J H1 => ∃ W : Nat→Nat→St→Hp→Prop,(∃ m,W 0 m σ H1)∧∀ i m σ H,W i m σ H →
  (J.stop i H∧D.nx σ H)∨(J.go i H∧∃ N : St→Hp→Prop,(∀ σ' H',N σ' H'→∃ m',m' < m∧W (i + 1) m' σ' H')∧∀ x H',J.yld i H x H'→g x σ H' fun σ2 H2 => tb { D with nx := N,ct := N,bk := D.nx } σ2 H2)
noncomputable def zf5 (fp : List Addr) (h : Heap) : List (Addr × Obj) := fp.filterMap fun b => (h.get? b).map fun o => (b,o)
theorem zcL {fp : List Addr} {h : Heap} {b : Addr} {o : Obj} (hb : b∈fp) (e : h.get? b = some o) : (b,o)∈zf5 fp h := List.mem_filterMap.mpr ⟨b,hb,by rw [e]; rfl⟩
theorem zi9 {fp : List Addr} {h : Heap} {p : Addr × Obj} (hp : p∈zf5 fp h) : p.1∈fp∧h.get? p.1 = some p.2 := by
  obtain ⟨b,hb,e⟩ := List.mem_filterMap.mp hp
  cases q : h.get? b with
  | none => rw [q] at e; cases e
  | some o =>
    rw [q] at e
    have e' : (b,o) = p := Option.some.inj e
    subst e'
    exact ⟨hb,q⟩
theorem Inv.pinned {pins : List (Addr × Obj)} {σ : St} {H : Hp} {s : Shared} {fp : List Addr} (I : Inv X pins σ H s) (hf : ∀ b∈fp,FpOk X pins H b) (ho : ∀ b∈fp,∃ o,s.heap.get? b = some o∧∀ v,o.data≠.cell v) : Inv X (pins++zf5 fp s.heap) σ H s :=
  I.pins_of fun p hp => (List.mem_append.mp hp).elim (fun z => I.pin p (List.mem_append_right _ z)) fun z => by
    obtain ⟨hb,e⟩ := zi9 z
    obtain ⟨f0,f1,f2,_⟩ := hf p.1 hb
    obtain ⟨o,e',d⟩ := ho p.1 hb
    rw [e] at e'; cases e'
    exact ⟨e,f0,f1,f2,d⟩
theorem Inv.unpinned {pins pl : List (Addr × Obj)} {σ : St} {H : Hp} {s : Shared} (I : Inv X (pins++pl) σ H s) : Inv X pins σ H s := I.pins_of fun p hp => I.pin p (List.mem_append_right _ (List.mem_append_left _ hp))
theorem zf4 {iter : Expr} {body : List Stmt} {wi : TI} {g : TG} {tb : TS} {pos : Pos} (hp : PassesOwn (model X.prog X.w) X.A X.env X.xe) (hc : X.calm = true) (hi : PI X tg iter wi) (hg : PG X tg g) (hb : PSs X body tb)
    (hs : ∀ x,foldedSetIterable iter X.env x = pure x := by intro _; rfl) : PS X (.For tg iter body [] pos) (tFor wi g tb) := by
  intro pins s σ H D I h
  refine wpAny_For (thn (hi pins s σ H _ I h) fun v s1 h1 => thn h1 fun itv s2 h2 => ?_) hs
  obtain ⟨it,fp,tn,J,H2,e,I2,T,st2,f2,W,⟨m0,w0⟩,turn⟩ := h2
  subst e
  have stat : ∀ {H' : Hp},(∀ b∈fp,H' b = none)→∀ b∈fp,FpOk X pins H' b := fun hn b hb => ⟨hn b hb,(f2 b hb).2⟩
  refine codeAny_forLoop_any (fun n s' => ∃ i σ' H',Inv X pins σ' H' s'∧tn i s'.heap∧(∀ b∈fp,H' b = none)∧W i n σ' H') ?_ m0 ⟨0,σ,H2,I2,st2,fun b hb => (f2 b hb).1,w0⟩
  rintro n s3 ⟨i,σ3,H3,I3,st3,fr3,w3⟩
  rcases turn i n σ3 H3 w3 with ⟨stop,qn⟩ | ⟨go,N,hN,step⟩
  · refine wpAny_passesOwn hp (thn (T.done X rfl rfl rfl hc i pins s3 σ3 H3 X.xe I3 (stat fr3) st3 stop) fun r s4 ⟨hr,I4⟩ => ?_)
    subst hr
    exact wpAny_execs_nil ⟨σ3,H3,I4,qn⟩
  · refine wpAny_passesOwn hp (thn (T.item X rfl rfl rfl hc i pins s3 σ3 H3 X.xe I3 (stat fr3) st3 go) fun r s4 ⟨u,hr,h4⟩ => ?_)
    subst hr
    refine wpAny_passesOwn hp (thn h4 fun _ s5 ⟨x,H5,I5,r5,y5,st5,fr5⟩ => ?_)
    have I5' := I5.pinned (stat fr5) (T.obj _ _ st5)
    refine wpAny_passesOwn hp (thn (hg _ s5 σ3 H5 x u _ I5' r5 (step x H5 y5)) fun _ s6 ⟨σ6,H6,I6,q6⟩ => ?_)
    refine wpAny_passesOwn hp (thn (hb _ s6 σ6 H6 _ I6 q6) fun f s7 q7 => ?_)
    have again : ∀ {σ7 : St} {H7 : Hp},Inv X (pins++zf5 fp s5.heap) σ7 H7 s7→N σ7 H7→∃ m,m < n∧∃ i σ' H',Inv X pins σ' H' s7∧tn i s7.heap∧(∀ b∈fp,H' b = none)∧W i m σ' H' := fun {σ7 H7} I7 n7 => by
      obtain ⟨m',hm,w7⟩ := hN σ7 H7 n7
      refine ⟨m',hm,i + 1,σ7,H7,I7.unpinned,T.keep _ _ _ st5 fun b hb o e => (I7.pin (b,o) (List.mem_append_right _ (List.mem_append_right _ (zcL hb e)))).1,fun b hb => ?_,w7⟩
      obtain ⟨o,e,d⟩ := T.obj _ _ st5 b hb
      exact (I7.pin (b,o) (List.mem_append_right _ (List.mem_append_right _ (zcL hb e)))).2.1
    cases f with
    | next => obtain ⟨σ7,H7,I7,n7⟩ := q7; exact again I7 n7
    | cont => obtain ⟨σ7,H7,I7,n7⟩ := q7; exact again I7 n7
    | brk => obtain ⟨σ7,H7,I7,q7⟩ := q7; exact ⟨σ7,H7,I7.unpinned,q7⟩
    | ret v => obtain ⟨x7,σ7,H7,I7,r7,q7⟩ := q7; exact ⟨x7,σ7,H7,I7.unpinned,r7,q7⟩
end
end L2
namespace L2
open PySem PySem.Spec PyProof.Rows
noncomputable abbrev R2 := V→V→Hp→VK→Prop
noncomputable def OpR (X : Cx) (f : Value→Value→Sem Value) (r : R2) : Prop :=
  ∀ (pins : List (Addr × Obj)) (s : Shared) (σ : St) (H : Hp) (x y : V) (v u : Value) (Q : VK),Inv X pins σ H s→RelV x v→RelV y u→r x y H Q →
    wpAny (model X.prog X.w) X.A (f v u) (EP X pins σ Q) X.xe s
noncomputable def UnR (X : Cx) (f : Value→Sem Value) (r : V→Hp→VK→Prop) : Prop :=
  ∀ (pins : List (Addr × Obj)) (s : Shared) (σ : St) (H : Hp) (x : V) (v : Value) (Q : VK),Inv X pins σ H s→RelV x v→r x H Q →
    wpAny (model X.prog X.w) X.A (f v) (EP X pins σ Q) X.xe s
noncomputable def zdn (X : Cx) (f : Value) (r : List V→Hp→VK→Prop) : Prop :=
  ∀ (pins : List (Addr × Obj)) (s : Shared) (σ : St) (H : Hp) (xs : List V) (us : List Value) (Q : VK),Inv X pins σ H s→Vals xs us→r xs H Q →
    wpAny (model X.prog X.w) X.A (call f us) (EP X pins σ Q) X.xe s
noncomputable def TruR (X : Cx) (r : V→Hp→(Bool→Hp→Prop)→Prop) : Prop :=
  ∀ (pins : List (Addr × Obj)) (s : Shared) (σ : St) (H : Hp) (x : V) (v : Value) (Q : Bool→Hp→Prop),Inv X pins σ H s→RelV x v→r x H Q →
    wpAny (model X.prog X.w) X.A (truthy v) (TP X pins σ Q) X.xe s
noncomputable def tOp (r : R2) (ta tb : TE) : TE := fun σ H Q => ta σ H fun x H1 => tb σ H1 fun y H2 => r x y H2 Q
noncomputable def tUn (r : V→Hp→VK→Prop) (ta : TE) : TE := fun σ H Q => ta σ H fun x H1 => r x H1 Q
noncomputable def rI (C : Int→Int→Prop) (g : Int→Int→V) : R2 := fun x y H Q => ∃ i j,x = .int i∧y = .int j∧C i j∧Q (g i j) H
noncomputable def rI0 (g : Int→Int→V) : R2 := fun x y H Q => ∃ i j,x = .int i∧y = .int j∧Q (g i j) H
noncomputable def rU (g : Int→V) : V→Hp→VK→Prop := fun x H Q => ∃ i,x = .int i∧Q (g i) H
section
variable {X : Cx} {a b c : Expr} {ta tb tc : TE} {pos : Pos}
theorem binT (ha : PE X a ta) (hb : PE X b tb) {pins : List (Addr × Obj)} {s : Shared} {σ : St} {H : Hp} {R : V→V→Hp→Prop} (I : Inv X pins σ H s)
    (h : ta σ H fun x H1 => tb σ H1 fun y H2 => R x y H2) {Q : Value→Shared→Prop} {f : Value→Value→Sem Value}
    (hf : ∀ v u s2 x y H2,Inv X pins σ H2 s2→RelV x v→RelV y u→R x y H2→wpAny (model X.prog X.w) X.A (f v u) Q X.xe s2) :
    wpAny (model X.prog X.w) X.A (eval a X.env) (fun v s₁ => wpAny (model X.prog X.w) X.A (eval b X.env) (fun u s₂ => wpAny (model X.prog X.w) X.A (f v u) Q X.xe s₂) X.xe s₁) X.xe s := by
  refine thn (ha pins s σ H _ I h) fun v s1 ⟨x,H1,I1,r1,q1⟩ => ?_
  refine thn (hb pins s1 σ H1 _ I1 q1) fun u s2 ⟨y,H2,I2,r2,q2⟩ => ?_
  exact hf v u s2 x y H2 I2 r1 r2 q2
theorem zoz {op : Operator} {r : R2} (ho : OpR X (binaryOp op) r) (ha : PE X a ta) (hb : PE X b tb) : PE X (.BinOp a op b pos) (tOp r ta tb) := by
  intro pins s σ H Q I h
  exact wpAny_BinOp (binT ha hb I h fun v u s2 x y H2 I2 rx ry q => ho pins s2 σ H2 x y v u Q I2 rx ry q)
theorem zqq {op : UnaryOp} {r : V→Hp→VK→Prop} (ho : UnR X (unaryOp op) r) (ha : PE X a ta) : PE X (.UnaryOp op a pos) (tUn r ta) := by
  intro pins s σ H Q I h
  exact UnaryOp_ (thn (ha pins s σ H _ I h) fun v s1 ⟨x,H1,I1,r1,q1⟩ => ho pins s1 σ H1 x v Q I1 r1 q1)
theorem opI {f : Value→Value→Sem Value} {C : Int→Int→Prop} {g : Int→Int→Int}
    (rule : ∀ (i j : Int) (t u : Tok) (s : Shared) (Q : Value→Shared→Prop) (E : Value→Shared→Prop),C i j→Q (.int (g i j) s.toks) { s with toks := s.toks + 1 }→wpAny (model X.prog X.w) X.A (f (.int i t) (.int j u)) Q E s) :
    OpR X f (rI C fun i j => .int (g i j)) := by
  intro pins s σ H x y v u Q I rx ry h
  obtain ⟨i,j,rfl,rfl,hc,q⟩ := h
  obtain ⟨t,rfl⟩ := rx
  obtain ⟨t',rfl⟩ := ry
  exact rule i j t t' s _ _ hc ⟨.int (g i j),H,I.tok _,⟨_,rfl⟩,q⟩
theorem opI0 {f : Value→Value→Sem Value} {g : Int→Int→Int}
    (rule : ∀ (i j : Int) (t u : Tok) (s : Shared) (Q : Value→Shared→Prop) (E : Value→Shared→Prop),Q (.int (g i j) s.toks) { s with toks := s.toks + 1 }→wpAny (model X.prog X.w) X.A (f (.int i t) (.int j u)) Q E s) :
    OpR X f (rI0 fun i j => .int (g i j)) := by
  intro pins s σ H x y v u Q I rx ry h
  obtain ⟨i,j,rfl,rfl,q⟩ := h
  obtain ⟨t,rfl⟩ := rx
  obtain ⟨t',rfl⟩ := ry
  exact rule i j t t' s _ _ ⟨.int (g i j),H,I.tok _,⟨_,rfl⟩,q⟩
theorem opB0 {f : Value→Value→Sem Value} {g : Int→Int→Bool}
    (rule : ∀ (i j : Int) (t u : Tok) (s : Shared) (Q : Value→Shared→Prop) (E : Value→Shared→Prop),Q (.bool (g i j)) s→wpAny (model X.prog X.w) X.A (f (.int i t) (.int j u)) Q E s) :
    OpR X f (rI0 fun i j => .bl (g i j)) := by
  intro pins s σ H x y v u Q I rx ry h
  obtain ⟨i,j,rfl,rfl,q⟩ := h
  obtain ⟨t,rfl⟩ := rx
  obtain ⟨t',rfl⟩ := ry
  exact rule i j t t' s _ _ ⟨.bl (g i j),H,I,rfl,q⟩
noncomputable def CDiv (i j : Int) : Prop := 0 < j∧j < 1073741824
noncomputable def CPow (i j : Int) : Prop := 0≤j∧j≤1000000∧i.natAbs < 2 ^ 64
noncomputable def CMul (i j : Int) : Prop := (-(2 ^ 64) < i∧i < 2 ^ 64)∨(-(2 ^ 64) < j∧j < 2 ^ 64)
theorem CMul.ok {i j : Int} (h : CMul i j) : IntMulOk i j := by
  rcases h with ⟨h1,h2⟩ | ⟨h1,h2⟩
  · exact .of_left (intBits_le_64 h1 h2)
  · exact .of_right (intBits_le_64 h1 h2)
theorem zoP : OpR X (binaryOp .Add) (rI0 fun i j => .int (i + j)) := opI0 fun _ _ _ _ _ _ _ q => add_int q
theorem zoG : OpR X (binaryOp .Sub) (rI0 fun i j => .int (i - j)) := opI0 fun _ _ _ _ _ _ _ q => sub_int q
theorem zoJ : OpR X (binaryOp .Mult) (rI CMul fun i j => .int (i * j)) := opI fun _ _ _ _ _ _ _ hc q => mul_int q hc.ok
theorem zmL : OpR X (binaryOp .FloorDiv) (rI CDiv fun i j => .int (i / j)) := opI fun i j _ _ _ _ _ hc q => by
  have h1 : (0 : Int) < j := hc.1
  have h2 : j < 1073741824 := hc.2
  exact floordiv_int (by omega) (by rw [Int.fdiv_eq_ediv_of_nonneg i (by omega)]; exact q) (.inl (PyProof.noPylong_small (by omega)))
theorem zoK : OpR X (binaryOp .Mod) (rI (fun _ j => 0 < j) fun i j => .int (i % j)) := opI fun i j _ _ _ _ _ hc q => by
  have h1 : (0 : Int) < j := hc
  exact mod_int' (by omega) (by rw [Int.fmod_eq_emod_of_nonneg i (by omega)]; exact q)
theorem zoI : OpR X (binaryOp .Pow) (rI CPow fun i j => .int (i ^ j.toNat)) := opI fun _ _ _ _ _ _ _ hc q => pow_int_small hc.1 hc.2.1 hc.2.2 q
theorem unI {f : Value→Sem Value} {g : Int→Int}
    (rule : ∀ (i : Int) (t : Tok) (s : Shared) (Q : Value→Shared→Prop) (E : Value→Shared→Prop),Q (.int (g i) s.toks) { s with toks := s.toks + 1 }→wpAny (model X.prog X.w) X.A (f (.int i t)) Q E s) :
    UnR X f (rU fun i => .int (g i)) := by
  intro pins s σ H x v Q I rx h
  obtain ⟨i,rfl,q⟩ := h
  obtain ⟨t,rfl⟩ := rx
  exact rule i t s _ _ ⟨.int (g i),H,I.tok _,⟨_,rfl⟩,q⟩
theorem znB : UnR X (unaryOp .USub) (rU fun i => .int (-i)) := unI fun _ _ _ _ _ q => neg_int q
end
noncomputable def scal : V→V→Bool
  | .non,.non => true | .non,.int _ => true | .int _,.non => true | .non,.bl _ => true | .bl _,.non => true | .non,.str _ => true | .str _,.non => true
  | .int _,.int _ => true | .bl _,.bl _ => true | .str _,.str _ => true | .byt _,.byt _ => true
  | .int _,.str _ => true | .str _,.int _ => true | .bl _,.str _ => true | .str _,.bl _ => true
  | _,_ => false
noncomputable def rEq : R2 := fun x y H Q => scal x y = true∧Q (.bl (decide (x = y))) H
noncomputable def rNe : R2 := fun x y H Q => scal x y = true∧Q (.bl (! decide (x = y))) H
theorem zg1 {i j : Int} : decide (V.int i = V.int j) = (i == j) := by
  rw [Bool.eq_iff_iff]
  simp
theorem zjV {i j : Bool} : decide (V.bl i = V.bl j) = (i == j) := by
  rw [Bool.eq_iff_iff]
  simp
theorem zg0 {i j : Str} : decide (V.str i = V.str j) = (i == j) := by
  rw [Bool.eq_iff_iff]
  simp
theorem zjU {i j : Array UInt8} : decide (V.byt i = V.byt j) = (i.toList == j.toList) := by
  rw [Bool.eq_iff_iff]
  cases i
  cases j
  simp
section
variable {X : Cx} {a b c : Expr} {ta tb tc : TE} {pos : Pos}
theorem zaE {pins : List (Addr × Obj)} {σ : St} {H : Hp} {s : Shared} {Q : VK} {k k' : Bool} (I : Inv X pins σ H s) (q : Q (.bl k) H) (e : k = k') : EP X pins σ Q (.bool k') s := by
  subst e
  exact ⟨.bl k,H,I,rfl,q⟩
theorem zoO : OpR X (compareOp .Eq) rEq := by
  intro pins s σ H x y v u Q I rx ry h
  obtain ⟨hs,q⟩ := h
  cases x with
  | non =>
    cases rx
    cases y with
    | non => cases ry; exact PySem.EqNone.eq_none_none (zaE I q (by simp))
    | bl j => cases ry; exact PySem.EqNone.eq_none_bool (zaE I q (by simp))
    | int j => obtain ⟨t',rfl⟩ := ry; exact PySem.EqNone.eq_none_int (zaE I q (by simp))
    | str j => obtain ⟨t',rfl⟩ := ry; exact PySem.EqNone.eq_none_str (zaE I q (by simp))
    | _ => exact absurd (show false = true from hs) Bool.false_ne_true
  | bl i =>
    cases rx
    cases y with
    | non => cases ry; exact PySem.EqNone.eq_bool_none (zaE I q (by simp))
    | bl j => cases ry; exact eq_bool (zaE I q zjV)
    | str j => obtain ⟨t',rfl⟩ := ry; exact PySem.EqMixed.eq_bool_str (zaE I q (by simp))
    | _ => exact absurd (show false = true from hs) Bool.false_ne_true
  | int i =>
    obtain ⟨t,rfl⟩ := rx
    cases y with
    | non => cases ry; exact PySem.EqNone.eq_int_none (zaE I q (by simp))
    | int j => obtain ⟨t',rfl⟩ := ry; exact eq_int (zaE I q zg1)
    | str j => obtain ⟨t',rfl⟩ := ry; exact PySem.EqMixed.eq_int_str (zaE I q (by simp))
    | _ => exact absurd (show false = true from hs) Bool.false_ne_true
  | str i =>
    obtain ⟨t,rfl⟩ := rx
    cases y with
    | non => cases ry; exact PySem.EqNone.eq_str_none (zaE I q (by simp))
    | bl j => cases ry; exact PySem.EqMixed.eq_str_bool (zaE I q (by simp))
    | int j => obtain ⟨t',rfl⟩ := ry; exact PySem.EqMixed.eq_str_int (zaE I q (by simp))
    | str j => obtain ⟨t',rfl⟩ := ry; exact eq_str (zaE I q zg0)
    | _ => exact absurd (show false = true from hs) Bool.false_ne_true
  | byt i =>
    obtain ⟨t,rfl⟩ := rx
    cases y with
    | byt j => obtain ⟨t',rfl⟩ := ry; exact PySem.W.eq_bytes (zaE I q zjU)
    | _ => exact absurd (show false = true from hs) Bool.false_ne_true
  | _ => cases y <;> exact absurd (show false = true from hs) Bool.false_ne_true
theorem zqs : OpR X (compareOp .NotEq) rNe := by
  intro pins s σ H x y v u Q I rx ry h
  obtain ⟨hs,q⟩ := h
  cases x with
  | non =>
    cases rx
    cases y with
    | non => cases ry; exact PySem.EqNone.ne_none_none (zaE I q (by simp))
    | bl j => cases ry; exact PySem.EqNone.ne_none_bool (zaE I q (by simp))
    | int j => obtain ⟨t',rfl⟩ := ry; exact PySem.EqNone.ne_none_int (zaE I q (by simp))
    | str j => obtain ⟨t',rfl⟩ := ry; exact PySem.EqNone.ne_none_str (zaE I q (by simp))
    | _ => exact absurd (show false = true from hs) Bool.false_ne_true
  | bl i =>
    cases rx
    cases y with
    | non => cases ry; exact PySem.EqNone.ne_bool_none (zaE I q (by simp))
    | bl j => cases ry; exact ne_bool (zaE I q (congrArg not zjV))
    | str j => obtain ⟨t',rfl⟩ := ry; exact PySem.EqMixed.ne_bool_str (zaE I q (by simp))
    | _ => exact absurd (show false = true from hs) Bool.false_ne_true
  | int i =>
    obtain ⟨t,rfl⟩ := rx
    cases y with
    | non => cases ry; exact PySem.EqNone.ne_int_none (zaE I q (by simp))
    | int j => obtain ⟨t',rfl⟩ := ry; exact ne_int (zaE I q (congrArg not zg1))
    | str j => obtain ⟨t',rfl⟩ := ry; exact PySem.EqMixed.ne_int_str (zaE I q (by simp))
    | _ => exact absurd (show false = true from hs) Bool.false_ne_true
  | str i =>
    obtain ⟨t,rfl⟩ := rx
    cases y with
    | non => cases ry; exact PySem.EqNone.ne_str_none (zaE I q (by simp))
    | bl j => cases ry; exact PySem.EqMixed.ne_str_bool (zaE I q (by simp))
    | int j => obtain ⟨t',rfl⟩ := ry; exact PySem.EqMixed.ne_str_int (zaE I q (by simp))
    | str j => obtain ⟨t',rfl⟩ := ry; exact ne_str (zaE I q (congrArg not zg0))
    | _ => exact absurd (show false = true from hs) Bool.false_ne_true
  | byt i =>
    obtain ⟨t,rfl⟩ := rx
    cases y with
    | byt j => obtain ⟨t',rfl⟩ := ry; exact PySem.W.ne_bytes (zaE I q (congrArg not zjU))
    | _ => exact absurd (show false = true from hs) Bool.false_ne_true
  | _ => cases y <;> exact absurd (show false = true from hs) Bool.false_ne_true
theorem zoL : OpR X (compareOp .Lt) (rI0 fun i j => .bl (decide (i < j))) := opB0 fun _ _ _ _ _ _ _ q => lt_int q
theorem zqt : OpR X (compareOp .Gt) (rI0 fun i j => .bl (decide (j < i))) := opB0 fun _ _ _ _ _ _ _ q => gt_int q
theorem zi4 : OpR X (compareOp .In) (fun x y H Q => ∃ i j,x = .str i∧y = .str j∧Q (.bl (!(Builtin.Str.occurrences j i 0 j.length 1).isEmpty)) H) := by
  intro pins s σ H x y v u Q I rx ry h
  obtain ⟨i,j,rfl,rfl,q⟩ := h
  obtain ⟨t,rfl⟩ := rx
  obtain ⟨t',rfl⟩ := ry
  exact in_str (zaE I q rfl)
theorem OpR.or {f : Value→Value→Sem Value} {r r' : R2} (h : OpR X f r) (h' : OpR X f r') : OpR X f (fun x y H Q => r x y H Q∨r' x y H Q) := by
  intro pins s σ H x y v u Q I rx ry q
  rcases q with q | q
  · exact h pins s σ H x y v u Q I rx ry q
  · exact h' pins s σ H x y v u Q I rx ry q
theorem ze2 (b : Expr) {op : CmpOp} (h : op≠.In := by decide) (h2 : op≠.NotIn := by decide) : behindInMarks op b = false := by
  have e1 : (op == CmpOp.In) = false := by cases op <;> first | rfl | exact absurd rfl h
  have e2 : (op == CmpOp.NotIn) = false := by cases op <;> first | rfl | exact absurd rfl h2
  cases b <;> simp [behindInMarks,e1,e2]
theorem zmE {op : CmpOp} {r : R2} (ho : OpR X (compareOp op) r) (ha : PE X a ta) (hb : PE X b tb) (hm : behindInMarks op b = false) : PE X (.Compare a [op] [b] pos) (tOp r ta tb) := by
  intro pins s σ H Q I h
  exact wpAny_Compare1 (binT ha hb I h fun v u s2 x y H2 I2 rx ry q => ho pins s2 σ H2 x y v u Q I2 rx ry q) hm
noncomputable def zp3 (t : TE) : TT := fun σ H Q => t σ H fun x H' => ∃ k,x = .bl k∧Q k H'
theorem zmy {op : CmpOp} {r : R2} (ho : OpR X (compareOp op) r) (ha : PE X a ta) (hb : PE X b tb) (hm : behindInMarks op b = false) : PT X (.Compare a [op] [b] pos) (zp3 (tOp r ta tb)) := by
  intro pins s σ H Q I h
  refine wpAny_isTrue_Compare1 (thn (ha pins s σ H _ I h) fun v s1 ⟨x,H1,I1,r1,q1⟩ => thn (hb pins s1 σ H1 _ I1 q1) fun u s2 ⟨y,H2,I2,r2,q2⟩ =>
    thn (ho pins s2 σ H2 x y v u _ I2 r1 r2 q2) fun c s3 ⟨z,H3,I3,r3,k,e,q3⟩ => ?_) hm
  subst e
  cases r3
  exact wpAny_truthy_bool ⟨H3,I3,q3⟩
noncomputable def TruV (K : PySem.W.Frag) (x : V) (H : Hp) (k : Bool) : Prop :=
  match x with
  | .non => k = false
  | .bl b => k = b
  | .int i => k = (i != 0)
  | .str y => y.length≤sizeLine∧k = ((y.length : Int) != 0)
  | .byt y => y.size≤sizeLine∧k = ((y.size : Int) != 0)
  | .ref p => (∃ xs,SqL K H p xs∧k = ! xs.isEmpty)∨(∃ xs,SqT K H p xs∧k = ! xs.isEmpty)∨∃ kvs,Rd H p (.dK kvs)∧k = ! kvs.isEmpty
  | _ => False
theorem zh7 {κ : Type} {kvs : List (κ × V)} {vs : List (κ × Value)} (r : KV kvs vs) : (! vs.isEmpty) = ! kvs.isEmpty := by
  cases r <;> rfl
theorem ze7 {xs : List V} {its : List Value} (r : Vals xs its) : (! its.toArray.isEmpty) = ! xs.isEmpty := by
  cases r <;> simp
theorem ze5 : (sizeLine : Nat) < 2 ^ 63 := by rw [sizeLine_eq]; decide
theorem znH : TruR X (fun x H Q => ∃ k,TruV X.K x H k∧Q k H) := by
  intro pins s σ H x v Q I rx h
  obtain ⟨k,e,q⟩ := h
  have hl := ze5
  have hs : sizeLine = 16777216 := sizeLine_eq
  cases x with
  | non =>
    cases rx
    have e' : k = false := e
    subst e'
    exact truthy_none ⟨H,I,q⟩
  | bl b =>
    cases rx
    have e' : k = b := e
    subst e'
    exact wpAny_truthy_bool ⟨H,I,q⟩
  | int i =>
    obtain ⟨t,rfl⟩ := rx
    have e' : k = (i != 0) := e
    subst e'
    exact PySem.P.truthy_int ⟨H,I,q⟩
  | str y =>
    obtain ⟨t,rfl⟩ := rx
    obtain ⟨hy,e'⟩ : y.length≤sizeLine∧k = ((y.length : Int) != 0) := e
    subst e'
    exact PySem.P.truthy_str (by omega) ⟨H,I.tok _,q⟩
  | byt y =>
    obtain ⟨t,rfl⟩ := rx
    obtain ⟨hy,e'⟩ : y.size≤sizeLine∧k = ((y.size : Int) != 0) := e
    subst e'
    exact PySem.W.truthy_bytes (by omega) ⟨H,I.tok _,q⟩
  | ref p =>
    cases rx
    have e' : (∃ xs,SqL X.K H p xs∧k = ! xs.isEmpty)∨(∃ xs,SqT X.K H p xs∧k = ! xs.isEmpty)∨∃ kvs,Rd H p (.dK kvs)∧k = ! kvs.isEmpty := e
    rcases e' with ⟨xs,hx,e'⟩ | ⟨xs,hx,e'⟩ | ⟨kvs,hx,e'⟩
    · subst e'
      obtain ⟨its,r,pl,hz⟩ := I.list hx
      have hlen := r.length
      exact wpAny_truthy_list pl.isList (by simp only [List.size_toArray]; omega) ⟨H,I.tok _,by rw [ze7 r]; exact q⟩
    · subst e'
      obtain ⟨its,r,pl,hz⟩ := I.tuple hx
      have hlen := r.length
      exact truthy_tuple pl (by simp only [List.size_toArray]; omega) ⟨H,I.tok _,by rw [ze7 r]; exact q⟩
    · subst e'
      obtain ⟨hz,hS,vs,r,m⟩ : kvs.length≤sizeLine∧(p == sysModules) = false∧∃ vs,KV kvs vs∧s.heap.DictOf (za4 X.prog X.w) p vs := hx.ok I.hok
      have hlen : kvs.length = vs.length := Paired.length r
      exact wpAny_truthy_dict hS m (by omega) ⟨H,I.tok _,by rw [zh7 r]; exact q⟩
  | _ => exact (show False from e).elim
theorem zkF (ha : PE X a ta) (he : ∀ whole,isTrue a X.env whole = (do let v ← whole; standAt a.pos; holding [v] (truthy v))) :
    PT X a (fun σ H Q => ta σ H fun x H' => ∃ k,TruV X.K x H' k∧Q k H') := by
  intro pins s σ H Q I h
  exact isTrue_plain (thn (ha pins s σ H _ I h) fun v s1 ⟨x,H1,I1,r1,q1⟩ => znH pins s1 σ H1 x v Q I1 r1 q1) (he _)
theorem zh1 : OpR X (binaryOp .Add) (fun x y H Q => ∃ i j,x = .str i∧y = .str j∧i.length + j.length≤sizeLine∧Q (.str (i++j)) H) := by
  intro pins s σ H x y v u Q I rx ry h
  obtain ⟨i,j,rfl,rfl,hz,q⟩ := h
  obtain ⟨t,rfl⟩ := rx
  obtain ⟨t',rfl⟩ := ry
  exact add_str (fun t' tk => ⟨.str (i++j),H,I.tok _,⟨_,rfl⟩,q⟩) hz
theorem zfP {x : V} {us : List Value} (r : Vals [x] us) : ∃ u,us = [u]∧RelV x u := by
  cases r with
  | cons r1 r2 => cases r2; exact ⟨_,rfl,r1⟩
theorem znA {x y : V} {us : List Value} (r : Vals [x,y] us) : ∃ u w',us = [u,w']∧RelV x u∧RelV y w' := by
  cases r with
  | cons r1 r2 =>
    cases r2 with
    | cons r3 r4 => cases r4; exact ⟨_,_,rfl,r1,r3⟩
theorem zlq : zdn X (.builtin "abs") (fun xs H Q => ∃ i,xs = [.int i]∧Q (.int (if i < 0 then -i else i)) H) := by
  intro pins s σ H xs us Q I r h
  obtain ⟨i,rfl,q⟩ := h
  obtain ⟨u,rfl,t,rfl⟩ := zfP r
  exact call_abs_int fun u tk => ⟨.int (if i < 0 then -i else i),H,I.tok _,⟨_,rfl⟩,q⟩
noncomputable def LenV (K : PySem.W.Frag) (x : V) (H : Hp) (n : Nat) : Prop :=
  match x with
  | .str y => y.length≤sizeLine∧n = y.length
  | .byt y => y.size≤sizeLine∧n = y.size
  | .ref p => (∃ xs,SqL K H p xs∧n = xs.length)∨∃ xs,SqT K H p xs∧n = xs.length
  | _ => False
theorem zln : zdn X (.builtin "len") (fun xs H Q => ∃ x n,xs = [x]∧LenV X.K x H n∧Q (.int n) H) := by
  intro pins s σ H xs us Q I r h
  obtain ⟨x,n,rfl,e,q⟩ := h
  obtain ⟨u,rfl,rx⟩ := zfP r
  have hl := ze5
  have hs : sizeLine = 16777216 := sizeLine_eq
  cases x with
  | str y =>
    obtain ⟨t,rfl⟩ := rx
    obtain ⟨hy,e'⟩ : y.length≤sizeLine∧n = y.length := e
    subst e'
    exact len_str (by omega) ⟨.int _,H,I.tok _,⟨_,rfl⟩,q⟩
  | byt y =>
    obtain ⟨t,rfl⟩ := rx
    obtain ⟨hy,e'⟩ : y.size≤sizeLine∧n = y.size := e
    subst e'
    exact PySem.W.len_bytes (by omega) ⟨.int _,H,I.tok _,⟨_,rfl⟩,q⟩
  | ref p =>
    cases rx
    have e' : (∃ xs,SqL X.K H p xs∧n = xs.length)∨∃ xs,SqT X.K H p xs∧n = xs.length := e
    rcases e' with ⟨xs,hx,e'⟩ | ⟨xs,hx,e'⟩
    · subst e'
      obtain ⟨its,r',pl,hz⟩ := I.list hx
      have hlen := r'.length
      exact Calls.call_len_list pl.isList (by simp only [List.size_toArray]; omega) ⟨.int xs.length,H,I.tok _,⟨_,by simp only [List.size_toArray]; rw [hlen]⟩,q⟩
    · subst e'
      obtain ⟨its,r',pl,hz⟩ := I.tuple hx
      have hlen := r'.length
      exact len_tuple pl (by simp only [List.size_toArray]; omega) ⟨.int xs.length,H,I.tok _,⟨_,by simp only [List.size_toArray]; rw [hlen]⟩,q⟩
  | _ => exact (show False from e).elim
end
end L2
namespace L2
open PySem PySem.Spec PyProof.Rows
structure ObjM (h : Heap) (x dx C : Addr) (mA : Str→Option Value) : Prop where
  obj : h.get? x = some (PySem.W.instObj C dx)
  ns : h.Ns1 dx mA
  ne : dx≠x
section
variable {prog : Program} {w : World} {A : Around} {E : Value → Shared → Prop} {s : Shared} {K : PySem.W.Frag} {x dx C f : Addr} {mA : Str → Option Value} {name : Str} {v : Value}
end
theorem RelO.some_of {v : V} {o : Option Value} (r : RelO (some v) o) : ∃ u,o = some u∧RelV v u := by
  cases o with
  | none => exact (show False from r).elim
  | some u => exact ⟨u,rfl,r⟩
section
variable {P : Program} {w : World} {H H' : Hp} {h h' : Heap} {a C dx : Addr} {fs fs' : List (Str × V)}
end
structure Cls (K : PySem.W.Frag) (C : Addr) : Prop where
  pg : PySem.W.plainGet K C Str.empty = true
  hd : PySem.W.hasDictIn K C = true
  po : PySem.W.plainOver K C = true
  sa : PySem.W.findIn K (.ref C) "__setattr__" = some (some (.builtin "object.__setattr__"))
theorem Cls.get {K : PySem.W.Frag} {C : Addr} (c : Cls K C) (f : Str) : PySem.W.plainGet K C f = true := c.pg
structure Con (K : PySem.W.Frag) (C : Addr) (f : Str) (v : V) (u : Value) : Prop where
  at_ : PySem.W.findIn K (.ref C) f = some (some u)
  rel : RelV v u
  get : PySem.W.specialIn K u "__get__" = some none
  cp : PySem.W.copiedNames.contains f = false
structure Meth (K : PySem.W.Frag) (C : Addr) (m : Str) (f : Addr) : Prop where
  at_ : PySem.W.findIn K (.ref C) m = some (some (.ref f))
  fn : PySem.W.isFn K (.ref f) = true
  kp : PySem.W.keepIn K (.ref f) = true
section
variable {X : Cx} {pins : List (Addr × Obj)} {σ : St} {H : Hp} {s : Shared} {a C dx : Addr} {fs : List (Str × V)} {f : Str} {v : V} {A : Around} {E : Value → Shared → Prop}
end
section
variable {X : Cx} {o e value : Expr} {f : Str} {pos pos' tpos : Pos} {ta tv : TE}
end
section
variable {X : Cx} {pins : List (Addr × Obj)} {σ : St} {H : Hp} {s : Shared} {A : Around} {E : Value → Shared → Prop} {Q : Value → Shared → Prop} {c : Value} {b : Bool}
inductive TyOf (K : PySem.W.Frag) (H : Hp) : V→Value→Prop where
  | non : TyOf K H .non (.type "NoneType")
  | bl (x : Bool) : TyOf K H (.bl x) (.type "bool")
  | int (i : Int) : TyOf K H (.int i) (.type "int")
  | str (x : Str) : TyOf K H (.str x) (.type "str")
  | flt (x : UInt64) : TyOf K H (.flt x) (.type "float")
  | lst {a : Addr} {xs : List V} (e : H a = some (.lst xs)) : TyOf K H (.ref a) (.type "list")
  | frz {a : Addr} {o : Obj} {xs : List V} (e : H a = some (.frz o (.lst xs))) : TyOf K H (.ref a) (.type "list")
  | tup {a : Addr} {xs : List V} (e : H a = some (.tup xs)) : TyOf K H (.ref a) (.type "tuple")
  | dK {a : Addr} {kvs : List (Key × V)} (e : H a = some (.dK kvs)) : TyOf K H (.ref a) (.type "dict")
  | dT {a : Addr} {kvs : List (List Key × V)} (e : H a = some (.dT kvs)) : TyOf K H (.ref a) (.type "dict")
  | ins {a C dx : Addr} {fs : List (Str × V)} (e : H a = some (.ins C dx fs)) (cl : Cls K C) (ha : PySem.W.findIn K (.ref C) "__class__" = some (some (.builtin "object.__class__")))
      (hn : PySem.W.specialIn K (.builtin "object.__class__") "__get__" = some (some (.builtin "getset_descriptor.__get__"))) (htk : PySem.W.takesIn K (.builtin "object.__class__") = some true)
      (hm : PySem.W.mroIn K C (.type "object") = some true) : TyOf K H (.ref a) (.ref C)
end
end L2
namespace L2
open PySem PySem.Spec PyProof.Rows
structure Room (k : Nat) (A : Around) : Prop where
  hd : A.handled = none
  dp : A.depth + 3 * k + 5 < recursionLimit
  un : A.units + 16 * k + 200 < cLine
theorem Room.mono {j k : Nat} {A : Around} (r : Room k A) (h : j≤k) : Room j A := ⟨r.hd,by have := r.dp; omega,by have := r.un; omega⟩
theorem Room.deeper {k : Nat} {A : Around} (r : Room (k + 1) A) (env : Env) : Room k (A.deeper env) :=
  ⟨r.hd,by have := r.dp; show A.depth + 1 + 3 * k + 5 < _; omega,by have := r.un; show A.units + 3 + 16 * k + 200 < _; omega⟩
theorem Room.depth {k : Nat} {A : Around} (r : Room k A) : A.depth < recursionLimit := by have := r.dp; omega
theorem Room.units {k : Nat} {A : Around} (r : Room k A) : A.units + 64 < cLine := by have := r.un; omega
noncomputable def tNil : TA := fun _ H Q => Q [] H
noncomputable def zp8 (ta : TE) (tr : TA) : TA := fun σ H Q => ta σ H fun x H1 => tr σ H1 fun xs H2 => Q (x::xs) H2
section
variable {X : Cx} {e : Expr} {es : List Expr} {te : TE} {t : TA} {pos : Pos}
theorem zdT : PA X [] tNil := fun _ _ _ _ H Q I h => Calls.spliced_nil ⟨[],H,I,.nil,h⟩
theorem zbR (ha : PE X e te) (hr : PA X es t) (hs : starEach (e::es) X.env = (false,eval e X.env)::starEach es X.env := by rfl) : PA X (e::es) (zp8 te t) := by
  intro pos pins s σ H Q I h
  rw [hs]
  show wpAny _ _ (spliced ((false,eval e X.env)::backTo pos (starEach es X.env))) _ _ s
  refine Calls.spliced_cons (thn (ha pins s σ H _ I h) fun u s1 ⟨x,H1,I1,r1,q1⟩ => ?_)
  exact thn (hr pos pins s1 σ H1 _ I1 q1) fun us s2 ⟨xs,H2,I2,r2,q2⟩ => ⟨x::xs,H2,I2,.cons r1 r2,q2⟩
noncomputable def tTup (t : TA) : TE := fun σ H Q => t σ H fun xs H1 => xs.length≤sizeLine∧∀ p,H1 p = none→Q (.ref p) (upd H1 p (.tup xs))
noncomputable def tLst (t : TA) : TE := fun σ H Q => t σ H fun xs H1 => xs.length≤sizeLine∧∀ p,H1 p = none→Q (.ref p) (upd H1 p (.lst xs))
theorem zoy {x1} (h : PA X es t) : PE X (.Tuple es x1 pos) (tTup t) := by
  intro pins s σ H Q I hq
  refine wpAny_Tuple_spliced (thn (h pos pins s σ H _ I hq) fun us s1 ⟨xs,H1,I1,r,z,q⟩ => ⟨by rw [← r.length]; exact z,?_⟩)
  have hf : H1 s1.heap.objs.size = none := I1.hok.fresh (Nat.le_refl _)
  refine ⟨.ref s1.heap.objs.size,upd H1 s1.heap.objs.size (.tup xs),I1.laid (t' := s1.toks) (fun b u e => Heap.get?_push_of_some _ e) (Nat.le_refl _) ?_,rfl,q _ hf⟩
  exact ⟨z,us,r,⟨_,Heap.get?_push_size _ rfl,rfl,_,rfl⟩,_,Heap.get?_push_size _ rfl,rfl⟩
theorem zlF (h : PA X es t) : PE X (.List es pos) (tLst t) := by
  intro pins s σ H Q I hq
  refine wpAny_List_spliced (thn (h pos pins s σ H _ I hq) fun us s1 ⟨xs,H1,I1,r,z,q⟩ => ⟨by rw [← r.length]; exact z,?_⟩)
  have hf : H1 s1.heap.objs.size = none := I1.hok.fresh (Nat.le_refl _)
  refine ⟨.ref s1.heap.objs.size,upd H1 s1.heap.objs.size (.lst xs),I1.laid (t' := s1.toks) (fun b u e => Heap.get?_push_of_some _ e) (Nat.le_refl _) ?_,rfl,q _ hf⟩
  exact ⟨z,us,0,r,Heap.get?_push_size _ rfl⟩
end
noncomputable abbrev Sp := List V→Hp→VK→XK→Prop
noncomputable abbrev CXT := List Env→Hp→Shared→XK→Value→Shared→Prop
structure Env0 (P : Program) (w : World) (K : PySem.W.Frag) (mg : Str→Option Value) (base : Heap) (A : Around) (outer : List Env) (s : Shared) (H : Hp) : Prop where
  frames : A.frames = some outer
  mod : Mod K mg base
  bs : ∀ b o,base.get? b = some o→s.heap.get? b = some o∧H b = none
  bsz : base.objs.size≤s.heap.objs.size
  funs : s.heap.FunFrames base outer
  frf : ∀ b∈frs outer,H b = none
  hok : HOk P w H s.heap
  bare : AllBare s.gens
noncomputable def CE (outer : List Env) (P : Program) (w : World) (H : Hp) (s : Shared) (Q : VK) (u : Value) (s' : Shared) : Prop :=
  ∃ v H',s'.os = s.os∧AllBare s'.gens∧Un (frs outer) [] H H' s.heap s'.heap∧HOk P w H' s'.heap∧RelV v u∧Q v H'
noncomputable def CR (CX : CXT) (outer : List Env) (P : Program) (w : World) (H : Hp) (s : Shared) (Q : VK) (E : XK) (r : Result) (s' : Shared) : Prop :=
  match r with
  | .ok (.ret u) => CE outer P w H s Q u s'
  | .ok _ => False
  | .error e => CX outer H s E e s'
structure FnOk (P : Program) (w : World) (K : PySem.W.Frag) (mg : Str→Option Value) (base : Heap) (CX : CXT) (k : Nat) (f : Addr) (fd : FuncData) (ps : List Str) (sp : Sp) : Prop where
  len : ∀ vs H Q E,sp vs H Q E→vs.length = ps.length
  run : ∀ (A : Around) (outer : List Env) (s : Shared) (H : Hp) (args : Args) (us : List Value) (vs : List V) (Q : VK) (E : XK),Room k A→Env0 P w K mg base A outer s H→BindsTo s fd args (ps.zip us)→Vals vs us→sp vs H Q E →
    codeAny (model P w) A (.call (.ref f) args) (CR CX outer P w H s Q E) s
theorem FnOk.mono {P : Program} {w : World} {K : PySem.W.Frag} {mg : Str→Option Value} {base : Heap} {CX : CXT} {j k : Nat} {f : Addr} {fd : FuncData} {ps : List Str} {sp : Sp} (F : FnOk P w K mg base CX j f fd ps sp) (h : j≤k) :
    FnOk P w K mg base CX k f fd ps sp := ⟨F.len,fun A outer s H args us vs Q E hr => F.run A outer s H args us vs Q E (hr.mono h)⟩
section
variable {X : Cx} {pins : List (Addr × Obj)} {σ : St} {H : Hp} {s s' : Shared}
theorem Inv.env0 (I : Inv X pins σ H s) : Env0 X.prog X.w X.K X.mg X.base X.A X.stack s H :=
  ⟨I.ok.frames,I.ok.mod,I.bs,Nat.le_trans I.ok.bsz I.sz,I.stack,I.stkFree,I.hok,I.bare⟩
theorem Inv.after {Q : VK} {u : Value} (I : Inv X pins σ H s) (h : CE X.stack X.prog X.w H s Q u s') : EP X pins σ Q u s' := by
  obtain ⟨v,H',os,bare,un,hok,r,q⟩ := h
  obtain ⟨hh,g,d,t,os'⟩ := s'
  obtain rfl : os' = s.os := os
  exact ⟨v,H',I.call (h' := hh) (g' := g) (d' := d) (t' := t) (ch := []) un hok bare (fun b z => absurd z (by simp)),r,q⟩
end
noncomputable def zp9 (sp : Sp) (dvs : List V) (E : XK) (t : TA) : TE := fun σ H Q => t σ H fun vs H1 => sp (vs++dvs) H1 Q E
noncomputable def zfK (K : PySem.W.Frag) (fd : FuncData) (ps : List Str) (ds : List Value) : Prop :=
  ∀ (s : Shared) (us : List Value),K.In s.heap→(us++ds).length = ps.length→BindsTo s fd ⟨us,[]⟩ (ps.zip (us++ds))
theorem zfK.all {K : PySem.W.Frag} {fd : FuncData} {ps : List Str} (h : ∀ us : List Value,us.length = ps.length→bindArgs fd ⟨us,[]⟩ = pure (ps.zip us)) : zfK K fd ps [] := fun s us _ hl => by
  rw [List.append_nil] at hl ⊢
  exact .of_eq (h us hl)
noncomputable def zkf (CX : CXT) (X : Cx) (E : XK) : Prop := ∀ (pins : List (Addr × Obj)) (σ : St) (H : Hp) (s : Shared) (e : Value) (s' : Shared),Inv X pins σ H s→CX X.stack H s E e s'→X.xe e s'
section
variable {X : Cx} {CX : CXT} {k : Nat} {f C : Addr} {fd : FuncData} {ps : List Str} {sp : Sp} {dvs : List V} {ds : List Value} {E : XK} {x m : Str} {p pos apos : Pos} {e o : Expr} {es : List Expr} {ta : TE} {t : TA}
theorem zod {pins : List (Addr × Obj)} {σ : St} {H : Hp} {s : Shared} {Q : VK} {us : List Value} {vs : List V} (F : FnOk X.prog X.w X.K X.mg X.base CX k f fd ps sp) (hr : Room k X.A) (hb : zfK X.K fd ps ds) (hd : Vals dvs ds) (hx : zkf CX X E)
    (I : Inv X pins σ H s) (r : Vals vs us) (h : sp (vs++dvs) H Q E) : wpAny (model X.prog X.w) X.A (call (.ref f) us) (EP X pins σ Q) X.xe s := by
  have r2 : Vals (vs++dvs) (us++ds) := r.append hd
  have hl : (us++ds).length = ps.length := by rw [← r2.length]; exact F.len _ _ _ _ h
  refine wpAny_call (codeAny_mono (F.run X.A X.stack s H ⟨us,[]⟩ (us++ds) (vs++dvs) Q E hr I.env0 (hb s us I.kIn hl) r2 h) fun r s' hq => ?_)
  cases r with
  | error e => exact hx pins σ H s e s' I hq
  | ok fl =>
    cases fl with
    | ret u => exact I.after hq
    | next => exact False.elim hq
    | brk => exact False.elim hq
    | cont => exact False.elim hq
theorem zi1 (F : FnOk X.prog X.w X.K X.mg X.base CX k f fd ps sp) (hr : Room k X.A) (hg : Gl X x) (hm : X.mg x = some (.ref f)) (hk : PySem.W.keepIn X.K (.ref f) = true) (hb : zfK X.K fd ps ds) (hd : Vals dvs ds) (hx : zkf CX X E)
    (ha : PA X (e::es) t) (hdb : (x == ("__debug__" : Str)) = false := by decide) (he : starEach (e::es) X.env = (false,eval e X.env)::starEach es X.env := by rfl) (hpl : (backTo pos (starEach es X.env)).any (·.1) = false := by rfl) :
    PE X (.Call (.Name x p) (e::es) [] pos) (zp9 sp dvs E t) := by
  intro pins s σ H Q I h
  refine wpAny_Call_Name_kw (zjq I hg hm ?_ hdb)
  refine PySem.W.callWith_K (h₀ := X.base) I.ok.mod.kin hk (thn (ha pos pins s σ H _ I h) fun us s1 ⟨vs,H1,I1,r,q⟩ => ⟨I1.kIn,?_⟩) he hpl
  exact zod F hr hb hd hx I1 r q
structure Mk (K : PySem.W.Frag) (C f : Addr) : Prop where
  makes : PySem.W.makesIn K C = true
  init : PySem.W.findIn K (.ref C) "__init__" = some (some (.ref f))
  fn : PySem.W.isFn K (.ref f) = true
  kp : PySem.W.keepIn K (.ref C) = true
end
section
variable {X : Cx} {CX : CXT} {k : Nat} {f C : Addr} {fd : FuncData} {ps ks : List Str} {sp : Sp} {E : XK} {x m : Str} {p pos apos kpos : Pos} {e o : Expr} {es : List Expr} {kws : List Keyword} {te ta : TE} {t tk : TA} {nm : Option Str}
structure KBinds (K : PySem.W.Frag) (fd : FuncData) (ps ks : List Str) (g : List Value→List Value→List Value) (gV : List V→List V→List V) : Prop where
  to : ∀ (s : Shared) (us ws : List Value),K.In s.heap→(g us ws).length = ps.length→BindsTo s fd ⟨us,ks.zip ws⟩ (ps.zip (g us ws))
  rel : ∀ {vs : List V} {us : List Value} {zs : List V} {ws : List Value},Vals vs us→Vals zs ws→Vals (gV vs zs) (g us ws)
variable {g : List Value → List Value → List Value} {gV : List V → List V → List V}
end
structure FnScope (N P : List Str) (sc : Scope) : Prop where
  kind : sc.kind = .function
  co : sc.isCoroutine = false
  gen : sc.isGenerator = false
  nd : N.Nodup
  pre : N.take P.length = P
  par : ∀ x∈P,sc.names.lookup x = some .local∨sc.names.lookup x = some .cell
  nofree : ∀ y∈sc.names,y.2≠.free
theorem zgt {kindOf : Str→Option NameKind} {x : Str} : ∀ {binds : List (Str × Value)} {m : Str→Option Value},(∀ v,(x,v)∉binds)→bindL kindOf binds m x = m x
  | [],_,_ => rfl
  | (n,v)::r,m,h => by
    unfold bindL
    rw [zgt fun w hw => h w (List.mem_cons_of_mem _ hw)]
    split
    · have : x≠n := by rintro rfl; exact h v List.mem_cons_self
      simp [this]
    · rfl
theorem zgv {kindOf : Str→Option NameKind} {x : Str} : ∀ {binds : List (Str × Value)} {m : Str→Option Value},(∀ v,(x,v)∉binds)→bindC kindOf binds m x = m x
  | [],_,_ => rfl
  | (n,v)::r,m,h => by
    unfold bindC
    rw [zgv fun w hw => h w (List.mem_cons_of_mem _ hw)]
    split
    · rfl
    · have : x≠n := by rintro rfl; exact h v List.mem_cons_self
      simp [this]
theorem zgu {kindOf : Str→Option NameKind} {x : Str} {v : Value} : ∀ {P : List Str} {vs : List Value} {i : Nat} {m : Str→Option Value},P.Nodup→P[i]? = some x→vs[i]? = some v→kindOf x = some .local →
    bindL kindOf (P.zip vs) m x = some v
  | [],_,_,_,_,h,_,_ => by simp at h
  | _::_,[],_,_,_,_,h,_ => by simp at h
  | p::P,w::vs,0,m,nd,h1,h2,hk => by
    simp at h1 h2; subst h1; subst h2
    show bindL kindOf ((p,w)::P.zip vs) m p = _
    unfold bindL
    rw [zgt fun v hv => (List.nodup_cons.mp nd).1 (List.of_mem_zip hv).1,if_pos hk]
    simp
  | p::P,w::vs,i + 1,m,nd,h1,h2,hk => by
    show bindL kindOf ((p,w)::P.zip vs) m x = _
    unfold bindL
    exact zgu (i := i) (List.nodup_cons.mp nd).2 (by simpa using h1) (by simpa using h2) hk
theorem zgw {kindOf : Str→Option NameKind} {x : Str} {v : Value} : ∀ {P : List Str} {vs : List Value} {i : Nat} {m : Str→Option Value},P.Nodup→P[i]? = some x→vs[i]? = some v→kindOf x≠some .local →
    bindC kindOf (P.zip vs) m x = some v
  | [],_,_,_,_,h,_,_ => by simp at h
  | _::_,[],_,_,_,_,h,_ => by simp at h
  | p::P,w::vs,0,m,nd,h1,h2,hk => by
    simp at h1 h2; subst h1; subst h2
    show bindC kindOf ((p,w)::P.zip vs) m p = _
    unfold bindC
    rw [zgv fun v hv => (List.nodup_cons.mp nd).1 (List.of_mem_zip hv).1,if_neg hk]
    simp
  | p::P,w::vs,i + 1,m,nd,h1,h2,hk => by
    show bindC kindOf ((p,w)::P.zip vs) m x = _
    unfold bindC
    exact zgw (i := i) (List.nodup_cons.mp nd).2 (by simpa using h1) (by simpa using h2) hk
noncomputable def start (N : List Str) (vs : List V) : St := vs.map some++List.replicate (N.length - vs.length) none
noncomputable def cxOf (CX : CXT) (P : Program) (w : World) (K : PySem.W.Frag) (mg : Str→Option Value) (base : Heap) (N : List Str) (qual : Str) (scope : Scope) (f : Addr) (cd : Value) (A : Around) (outer : List Env) (s : Shared) (H : Hp) (E : XK) : Cx where
  prog := P
  w := w
  K := K
  mg := mg
  base := base
  A := A.deeper (envOfC qual scope s.heap.objs.size f cd)
  N := N
  s₀ := s
  H₀ := H
  env := envOfC qual scope s.heap.objs.size f cd
  outer := outer
  stack := envOfC qual scope s.heap.objs.size f cd::outer
  ex := []
  calm := true
  fn := fun _ => true
  pn := []
  xe := fun e s' => wpAny (model P w) (A.deeper (envOfC qual scope s.heap.objs.size f cd)) (leaving (envOfC qual scope s.heap.objs.size f cd) e) (fun _ s'' => CX outer H s E e s'') (fun e' s'' => CX outer H s E e' s'') s'
theorem zhG {sc : Scope} {n : Nat} {x : Str} (h : sc.names.lookup x = some .cell) : ∃ c,(cellsFrom n sc.names []).lookup x = some c := by
  have q := PySem.W.cellsFrom_some sc.names n [] (.inl h)
  exact Option.isSome_iff_exists.mp q
theorem zjE {CX : CXT} {P : Program} {w : World} {K : PySem.W.Frag} {mg : Str→Option Value} {base : Heap} {N ps : List Str} {qual : Str} {scope : Scope} {f : Addr} {cd : Value} {A : Around} {outer : List Env} {s s1 : Shared} {H : Hp} {E : XK} {us : List Value} {vs : List V}
    (S : FnScope N ps scope) (hd : A.handled = none) (e0 : Env0 P w K mg base A outer s H) (hl : vs.length = ps.length) (r : Vals vs us)
    (x : InCallC s s.heap.objs.size (bindL (envOfC qual scope s.heap.objs.size f cd).kindOf (ps.zip us) fun _ => none) (cellsFrom (s.heap.objs.size + 1) scope.names []) (bindC (envOfC qual scope s.heap.objs.size f cd).kindOf (ps.zip us) fun _ => none) s1) :
    Inv (cxOf CX P w K mg base N qual scope f cd A outer s H E) [] (start N vs) H s1 := by
  have hpl : ps.length≤N.length := by have := congrArg List.length S.pre; rw [List.length_take] at this; omega
  obtain ⟨h1,tk,rfl,hk⟩ := x.done
  have noA : ∀ b : Addr,b∉(cxOf CX P w K mg base N qual scope f cd A outer s H E).ex := fun b z => absurd (show b∈([] : List Addr) from z) (by simp)
  refine ⟨⟨e0.mod,S.kind,rfl,rfl,Nat.le_refl _,fun y z c h1 h2 => ?_,fun y hy => ?_,fun y c _ h => ?_,fun _ => hd,Around.frames_deeper e0.frames,.inr ⟨rfl,rfl⟩,fun b z => absurd z (noA b),e0.bs,e0.bsz,fun b _ _ => noA b,fun b z => absurd z (noA b),e0.funs,e0.frf⟩,
    rfl,e0.bare,Un.kept hk,⟨_,x.toInCall.ns,fun i y v h1 h2 h3 => ?_⟩,fun y c h => ⟨_,x.cell y c h⟩,e0.hok.fresh (Nat.le_refl _),fun y c h => ?_,fun p hp => absurd (show p∈([] : List (Addr × Obj)) from hp) (by simp),e0.hok.kept hk,?_⟩
  · exact name_of_addr x.apart (PySem.mem_of_lookup h1) (PySem.mem_of_lookup h2)
  · have hy : scope.names.lookup y = some .cell∨scope.names.lookup y = some .free := hy
    rcases hy with hy | hy
    · exact zhG hy
    · exact absurd rfl (S.nofree _ (PySem.mem_of_lookup hy))
  · exact Nat.le_of_lt (x.above y c (PySem.mem_of_lookup h))
  · have hi : i < vs.length := by
      unfold start at h2
      by_cases hi : i < vs.length
      · exact hi
      · rw [List.getElem?_append_right (by simpa using hi)] at h2
        rw [List.getElem?_replicate] at h2
        split at h2 <;> cases h2
    have ha : vs[i]? = some v := by
      unfold start at h2
      rw [List.getElem?_append_left (by simpa using hi),List.getElem?_map] at h2
      cases e : vs[i]? with
      | none => rw [e] at h2; cases h2
      | some a => rw [e] at h2; cases h2; rfl
    obtain ⟨u,hu,rv⟩ := r.get ha
    have hp : ps[i]? = some y := by
      rw [← S.pre,List.getElem?_take_of_lt (by omega)]; exact h1
    have ndP : ps.Nodup := by rw [← S.pre]; exact S.nd.sublist (List.take_sublist _ _)
    refine ⟨u,rv,?_⟩
    rcases S.par y (List.mem_of_getElem? hp) with k | k
    · exact .inl ⟨k,zgu ndP hp hu k⟩
    · obtain ⟨c,e⟩ := zhG (n := s.heap.objs.size + 1) k
      refine .inr ⟨.inl k,c,e,?_⟩
      have q := x.cell y c e
      rw [zgw ndP hp hu (by show scope.names.lookup y≠_; rw [k]; decide)] at q
      exact q
  · exact e0.hok.fresh (Nat.le_of_lt (x.above y c (PySem.mem_of_lookup h)))
  · unfold start
    show _ = N.length
    rw [List.length_append,List.length_map,List.length_replicate]
    omega
theorem zqI {CX : CXT} {P : Program} {w : World} {K : PySem.W.Frag} {mg : Str→Option Value} {base : Heap} {k : Nat} {f : Addr} {name qual : Str} {params : Arguments} {body : List Stmt} {scope : Scope} {dV kV doc pm cdv ct oc : Value} {an od : Option Addr}
    {osl : Array (Option Value)} {N ps : List Str} {sp : Sp} (lk : K.lookup f = some ⟨oc,od,.func (PySem.W.fnOf name qual params body scope dV kV doc pm an cdv ct),osl⟩) (hcd : PySem.W.codeIn K cdv qual = true) (S : FnScope N ps scope)
    (len : ∀ vs H Q E,sp vs H Q E→vs.length = ps.length)
    (hbody : ∀ (A : Around) (outer : List Env) (s : Shared) (H : Hp) (vs : List V) (Q : VK) (E : XK),Room k (A.deeper (envOfC qual scope s.heap.objs.size f cdv))→sp vs H Q E →
      ∃ t,PSs (cxOf CX P w K mg base N qual scope f cdv A outer s H E) body t∧t { nx := fun _ H' => Q .non H',rt := Q } (start N vs) H) :
    FnOk P w K mg base CX (k + 1) f (PySem.W.fnOf name qual params body scope dV kV doc pm an cdv ct) ps sp := by
  refine ⟨len,fun A outer s H args us vs Q E hr e0 hb r hsp => ?_⟩
  have hl := len _ _ _ _ hsp
  have KX : K.In s.heap := e0.mod.kin.keeps fun b o e => (e0.bs b o e).1
  have lim : s.heap.NoLimit := e0.mod.nolimit.keeps fun b o e => (e0.bs b o e).1
  have hkind : ∀ y∈ps.zip us,scope.names.lookup y.1 = some .local∨(scope.names.lookup y.1 = some .cell∧((cellsFrom (s.heap.objs.size + 1) scope.names []).lookup y.1).isSome = true) := fun ⟨n,v⟩ hy => by
    rcases S.par n (List.of_mem_zip hy).1 with q | q
    · exact .inl q
    · exact .inr ⟨q,PySem.W.cellsFrom_some _ _ _ (.inl q)⟩
  refine codeAny_call_function hr.depth (KX _ _ lk) rfl S.co S.gen rfl (PySem.W.codeRec_of KX hcd) (hb _ _ _ _ ?_)
  refine wpAny_newFunctionEnv_cells S.kind hkind fun env he s1 x => ?_
  subst he
  refine ⟨lim.keeps x.toInCall.keep,codeAny_func ?_⟩
  obtain ⟨t,ht,hq⟩ := hbody A outer s H vs Q E (hr.deeper _) hsp
  have I : Inv (cxOf CX P w K mg base N qual scope f cdv A outer s H E) [] (start N vs) H s1 := zjE S hr.hd e0 hl r x
  refine wpAny_mono (ht [] s1 (start N vs) H _ I hq) (fun fl s' hs => ?_) fun e s' hs => hs
  have fin : ∀ {σ' : St} {H' : Hp} {v : V} {u : Value},Inv (cxOf CX P w K mg base N qual scope f cdv A outer s H E) [] σ' H' s'→RelV v u→Q v H'→CE outer P w H s Q u s' :=
    fun {σ' H' v u} J rv q => ⟨v,H',J.os,J.bare,J.base,J.hok,rv,q⟩
  cases fl with
  | ret u =>
    obtain ⟨v,σ',H',J,rv,q⟩ := hs
    exact fin J rv q
  | next =>
    obtain ⟨σ',H',J,q⟩ := hs
    exact fin (v := V.non) (u := Value.none) J rfl q
  | brk =>
    obtain ⟨_,_,_,q⟩ := hs
    exact False.elim q
  | cont =>
    obtain ⟨_,_,_,q⟩ := hs
    exact False.elim q
end L2
namespace L2
open PySem PySem.Spec PyProof.Rows
section
variable {X : Cx} {x : Str} {p pos : Pos} {e : Expr} {es : List Expr} {t : TA} {id T : String} {r : List V → Hp → VK → Prop}
noncomputable def tCB (r : List V→Hp→VK→Prop) (t : TA) : TE := fun σ H Q => t σ H fun vs H1 => r vs H1 Q
theorem zdt (hc : zdn X (.builtin id) r) (hg : Gl X x) (hm : X.mg x = none) (hv : bootBuiltins x = some (.builtin id)) (ha : PA X (e::es) t) (hn : x≠"__name__" := by decide) (hdb : (x == ("__debug__" : Str)) = false := by decide)
    (he : starEach (e::es) X.env = (false,eval e X.env)::starEach es X.env := by rfl) (hpl : (backTo pos (starEach es X.env)).any (·.1) = false := by rfl) : PE X (.Call (.Name x p) (e::es) [] pos) (tCB r t) := by
  intro pins s σ H Q I h
  refine wpAny_Call_Name_kw (zgc I hg hm hv ?_ hn hdb)
  exact PyProof.Rows.callWith_builtin1 (thn (ha pos pins s σ H _ I h) fun us s1 ⟨vs,H1,I1,r1,q1⟩ => hc pins s1 σ H1 vs us Q I1 r1 q1) he hpl
theorem zf6 (hc : zdn X (.type T) r) (hg : Gl X x) (hm : X.mg x = none) (hv : bootBuiltins x = some (.type T)) (ha : PA X (e::es) t) (hn : x≠"__name__" := by decide) (hdb : (x == ("__debug__" : Str)) = false := by decide)
    (he : starEach (e::es) X.env = (false,eval e X.env)::starEach es X.env := by rfl) (hpl : (backTo pos (starEach es X.env)).any (·.1) = false := by rfl) : PE X (.Call (.Name x p) (e::es) [] pos) (tCB r t) := by
  intro pins s σ H Q I h
  refine wpAny_Call_Name_kw (zgc I hg hm hv ?_ hn hdb)
  exact PyProof.Rows.callWith_type1 (thn (ha pos pins s σ H _ I h) fun us s1 ⟨vs,H1,I1,r1,q1⟩ => hc pins s1 σ H1 vs us Q I1 r1 q1) he hpl
end
end L2
namespace HT
open PySem PyProof.Rows
section
open PySem.SeqAt
open PySem.AutoSeq1 (wpAny_loadPart')
open PySem.MeetsSeq PySem.MeetsSeq2 PySem.MeetsSeq3
end
section
variable {prog : Program} {w : World} {A : Around} {E : Value → Shared → Prop} {s : Shared}
theorem cat_tup {t b : Addr} {vs ws : List Value} {Q : Value→Shared→Prop} (ht : IsTup s.heap t vs.toArray) (hb : IsTup s.heap b ws.toArray) (hv : vs≠[])
    (h1 : ws = []→Q (.ref t) s) (h2 : ws≠[]→Q (.ref s.heap.objs.size) { s with heap := s.heap.push { cls := .type "tuple",data := .seq (vs++ws).toArray } })
    (hsz : vs.length + ws.length≤sizeLine) : wpAny (model prog w) A (binaryOp .Add (.ref t) (.ref b)) Q E s := by
  obtain ⟨⟨cls,dd,data,sl⟩,ho,hc,n,hd⟩ := id ht
  obtain ⟨⟨cls2,dd2,data2,sl2⟩,ho2,hc2,n2,hd2⟩ := id hb
  simp only at hc hd hc2 hd2
  subst hc hd hc2 hd2
  have e : vs.toArray++ws.toArray = (vs++ws).toArray := by simp
  by_cases hw : ws = []
  · exact concat_meets ⟨_,ho,rfl⟩ ⟨_,ho2,rfl⟩ noFill_tuple_add seq_tuple_add PySem.F.slot_tuple_add PySem.F.entry_tuple_add (PySem.F.args_tuple_add_2 _ _)
      (tuple_addW1 t b vs.toArray ws.toArray n n2 dd dd2 sl sl2 (by simpa using hv) (by simp [hw])) ⟨ho,ho2,h1 hw⟩
  · refine concat_meets ⟨_,ho,rfl⟩ ⟨_,ho2,rfl⟩ noFill_tuple_add seq_tuple_add PySem.F.slot_tuple_add PySem.F.entry_tuple_add (PySem.F.args_tuple_add_2 _ _)
      (tuple_addW2 t b vs.toArray ws.toArray n n2 dd dd2 sl sl2 (by simpa using hv) (by simpa using hw) (by rw [List.size_toArray,List.size_toArray]; exact hsz)) ⟨ho,ho2,?_⟩
    rw [e]
    exact h2 hw
noncomputable def sIx (n d : Nat) : Option Int→Nat
  | none => d
  | some v => if v < 0 then (v + (n : Int)).toNat else min v.toNat n
theorem sIx_none (n d : Nat) : sIx n d none = d := rfl
theorem sIx_nat (n d k : Nat) : sIx n d (some (k : Int)) = min k n := by
  show (if (k : Int) < 0 then ((k : Int) + (n : Int)).toNat else min (k : Int).toNat n) = min k n
  rw [if_neg (by omega),Int.toNat_natCast]
theorem zn9 (n d : Nat) (hd : d≤n) (o : Option Int) : sIx n d o≤n := by
  cases o with
  | none => exact hd
  | some v =>
    show (if v < 0 then (v + (n : Int)).toNat else min v.toNat n)≤n
    by_cases hv : v < 0
    · rw [if_pos hv]; omega
    · rw [if_neg hv]; exact Nat.min_le_right _ _
theorem zj5 (v : Int) (n d : Nat) : (if v < 0 then max (v + (n : Int)) 0 else min v (n : Int)) = ((sIx n d (some v) : Nat) : Int) := by
  show (if v < 0 then max (v + (n : Int)) 0 else min v (n : Int)) = (((if v < 0 then (v + (n : Int)).toNat else min v.toNat n) : Nat) : Int)
  by_cases hv : v < 0
  · simp only [if_pos hv]; omega
  · simp only [if_neg hv]; omega
theorem zie (lo hi : Option Int) (n : Nat) : Builtin.Slice.sliceAdjust lo hi 1 (n : Int) = (((sIx n 0 lo : Nat) : Int),((sIx n n hi : Nat) : Int)) := by
  have h1 : ¬ ((1 : Int) < 0) := by omega
  unfold Builtin.Slice.sliceAdjust
  simp only [h1,if_false]
  refine Prod.ext ?_ ?_
  · cases lo with
    | none => rfl
    | some v => exact zj5 v n 0
  · cases hi with
    | none => rfl
    | some v => exact zj5 v n n
theorem zh0 (i j : Nat) : Builtin.Slice.slicePlaces (i : Int) (j : Int) 1 = j - i := by
  unfold Builtin.Slice.slicePlaces
  have h1 : (1 : Int) > 0 := by omega
  simp only [h1,if_true,Int.ediv_one]
  split <;> omega
theorem zeY {v : Value} {o : Option Int} {Q : Option Int→Shared→Prop} (p : IsPart v o) (h : Q o s) : wpAny (model prog w) A (Builtin.Slice.slicePartIndex v) Q E s := by
  cases p with
  | none => exact slicePart_none h
  | int i t => exact slicePart_int h
theorem sliceApplied_gen {sl : Addr} {vl vu : Value} {lo hi : Option Int} {n : Nat} {Q : Int × Int × Nat→Shared→Prop} (hs : s.heap.IsSliceOf sl vl vu .none) (pl : IsPart vl lo) (pu : IsPart vu hi)
    (h : Q (((sIx n 0 lo : Nat) : Int),1,sIx n n hi - sIx n 0 lo) s) : wpAny (model prog w) A (Builtin.Slice.sliceApplied (.ref sl) (pure (n : Int))) Q E s := by
  obtain ⟨os,hos,hcs,hds⟩ := id hs
  unfold Builtin.Slice.sliceApplied Builtin.Slice.sliceFields
  refine wpAny_bind (wpAny_bind (wpAny_field hos hds (x := vl) rfl (wpAny_bind (wpAny_field hos hds (x := vu) rfl (wpAny_bind (wpAny_field hos hds (x := .none) rfl (wpAny_pure ?_)))))))
  refine wpAny_bind (slicePart_none ?_)
  show wpAny _ _ (if ((1 : Int) == 0) = true then _ else _) _ _ s
  rw [if_neg (by decide)]
  refine wpAny_bind (zeY pl (wpAny_bind (zeY pu (wpAny_bind (wpAny_pure ?_)))))
  show wpAny _ _ (match Builtin.Slice.sliceAdjust lo hi 1 (n : Int) with | (lo,hi) => pure (lo,(1 : Int),Builtin.Slice.slicePlaces lo hi 1)) _ _ s
  rw [zie lo hi n]
  show wpAny _ _ (pure (((sIx n 0 lo : Nat) : Int),(1 : Int),Builtin.Slice.slicePlaces ((sIx n 0 lo : Nat) : Int) ((sIx n n hi : Nat) : Int) 1)) _ _ s
  rw [zh0]
  exact wpAny_pure h
theorem zkJ (xs : Array Value) (i k : Nat) : ((List.range k).filterMap fun (m : Nat) => xs[((i : Int) + (m : Int) * 1).toNat]?).toArray = ((xs.toList.drop i).take k).toArray := by
  have e : (fun (m : Nat) => xs[((i : Int) + (m : Int) * 1).toNat]?) = fun m => xs[i + m]? := by
    funext m
    have : ((i : Int) + (m : Int) * 1).toNat = i + m := by omega
    rw [this]
  rw [e]
  have := pick_run xs i k
  rw [List.filterMap_map] at this
  have e2 : ((fun x => xs[x]?) ∘ fun x => i + x) = fun m => xs[i + m]? := rfl
  rw [e2] at this
  rw [this]
theorem getItem_tuple_cut {t sl : Addr} {items : Array Value} {vl vu : Value} {lo hi : Option Int} {Q : Value→Shared→Prop} (ht : IsTup s.heap t items) (hs : s.heap.IsSliceOf sl vl vu .none) (pl : IsPart vl lo) (pu : IsPart vu hi)
    (hw : ¬ (sIx items.size 0 lo = 0∧sIx items.size items.size hi = items.size))
    (h : Q (.ref s.heap.objs.size) { s with heap := s.heap.push { cls := .type "tuple",data := .seq ((items.toList.drop (sIx items.size 0 lo)).take (sIx items.size items.size hi - sIx items.size 0 lo)).toArray } })
    (hsz : items.size≤sizeLine) : wpAny (model prog w) A (getItem (.ref t) (.ref sl)) Q E s := by
  have htake : sizeOk (.seq ((items.toList.drop (sIx items.size 0 lo)).take (sIx items.size items.size hi - sIx items.size 0 lo)).toArray) := by
    show ((items.toList.drop (sIx items.size 0 lo)).take (sIx items.size items.size hi - sIx items.size 0 lo)).toArray.size≤sizeLine
    rw [List.size_toArray,List.length_take,List.length_drop,Array.length_toList]
    omega
  have hj : sIx items.size items.size hi≤items.size := zn9 _ _ (Nat.le_refl _) hi
  obtain ⟨os,hos,hcs,hds⟩ := id hs
  have hTs : s.TypeIs (.ref sl) "slice" := ⟨os,hos,hcs⟩
  unfold getItem
  try with_reducible refine wpAny_holding ?_
  first | refine wpAny_bind (wpAny_pure ?_) | skip
  refine wpAny_bind (wpAny_sequenceKey ht.typeIs (by decide) ?_)
  refine wpAny_bind (wpAny_callSpecial?_slot (name := Str.ofString "__getitem__") ht.typeIs PyProof.Rows.slot_tuple_getitem
    (wpAny_call_entry PyProof.Rows.slot_tuple_getitem ht.typeIs entry_tuple_getitem ?_ (args_tuple_getitem _ _)))
  show wpAny _ _ (Builtin.Tuple.tupleItemsOf (.ref t) >>= _) _ _ s
  refine wpAny_bind (tupleItemsOf_ ht ?_)
  refine wpAny_bind (wpAny_typeOf hTs ?_)
  rw [if_pos (by decide)]
  refine wpAny_bind (sliceApplied_gen hs pl pu ?_)
  have hno : ¬ ((((sIx items.size 0 lo : Nat) : Int) == 0 && (1 : Int) == 1 && (sIx items.size items.size hi - sIx items.size 0 lo) == items.size) = true) := by
    intro q
    rw [Bool.and_eq_true,Bool.and_eq_true] at q
    have q1 : ((sIx items.size 0 lo : Nat) : Int) = 0 := eq_of_beq q.1.1
    have q2 : sIx items.size items.size hi - sIx items.size 0 lo = items.size := eq_of_beq q.2
    exact hw ⟨by omega,by omega⟩
  show wpAny _ _ (if (((sIx items.size 0 lo : Nat) : Int) == 0 && (1 : Int) == 1 && (sIx items.size items.size hi - sIx items.size 0 lo) == items.size) = true then _ else _) _ _ s
  rw [if_neg hno,zkJ]
  first
    | exact wpAny_bind (m := Builtin.Tuple.tupleExact _) (wpAny_newObj_type (wpAny_pure ⟨_,rfl,wpAny_pure h⟩) htake)
    | exact wpAny_bind (m := Builtin.Tuple.tupleExact _) (wpAny_newObj_type (wpAny_bind (wpAny_pure (wpAny_pure ⟨_,rfl,wpAny_pure h⟩))) htake)
    | exact wpAny_bind (wpAny_bind (m := Builtin.Tuple.tupleExact _) (wpAny_newObj_type (wpAny_pure (wpAny_pure ⟨_,rfl,wpAny_pure h⟩)) htake))
    | exact wpAny_bind (wpAny_bind (m := Builtin.Tuple.tupleExact _) (wpAny_newObj_type (wpAny_pure ⟨_,rfl,wpAny_pure h⟩) htake))
end
end HT
namespace L2
open PySem PySem.Spec PyProof.Rows
noncomputable abbrev TO := St→Hp→(Option Int→Hp→Prop)→Prop
noncomputable def PO (X : Cx) (e : Option Expr) (t : TO) : Prop :=
  ∀ (pins : List (Addr × Obj)) (s : Shared) (σ : St) (H : Hp) (Q : Option Int→Hp→Prop),Inv X pins σ H s→t σ H Q →
    wpAny (model X.prog X.w) X.A (evalPart e X.env) (fun u s' => ∃ o H',Inv X pins σ H' s'∧IsPart u o∧Q o H') X.xe s
noncomputable def zmf : TO := fun _ H Q => Q none H
noncomputable def zp4 (t : TE) : TO := fun σ H Q => t σ H fun x H1 => ∃ i,x = .int i∧Q (some i) H1
theorem zh8 {ns : List Int} : ∀ {us : List Value},Vals (ns.map V.int) us→IntsAre us ns := by
  induction ns with
  | nil => intro us r; rw [List.map_nil] at r; cases r; exact .nil
  | cons n ns ih =>
    intro us r
    rw [List.map_cons] at r
    cases r with
    | cons r1 r2 =>
      obtain ⟨t,e⟩ := r1
      subst e
      exact .cons n t (ih r2)
section
variable {X : Cx} {e : Expr} {te : TE} {lo hi : Option Expr} {tl th : TO} {pos p2 : Pos}
theorem zmA : PO X none zmf := by
  intro pins s σ H Q I h
  rw [evalPart_none]
  exact wpAny_pure ⟨none,H,I,.none,h⟩
theorem zmz (h : PE X e te) : PO X (some e) (zp4 te) := by
  intro pins s σ H Q I hw
  rw [evalPart_some]
  refine thn (h pins s σ H _ I hw) fun u s1 ⟨x,H1,I1,r1,q1⟩ => ?_
  obtain ⟨i,rfl,q⟩ := q1
  obtain ⟨t,rfl⟩ := r1
  exact ⟨some i,H1,I1,.int i t,q⟩
noncomputable def SlR (X : Cx) (r : V→Option Int→Option Int→Hp→VK→Prop) : Prop :=
  ∀ (pins : List (Addr × Obj)) (s : Shared) (σ : St) (H : Hp) (x : V) (v vl vu : Value) (lo hi : Option Int) (sl : Addr) (Q : VK),Inv X pins σ H s→RelV x v→s.heap.IsSliceOf sl vl vu .none→IsPart vl lo→IsPart vu hi→r x lo hi H Q →
    ∃ T id,typeLookup (.type T) "__getitem__" = pure (some (.builtin id))∧s.TypeIs v T∧wpAny (model X.prog X.w) X.A (getItem v (.ref sl)) (EP X pins σ Q) X.xe s
theorem SlR.or {r r' : V→Option Int→Option Int→Hp→VK→Prop} (h : SlR X r) (h' : SlR X r') : SlR X (fun x lo hi H Q => r x lo hi H Q∨r' x lo hi H Q) := by
  intro pins s σ H x v vl vu lo hi sl Q I rx hs pl pu q
  rcases q with q | q
  · exact h pins s σ H x v vl vu lo hi sl Q I rx hs pl pu q
  · exact h' pins s σ H x v vl vu lo hi sl Q I rx hs pl pu q
noncomputable def tSl (r : V→Option Int→Option Int→Hp→VK→Prop) (te : TE) (tl th : TO) : TE := fun σ H Q => te σ H fun x H1 => tl σ H1 fun l H2 => th σ H2 fun u H3 => r x l u H3 Q
theorem zhp {r : V→Option Int→Option Int→Hp→VK→Prop} (hr : SlR X r) (he : PE X e te) (hl : PO X lo tl) (hu : PO X hi th) : PE X (.Subscript e (.Slice lo hi none p2) pos) (tSl r te tl th) := by
  intro pins s σ H Q I h
  refine Subscript_ (thn (he pins s σ H _ I h) fun v s1 ⟨x,H1,I1,r1,q1⟩ => ?_)
  refine wpAny_Slice (thn (hl pins s1 σ H1 _ I1 q1) fun vl s2 ⟨l,H2,I2,pl,q2⟩ => thn (hu pins s2 σ H2 _ I2 q2) fun vu s3 ⟨u,H3,I3,pu,q3⟩ => ?_)
  rw [evalPart_none]
  refine wpAny_pure ?_
  have I4 : Inv X pins σ H3 { s3 with heap := s3.heap.push { cls := .type "slice",data := .fields #[vl,vu,.none] } } := I3.kept (t' := s3.toks) fun b ob q => Heap.get?_push_of_some _ q
  obtain ⟨T,id,hT,ht,hg⟩ := hr pins { s3 with heap := s3.heap.push { cls := .type "slice",data := .fields #[vl,vu,.none] } } σ H3 x v vl vu l u s3.heap.objs.size Q I4 r1 (Heap.IsSliceOf.new ..) pl pu q3
  show wpAny (model X.prog X.w) X.A (subscriptTail e (.Slice lo hi none p2) v (.ref s3.heap.objs.size)) (EP X pins σ Q) X.xe { s3 with heap := s3.heap.push { cls := .type "slice",data := .fields #[vl,vu,.none] } }
  exact tail_any (ops := [.ref s3.heap.objs.size,v]) ht hT hg (by with_unfolding_all rfl)
noncomputable def cutV (xs : List V) (lo hi : Option Int) : List V := (xs.drop (HT.sIx xs.length 0 lo)).take (HT.sIx xs.length xs.length hi - HT.sIx xs.length 0 lo)
theorem zeC (xs : List V) (lo hi : Option Int) : (cutV xs lo hi).length≤xs.length := by
  unfold cutV
  rw [List.length_take,List.length_drop]
  omega
noncomputable def rSlT (K : PySem.W.Frag) : V→Option Int→Option Int→Hp→VK→Prop := fun x lo hi H Q => ∃ a xs,x = .ref a∧SqT K H a xs ∧
  ¬ (HT.sIx xs.length 0 lo = 0∧HT.sIx xs.length xs.length hi = xs.length)∧∀ p,H p = none→Q (.ref p) (upd H p (.tup (cutV xs lo hi)))
theorem zlB : SlR X (rSlT X.K) := by
  intro pins s σ H x v vl vu lo hi sl Q I rx hs pl pu h
  obtain ⟨a,xs,rfl,hx,hw,q⟩ := h
  cases rx
  obtain ⟨its,r,ht,hz⟩ := I.tuple hx
  have hlen : its.toArray.size = xs.length := by rw [List.size_toArray]; exact r.length.symm
  refine ⟨"tuple",_,PyProof.Rows.slot_tuple_getitem.lookup,ht.typeIs,?_⟩
  refine HT.getItem_tuple_cut ht hs pl pu (by rw [hlen]; exact hw) ?_ (by rw [hlen]; exact hz)
  rw [hlen]
  refine ⟨.ref s.heap.objs.size,_,I.laid (t' := s.toks) (o := .tup (cutV xs lo hi)) (fun b ob q => Heap.get?_push_of_some _ q) (Nat.le_refl _) ?_,rfl,q _ (I.hok.fresh (Nat.le_refl _))⟩
  exact ⟨Nat.le_trans (zeC xs lo hi) hz,_,(r.drop (HT.sIx xs.length 0 lo)).take (HT.sIx xs.length xs.length hi - HT.sIx xs.length 0 lo),IsTup.new _ _,_,Heap.get?_push_size _ rfl,rfl⟩
noncomputable def zol (K : PySem.W.Frag) : R2 := fun x y H Q => ∃ a b xs ys,x = .ref a∧y = .ref b∧SqT K H a xs∧SqT K H b ys∧xs≠[]∧xs.length + ys.length≤sizeLine ∧
  (ys = []→Q (.ref a) H)∧(ys≠[]→∀ p,H p = none→Q (.ref p) (upd H p (.tup (xs++ys))))
theorem Vals.nil_iff {xs : List V} {us : List Value} (r : Vals xs us) : us = []↔xs = [] := by
  cases r with
  | nil => simp
  | cons _ _ => simp
theorem zmM : OpR X (binaryOp .Add) (zol X.K) := by
  intro pins s σ H x y v u Q I rx ry h
  obtain ⟨a,b,xs,ys,rfl,rfl,ha,hb,hx,hz,q1,q2⟩ := h
  cases rx
  cases ry
  obtain ⟨its,r1,p1,_⟩ := I.tuple ha
  obtain ⟨its2,r2,p2,_⟩ := I.tuple hb
  refine HT.cat_tup p1 p2 (fun z => hx (r1.nil_iff.mp z)) (fun z => ⟨.ref a,H,I,rfl,q1 (r2.nil_iff.mp z)⟩) (fun z => ?_) (by rw [← r1.length,← r2.length]; exact hz)
  refine ⟨.ref s.heap.objs.size,_,I.laid (t' := s.toks) (o := .tup (xs++ys)) (fun b ob q => Heap.get?_push_of_some _ q) (Nat.le_refl _) ?_,rfl,q2 (fun w => z (r2.nil_iff.mpr w)) _ (I.hok.fresh (Nat.le_refl _))⟩
  exact ⟨by rw [List.length_append]; exact hz,_,r1.append r2,IsTup.new _ _,_,Heap.get?_push_size _ rfl,rfl⟩
end
end L2
namespace L2
open PySem PySem.Spec PyProof.Rows
noncomputable def ixN (n : Nat) (i : Int) : Option Nat := if 0≤i then (if i < n then some i.toNat else none) else if -(n : Int)≤i then some (i + n).toNat else none
noncomputable def atI {α : Type} (xs : List α) (i : Int) : Option α := (ixN xs.length i).bind fun j => xs[j]?
theorem zjA {n : Nat} {i : Int} {j : Nat} (h : ixN n i = some j) : seqIndex? i n = some j∧j < n∧-(n : Int)≤i∧i < n := by
  unfold ixN at h
  by_cases h0 : 0≤i
  · rw [if_pos h0] at h
    by_cases h1 : i < n
    · rw [if_pos h1] at h
      have e : i.toNat = j := Option.some.inj h
      exact ⟨by rw [seqIndex_of h0 h1,e],by omega,by omega,h1⟩
    · rw [if_neg h1] at h; cases h
  · rw [if_neg h0] at h
    by_cases h1 : -(n : Int)≤i
    · rw [if_pos h1] at h
      have e : (i + n).toNat = j := Option.some.inj h
      exact ⟨by rw [seqIndex_neg (by omega) h1,e],by omega,h1,by omega⟩
    · rw [if_neg h1] at h; cases h
theorem zg6 {α : Type} {xs : List α} {i : Int} {v : α} (h : atI xs i = some v) : ∃ j,seqIndex? i xs.length = some j∧xs[j]? = some v∧j < xs.length∧-(xs.length : Int)≤i∧i < xs.length := by
  unfold atI at h
  cases e : ixN xs.length i with
  | none => rw [e] at h; cases h
  | some j =>
    rw [e] at h
    obtain ⟨h1,h2,h3,h4⟩ := zjA e
    exact ⟨j,h1,h,h2,h3,h4⟩
noncomputable def zg7 (b : Expr) : Prop := ∀ o i,subscripted b false o i = operate [o,i] (getItem o i)
noncomputable def IxR (X : Cx) (r : R2) : Prop :=
  ∀ (value slice : Expr) (pins : List (Addr × Obj)) (s : Shared) (σ : St) (H : Hp) (x y : V) (v u : Value) (Q : VK),Inv X pins σ H s→RelV x v→RelV y u→r x y H Q →
    subscripted slice false v u = operate [v,u] (getItem v u)→wpAny (model X.prog X.w) X.A (subscriptTail value slice v u) (EP X pins σ Q) X.xe s
noncomputable def MtR (X : Cx) (id : String) (r : V→List V→Hp→VK→Prop) : Prop :=
  ∀ (pins : List (Addr × Obj)) (s : Shared) (σ : St) (H : Hp) (x : V) (xs : List V) (v : Value) (us : List Value) (Q : VK),Inv X pins σ H s→RelV x v→Vals xs us→r x xs H Q →
    wpAny (model X.prog X.w) X.A (call (.builtin id) (v::us)) (EP X pins σ Q) X.xe s
section
variable {X : Cx} {a b : Expr} {ta tb : TE} {pos : Pos}
theorem IxR.or {r r' : R2} (h : IxR X r) (h' : IxR X r') : IxR X (fun x y H Q => r x y H Q∨r' x y H Q) := by
  intro value slice pins s σ H x y v u Q I rx ry q hs
  rcases q with q | q
  · exact h value slice pins s σ H x y v u Q I rx ry q hs
  · exact h' value slice pins s σ H x y v u Q I rx ry q hs
theorem zoC {r : R2} (hr : IxR X r) (ha : PE X a ta) (hb : PE X b tb) (hs : zg7 b) : PE X (.Subscript a b pos) (tOp r ta tb) := by
  intro pins s σ H Q I h
  exact Subscript_ (binT ha hb I h fun v u s2 x y H2 I2 rx ry q => hr a b pins s2 σ H2 x y v u Q I2 rx ry q (hs _ _))
noncomputable def rIxL (K : PySem.W.Frag) : R2 := fun x y H Q => ∃ p xs i v,x = .ref p∧y = .int i∧SqL K H p xs∧atI xs i = some v∧Q v H
noncomputable def rIxT (K : PySem.W.Frag) : R2 := fun x y H Q => ∃ p xs i v,x = .ref p∧y = .int i∧SqT K H p xs∧atI xs i = some v∧Q v H
noncomputable def rIxS : R2 := fun x y H Q => ∃ z i c,x = .str z∧y = .int i∧z.length≤sizeLine∧atI z.cps.toList i = some c∧Q (.str ⟨#[c]⟩) H
theorem zjz : IxR X (rIxL X.K) := by
  intro value slice pins s σ H x y v u Q I rx ry h hs
  obtain ⟨p,xs,i,z,rfl,rfl,hq,he,q⟩ := h
  cases rx
  obtain ⟨t,rfl⟩ := ry
  obtain ⟨its,r,pl,hz⟩ := I.list hq
  obtain ⟨j,h1,h2,h3,h4,h5⟩ := zg6 he
  obtain ⟨w,ew,rw'⟩ := r.get h2
  have hl := r.length
  have hn := ze5
  have fin : EP X pins σ Q w s := ⟨z,H,I,rw',q⟩
  by_cases h0 : 0≤i
  · have hj : i.toNat = j := by
      rw [seqIndex_of h0 h5] at h1
      exact Option.some.inj h1
    exact item_listR pl.isList h0 (by omega) (by rw [hj]; simpa using ew) fin hs
  · have hj : (i + (its.toArray.size : Int)).toNat = j := by
      rw [seqIndex_neg (by omega) h4] at h1
      rw [List.size_toArray,← hl]
      exact Option.some.inj h1
    exact subscriptTail_builtinR (x := w) pl.isList.typeIs slot_list_getitem.lookup
      (wpAny_getItem_list_neg (Q := fun r s' => r = w∧EP X pins σ Q r s') pl.isList (by omega) (by rw [List.size_toArray] <;> omega) (by omega) (by rw [hj]; simpa using ew) ⟨rfl,fin⟩) hs
theorem zpe : IxR X (rIxT X.K) := by
  intro value slice pins s σ H x y v u Q I rx ry h hs
  obtain ⟨p,xs,i,z,rfl,rfl,hq,he,q⟩ := h
  cases rx
  obtain ⟨t,rfl⟩ := ry
  obtain ⟨its,r,pl,hz⟩ := I.tuple hq
  obtain ⟨j,h1,h2,h3,h4,h5⟩ := zg6 he
  obtain ⟨w,ew,rw'⟩ := r.get h2
  have hl := r.length
  have hn := ze5
  have fin : EP X pins σ Q w s := ⟨z,H,I,rw',q⟩
  exact subscriptTail_builtinR (x := w) pl.typeIs slot_tuple_getitem.lookup
    (getItem_tuple (j := j) (Q := fun r s' => r = w∧EP X pins σ Q r s') pl (by omega) (by omega) (by rw [List.size_toArray,← hl]; exact h1) (by simpa using ew) ⟨rfl,fin⟩) hs
theorem zpf : IxR X rIxS := by
  intro value slice pins s σ H x y v u Q I rx ry h hs
  obtain ⟨z,i,c,rfl,rfl,hz,he,q⟩ := h
  obtain ⟨t,rfl⟩ := rx
  obtain ⟨t',rfl⟩ := ry
  obtain ⟨j,h1,h2,h3,h4,h5⟩ := zg6 he
  have hl : z.cps.toList.length = z.length := by simp [Str.length]
  rw [hl] at h1 h4 h5
  have hn := ze5
  exact tail_any (typeIs_str s z t) slot_str_getitem.lookup (getItem_str (c := c) (by
    have e1 : decide (i < -(2 ^ 63 : Int)) = false := decide_eq_false (by omega)
    have e2 : decide (i ≥ 2 ^ 63) = false := decide_eq_false (by omega)
    rw [e1,e2,Bool.or_false]) (by rw [h1]; simpa using h2) ⟨.str ⟨#[c]⟩,H,I.tok _,⟨_,rfl⟩,q⟩) hs
noncomputable def rIx (K : PySem.W.Frag) : R2 := fun x y H Q => rIxL K x y H Q∨rIxT K x y H Q∨rIxS x y H Q
theorem zpg : IxR X (rIx X.K) := zjz.or (zpe.or zpf)
theorem zh3 (its : List Value) (n j : Nat) (u : Value) : Obj.mapSeq (·.setIfInBounds j u) { cls := .type "list",data := .seq its.toArray n } = { cls := .type "list",data := .seq (its.set j u).toArray n } := by
  simp [Obj.mapSeq]
theorem Inv.lst {pins : List (Addr × Obj)} {σ : St} {H : Hp} {s : Shared} {p : Addr} {xs : List V} (I : Inv X pins σ H s) (h : H p = some (.lst xs)) :
    ∃ (its : List Value) (n : Nat),Vals xs its∧s.heap.get? p = some { cls := .type "list",data := .seq its.toArray n }∧xs.length≤sizeLine := by
  obtain ⟨z,its,n,r,e⟩ := I.hok p _ h
  exact ⟨its,n,r,e,z⟩
theorem Inv.lstUpd {pins : List (Addr × Obj)} {σ : St} {H : Hp} {s : Shared} {p : Addr} {xs ys : List V} {its its' : List Value} {n n' : Nat} {f : Obj→Obj} (I : Inv X pins σ H s) (h : H p = some (.lst xs))
    (ho : s.heap.get? p = some { cls := .type "list",data := .seq its.toArray n }) (hf : f { cls := .type "list",data := .seq its.toArray n } = { cls := .type "list",data := .seq its'.toArray n' }) (r : Vals ys its') (hz : ys.length≤sizeLine) (t : Nat) :
    Inv X pins σ (upd H p (.lst ys)) { s with heap := s.heap.update p f,toks := t } := by
  have e : (s.heap.update p f).get? p = some { cls := .type "list",data := .seq its'.toArray n' } := by
    rw [Heap.get?_update_self f ho (by rw [hf] <;> rfl),hf]
  refine I.write (x := p) (e := p) (by rw [h]; trivial) (.inl rfl) (fun b u hb q => (Heap.get?_update_other _ _ (Ne.symm hb)).trans q) ⟨_,e⟩ ?_
  exact ⟨hz,its',n',r,e⟩
noncomputable def zoi : V→V→V→Hp→(Hp→Prop)→Prop := fun o i v H Q => ∃ p xs k j,o = .ref p∧i = .int k∧H p = some (.lst xs)∧ixN xs.length k = some j∧Q (upd H p (.lst (xs.set j v)))
theorem zku : PSet X zoi := by
  intro pins s σ H o i v ov iv u Q I ro ri rv h
  obtain ⟨p,xs,k,j,rfl,rfl,hp,hj,q⟩ := h
  cases ro
  obtain ⟨t,rfl⟩ := ri
  obtain ⟨its,n,r,ho,hz⟩ := I.lst hp
  obtain ⟨h1,h2,h3,h4⟩ := zjA hj
  have hl := r.length
  have hn := ze5
  have I' : Inv X pins σ (upd H p (.lst (xs.set j v))) { s with heap := s.heap.update p (Obj.mapSeq (·.setIfInBounds j u)) } :=
    I.lstUpd hp ho (zh3 its n j u) (r.set rv j) (by rw [List.length_set]; exact hz) s.toks
  by_cases h0 : 0≤k
  · have hk : k.toNat = j := by
      rw [seqIndex_of h0 h4] at h1
      exact Option.some.inj h1
    exact PySem.W.ki_setAt ho h0 (by omega) (by rw [List.size_toArray,← hl]; exact h4) (by rw [hk]; exact ⟨_,I',q⟩)
  · have hk : (k + (its.toArray.size : Int)).toNat = j := by
      rw [seqIndex_neg (by omega) h3] at h1
      rw [List.size_toArray,← hl]
      exact Option.some.inj h1
    exact PySem.W.ki_setBack ho (by omega) (by rw [List.size_toArray,← hl]; exact h3) (by omega) (by rw [hk]; exact ⟨_,I',q⟩)
theorem zfU (lo hi : Option Int) (n : Nat) : (sliceBounds lo hi none n).1 = ((HT.sIx n 0 lo : Nat) : Int)∧(sliceBounds lo hi none n).2.1 = ((HT.sIx n n hi : Nat) : Int)∧(sliceBounds lo hi none n).2.2 = 1 := by
  refine ⟨?_,?_,rfl⟩
  · cases lo with
    | none => simp [sliceBounds,HT.sIx]
    | some i =>
      simp only [sliceBounds,HT.sIx,Option.getD_none,show (1 : Int) > 0 by decide,if_true]
      by_cases h : i < 0
      · simp only [h,if_true] <;> omega
      · simp only [h,if_false] <;> omega
  · cases hi with
    | none => simp [sliceBounds,HT.sIx]
    | some i =>
      simp only [sliceBounds,HT.sIx,Option.getD_none,show (1 : Int) > 0 by decide,if_true]
      by_cases h : i < 0
      · simp only [h,if_true] <;> omega
      · simp only [h,if_false] <;> omega
theorem zfi (its : List Value) (lo hi : Option Int) : slicePick its.toArray lo hi none = ((its.drop (HT.sIx its.length 0 lo)).take (HT.sIx its.length its.length hi - HT.sIx its.length 0 lo)).toArray := by
  obtain ⟨h1,h2,h3⟩ := zfU lo hi its.toArray.size
  unfold slicePick
  rw [h1,h2,h3]
  simp only [sliceRange_one,pick_run,List.size_toArray] <;> rfl
noncomputable def rSlL (K : PySem.W.Frag) : V→Option Int→Option Int→Hp→VK→Prop := fun x lo hi H Q => ∃ a xs,x = .ref a∧SqL K H a xs∧∀ p,H p = none→Q (.ref p) (upd H p (.lst (cutV xs lo hi)))
theorem ziC : SlR X (rSlL X.K) := by
  intro pins s σ H x v vl vu lo hi sl Q I rx hs pl pu h
  obtain ⟨a,xs,rfl,hx,q⟩ := h
  cases rx
  obtain ⟨its,r,ht,hz⟩ := I.list hx
  have hlen := r.length
  refine ⟨"list",_,slot_list_getitem.lookup,ht.isList.typeIs,?_⟩
  refine wpAny_getItem_list_slice ht.isList hs pl pu .none (by simp) ?_ (by rw [List.size_toArray] <;> omega)
  rw [zfi,← hlen]
  refine ⟨.ref s.heap.objs.size,_,I.laid (t' := s.toks) (o := .lst (cutV xs lo hi)) (fun b ob q => Heap.get?_push_of_some _ q) (Nat.le_refl _) ?_,rfl,q _ (I.hok.fresh (Nat.le_refl _))⟩
  exact ⟨Nat.le_trans (zeC xs lo hi) hz,_,0,(r.drop (HT.sIx xs.length 0 lo)).take (HT.sIx xs.length xs.length hi - HT.sIx xs.length 0 lo),Heap.get?_push_size _ rfl⟩
noncomputable def zdF : V→Bool
  | .non => true
  | .bl _ => true
  | .int _ => true
  | .str _ => true
  | _ => false
noncomputable def eqV : V→V→Bool
  | .non,.non => true
  | .bl a,.bl b => a == b
  | .bl a,.int b => (if a then 1 else 0) == b
  | .int a,.bl b => a == (if b then 1 else 0)
  | .int a,.int b => a == b
  | .str a,.str b => a == b
  | _,_ => false
theorem zpE {A : Around} {s : Shared} {y x : V} {u v : Value} (ry : RelV y u) (rx : RelV x v) (fy : zdF y = true) (fx : zdF x = true) : SeqAt.EqAt A s u v (eqV y x) := by
  cases y with
  | non =>
    cases ry
    cases x with
    | non => cases rx; exact SeqAt.EqAt.same _
    | bl b => cases rx; exact SeqAt.EqAt.none_bool b
    | int b => obtain ⟨t,rfl⟩ := rx; exact SeqAt.EqAt.none_int b t
    | str b => obtain ⟨t,rfl⟩ := rx; exact SeqAt.EqAt.none_str b t
    | _ => exact absurd (show false = true from fx) Bool.false_ne_true
  | bl a =>
    cases ry
    cases x with
    | non => cases rx; exact SeqAt.EqAt.bool_none a
    | bl b => cases rx; exact SeqAt.EqAt.bool_bool a b
    | int b => obtain ⟨t,rfl⟩ := rx; exact SeqAt.EqAt.bool_int a b t
    | str b => obtain ⟨t,rfl⟩ := rx; exact SeqAt.EqAt.bool_str a b t
    | _ => exact absurd (show false = true from fx) Bool.false_ne_true
  | int a =>
    obtain ⟨t',rfl⟩ := ry
    cases x with
    | non => cases rx; exact SeqAt.EqAt.int_none a t'
    | bl b => cases rx; exact SeqAt.EqAt.int_bool a t' b
    | int b => obtain ⟨t,rfl⟩ := rx; exact SeqAt.EqAt.int_int a t' b t
    | str b => obtain ⟨t,rfl⟩ := rx; exact SeqAt.EqAt.int_str a t' b t
    | _ => exact absurd (show false = true from fx) Bool.false_ne_true
  | str a =>
    obtain ⟨t',rfl⟩ := ry
    cases x with
    | non => cases rx; exact SeqAt.EqAt.str_none a t'
    | bl b => cases rx; exact SeqAt.EqAt.str_bool a t' b
    | int b => obtain ⟨t,rfl⟩ := rx; exact SeqAt.EqAt.str_int a t' b t
    | str b => obtain ⟨t,rfl⟩ := rx; exact SeqAt.EqAt.str_str a t' b t
    | _ => exact absurd (show false = true from fx) Bool.false_ne_true
  | _ => exact absurd (show false = true from fy) Bool.false_ne_true
noncomputable def eqU (x : V) (u : Value) : Bool := match u with
  | .none => eqV .non x
  | .bool b => eqV (.bl b) x
  | .int i _ => eqV (.int i) x
  | .str z _ => eqV (.str z) x
  | _ => false
theorem zjP {x y : V} {u : Value} (r : RelV y u) (f : zdF y = true) : eqU x u = eqV y x := by
  cases y with
  | non => cases r; rfl
  | bl b => cases r; rfl
  | int i => obtain ⟨t,rfl⟩ := r; rfl
  | str z => obtain ⟨t,rfl⟩ := r; rfl
  | _ => exact absurd (show false = true from f) Bool.false_ne_true
theorem zeG {x : V} : ∀ {xs : List V} {us : List Value},Vals xs us→xs.all zdF = true→us.any (eqU x) = xs.any fun y => eqV y x
  | _,_,.nil,_ => rfl
  | y::xs,u::us,.cons r t,f => by
    rw [List.all_cons,Bool.and_eq_true] at f
    rw [List.any_cons,List.any_cons,zjP r f.1,zeG t f.2]
theorem zcM {A : Around} {s : Shared} {x : V} {v : Value} (rx : RelV x v) (fx : zdF x = true) : ∀ {xs : List V} {us : List Value},Vals xs us→xs.all zdF = true→∀ u∈us,SeqAt.EqAt A s u v (eqU x u)
  | _,_,.nil,_ => fun u hu => by cases hu
  | y::xs,u::us,.cons r t,f => fun u' hu => by
    rw [List.all_cons,Bool.and_eq_true] at f
    rcases List.mem_cons.mp hu with rfl | hu
    · rw [zjP r f.1]; exact zpE r rx f.1 fx
    · exact zcM rx fx t f.2 u' hu
noncomputable def inV (x : V) (xs : List V) : Bool := xs.any fun y => eqV y x
noncomputable def rIn (K : PySem.W.Frag) (neg : Bool) : R2 := fun x y H Q => ∃ p xs,y = .ref p∧(SqL K H p xs∨SqT K H p xs)∧zdF x = true∧xs.all zdF = true∧Q (.bl (if neg then ! inV x xs else inV x xs)) H
theorem zi5 : OpR X (compareOp .In) (rIn X.K false) := by
  intro pins s σ H x y v u Q I rx ry h
  obtain ⟨p,xs,rfl,hq,fx,fs,q⟩ := h
  cases ry
  rcases hq with hq | hq
  · obtain ⟨its,r,pl,hz⟩ := I.list hq
    refine SeqAt.in_listAt (eqU x) pl.isList (fun w hw => zcM rx fx r fs w (by simpa using hw)) ⟨.bl _,H,I,rfl,?_⟩
    rw [show its.toArray.any (eqU x) = its.any (eqU x) by simp,zeG r fs]
    exact q
  · obtain ⟨its,r,pl,hz⟩ := I.tuple hq
    refine SeqAt.in_tupleAt (eqU x) pl (fun w hw => zcM rx fx r fs w (by simpa using hw)) ⟨.bl _,H,I,rfl,?_⟩
    rw [show its.toArray.any (eqU x) = its.any (eqU x) by simp,zeG r fs]
    exact q
theorem zf8 : OpR X (compareOp .NotIn) (rIn X.K true) := by
  intro pins s σ H x y v u Q I rx ry h
  obtain ⟨p,xs,rfl,hq,fx,fs,q⟩ := h
  cases ry
  rcases hq with hq | hq
  · obtain ⟨its,r,pl,hz⟩ := I.list hq
    refine SeqAt.notIn_listAt (eqU x) pl.isList (fun w hw => zcM rx fx r fs w (by simpa using hw)) ⟨.bl _,H,I,rfl,?_⟩
    rw [show its.toArray.any (eqU x) = its.any (eqU x) by simp,zeG r fs]
    exact q
  · obtain ⟨its,r,pl,hz⟩ := I.tuple hq
    refine SeqAt.notIn_tupleAt (eqU x) pl (fun w hw => zcM rx fx r fs w (by simpa using hw)) ⟨.bl _,H,I,rfl,?_⟩
    rw [show its.toArray.any (eqU x) = its.any (eqU x) by simp,zeG r fs]
    exact q
theorem zf7 : OpR X (compareOp .NotIn) (fun x y H Q => ∃ i j,x = .str i∧y = .str j∧Q (.bl (!(!(Builtin.Str.occurrences j i 0 j.length 1).isEmpty))) H) := by
  intro pins s σ H x y v u Q I rx ry h
  obtain ⟨i,j,rfl,rfl,q⟩ := h
  obtain ⟨t,rfl⟩ := rx
  obtain ⟨t',rfl⟩ := ry
  exact notIn_str ⟨.bl _,H,I,rfl,q⟩
theorem zdn.or {f : Value} {r r' : List V→Hp→VK→Prop} (h : zdn X f r) (h' : zdn X f r') : zdn X f (fun xs H Q => r xs H Q∨r' xs H Q) := by
  intro pins s σ H xs us Q I rs q
  rcases q with q | q
  · exact h pins s σ H xs us Q I rs q
  · exact h' pins s σ H xs us Q I rs q
theorem zfC : zdn X (.type "tuple") (fun xs H Q => ∃ p ys,xs = [.ref p]∧((SqL X.K H p ys∧∀ l,H l = none→Q (.ref l) (upd H l (.tup ys)))∨(SqT X.K H p ys∧Q (.ref p) H))) := by
  intro pins s σ H xs us Q I r h
  obtain ⟨p,ys,rfl,h⟩ := h
  obtain ⟨u,rfl,rx⟩ := zfP r
  cases rx
  rcases h with ⟨hq,q⟩ | ⟨hq,q⟩
  · obtain ⟨its,r',pl,hz⟩ := I.list hq
    have hlen := r'.length
    refine call_tuple_list pl.isList (fun h' kp => ?_) (by simp only [List.size_toArray] <;> omega)
    have I1 : Inv X pins σ H { s with heap := h' } := I.kept (t' := s.toks) kp
    have I2 : Inv X pins σ (upd H h'.objs.size (.tup ys)) { s with heap := h'.push { cls := .type "tuple",data := .seq its.toArray } } :=
      I1.laid (t' := s.toks) (fun b o e => Heap.get?_push_of_some _ e) (Nat.le_refl _) (show za8 X.prog X.w _ _ _ (.tup ys) from ⟨hz,its,r',IsTup.new _ _,_,Heap.get?_push_size _ rfl,rfl⟩)
    exact ⟨.ref h'.objs.size,_,I2,rfl,q _ (I1.hok.fresh (Nat.le_refl _))⟩
  · obtain ⟨its,r',pl,hz⟩ := I.tuple hq
    exact call_tuple_same pl ⟨.ref p,H,I,rfl,q⟩
noncomputable def tyV (K : PySem.W.Frag) (T : String) (x : V) (H : Hp) : Prop := match x with
  | .str _ => T = "str"
  | .int _ => T = "int"
  | .ref p => (T = "list"∧∃ xs,SqL K H p xs)∨(T = "tuple"∧((∃ o,K.lookup p = some o∧o.cls = .type "tuple"∧o.dict = none)∨∃ xs,Rd H p (.tup xs))) ∨
      (T = "dict"∧((∃ kvs,Rd H p (.dK kvs))∨∃ kvs,H p = some (.dT kvs)))∨(T = "set"∧∃ S n,H p = some (.set S n))
  | _ => False
theorem znD {pins : List (Addr × Obj)} {σ : St} {H : Hp} {s : Shared} {T : String} {x : V} {v : Value} (I : Inv X pins σ H s) (r : RelV x v) (ty : tyV X.K T x H) :
    s.TypeIs v T∧∀ a,v = .ref a→∃ ob,s.heap.get? a = some ob∧ob.dict = none := by
  cases x with
  | str z =>
    obtain ⟨t,rfl⟩ := r
    cases (show T = "str" from ty)
    exact ⟨typeIs_str s z t,fun _ e => nomatch e⟩
  | int i =>
    obtain ⟨t,rfl⟩ := r
    cases (show T = "int" from ty)
    exact ⟨typeIs_int s i t,fun _ e => nomatch e⟩
  | ref p =>
    cases r
    rcases ty with ⟨rfl,xs,hq⟩ | ⟨rfl,⟨o,hk,hc,hd⟩ | ⟨xs,hq⟩⟩ | ⟨rfl,hk⟩ | ⟨rfl,S,n,hk⟩
    · obtain ⟨its,_,pl,_⟩ := I.list hq
      refine ⟨pl.isList.typeIs,fun a e => ?_⟩
      cases e
      obtain ⟨o,n,e,c,hd,_⟩ := pl
      exact ⟨o,e,hd⟩
    · refine ⟨⟨o,I.kIn p o hk,hc⟩,fun a e => ?_⟩
      cases e
      exact ⟨o,I.kIn _ o hk,hd⟩
    · obtain ⟨_,its,_,⟨o,ho,hc,_⟩,o2,ho2,hd2⟩ := hq.ok I.hok
      refine ⟨⟨o,ho,hc⟩,fun a e => ?_⟩
      cases e
      exact ⟨o2,ho2,hd2⟩
    · have z : ∃ o,s.heap.get? p = some o∧o.ExactDict := by
        rcases hk with ⟨kvs,hk⟩ | ⟨kvs,hk⟩
        · obtain ⟨_,_,_,_,o,_,_,e,ex,_⟩ := (show za8 X.prog X.w H s.heap p (.dK kvs) from hk.ok I.hok)
          exact ⟨o,e,ex⟩
        · obtain ⟨_,_,_,_,o,_,_,e,ex,_⟩ := I.hok p _ hk
          exact ⟨o,e,ex⟩
      obtain ⟨o,e,ex⟩ := z
      refine ⟨⟨o,e,ex.1⟩,fun a e2 => ?_⟩
      cases e2
      exact ⟨o,e,ex.2.1⟩
    · obtain ⟨o,_,_,_,e,ex,_⟩ := I.hok p _ hk
      refine ⟨⟨o,e,ex.1⟩,fun a e2 => ?_⟩
      cases e2
      exact ⟨o,e,ex.2.1⟩
  | _ => exact False.elim ty
noncomputable def tBM (K : PySem.W.Frag) (T : String) (r : V→List V→Hp→VK→Prop) (to : TE) (t : TA) : TE := fun σ H Q => to σ H fun x H1 => tyV K T x H1∧t σ H1 fun xs H2 => r x xs H2 Q
variable {o e : Expr} {es : List Expr} {to : TE} {t : TA} {name : Str} {apos cpos : Pos} {T id : String} {r : V → List V → Hp → VK → Prop}
theorem zkM (pa : PlainAttrs T) (slot : Slot T name id) (hty : typeOf (.builtin id) = pure (.type "method_descriptor")) (hm : MtR X id r) (ho : PE X o to) (ha : PA X (e::es) t)
    (hbase : attributeBase o name X.env (eval o X.env) = eval o X.env := by rfl)
    (hfew : ((backTo cpos (starEach (e::es) X.env)).all (fun x => ! x.1) && (backToKw cpos (keywordEach [] X.env)).all (fun x => x.1.isSome)
      && decide ((e::es).length + ([] : List Keyword).length + (if ([] : List Keyword).isEmpty then 0 else 1) < 30)) = true := by rfl)
    (hline : (apos.endLine == cpos.line) = true := by rfl) (hs : starEach (e::es) X.env = (false,eval e X.env)::starEach es X.env := by rfl) (hplain : (backTo cpos (starEach es X.env)).any (·.1) = false := by rfl) :
    PE X (.Call (.Attribute o name apos) (e::es) [] cpos) (tBM X.K T r to t) := by
  intro pins s σ H Q I h
  refine wpAny_Call_method_late hbase hfew hline rfl (thn (ho pins s σ H _ I h) fun v s1 ⟨x,H1,I1,r1,ty,q1⟩ => ?_)
  obtain ⟨h1,h2⟩ := znD I1 r1 ty
  refine ⟨T,id,pa,slot,hty,h1,h2,?_⟩
  have hA := ha cpos pins s1 σ H1 _ I1 q1
  rw [hs] at hA ⊢
  refine Calls.callWith_builtin (by show (false || (backTo cpos (starEach es X.env)).any (·.1)) = false; rw [hplain] <;> rfl) (Calls.evalArgs_plain ?_)
  exact thn hA fun us s2 ⟨vs,H2,I2,r2,q2⟩ => hm pins s2 σ H2 x vs v us Q I2 r1 r2 q2
end
end L2
namespace L2
open PySem PySem.Spec PyProof.Rows
noncomputable def MtM (X : Cx) (id : String) (r : V→List V→Hp→VK→Prop) : Prop :=
  ∀ (pins : List (Addr × Obj)) (s : Shared) (σ : St) (H : Hp) (x : V) (xs : List V) (v : Value) (us : List Value) (Q : VK),Inv X pins σ H s→RelV x v→Vals xs us→r x xs H Q →
    wpAny (model X.prog X.w) X.A (call (.builtin id) (v::us)) (EP X pins σ Q) X.xe s
theorem Vals.one {x : V} {us : List Value} (h : Vals [x] us) : ∃ u,us = [u]∧RelV x u := by
  cases h with
  | cons r t => cases t; exact ⟨_,rfl,r⟩
theorem Vals.zero : ∀ {us : List Value},Vals [] us→us = []
  | _,.nil => rfl
theorem Vals.rep {xs : List V} {us : List Value} (h : Vals xs us) : ∀ k : Nat,Vals (List.replicate k xs).flatten (List.replicate k us).flatten
  | 0 => .nil
  | k + 1 => by
    rw [List.replicate_succ,List.replicate_succ,List.flatten_cons,List.flatten_cons]
    exact Vals.append h (Vals.rep h k)
theorem zgj (its : List Value) : ∀ (k : Nat) (acc : List Value),
    List.foldl (fun x1 x2 => x1++x2) acc.toArray (List.replicate k its.toArray) = (acc++(List.replicate k its).flatten).toArray
  | 0,acc => by simp
  | k + 1,acc => by
    have e : acc.toArray++its.toArray = (acc++its).toArray := by simp
    have e2 : (acc++its)++(List.replicate k its).flatten = acc++(List.replicate (k + 1) its).flatten := by
      rw [List.replicate_succ,List.flatten_cons,List.append_assoc]
    rw [← e2,← zgj its k (acc++its),← e,List.replicate_succ,List.foldl_cons]
section
variable {X : Cx} {pins : List (Addr × Obj)} {σ : St} {H : Hp} {s : Shared} {l b : Addr} {xs ys zs : List V}
theorem Inv.lset {its its' : List Value} {n : Nat} {f : Array Value→Array Value} {t' : Nat} (I : Inv X pins σ H s) (hH : H l = some (.lst xs))
    (e : s.heap.get? l = some { cls := .type "list",data := .seq its.toArray n }) (hf : f its.toArray = its'.toArray) (hv : Vals ys its') (hz : ys.length≤sizeLine) :
    Inv X pins σ (upd H l (.lst ys)) { s with heap := s.heap.update l (Obj.mapSeq f),toks := t' } := by
  have q := PySem.IsL.update e f
  rw [hf] at q
  refine I.write (x := l) (e := l) (by rw [hH]; exact trivial) (.inl rfl) (fun b' u hb hu => (Heap.get?_update_other s.heap (Obj.mapSeq f) (Ne.symm hb)).trans hu) ⟨_,q⟩ ?_
  exact ⟨hz,its',_,hv,q⟩
theorem Inv.lnew {its : List Value} {t' : Nat} (I : Inv X pins σ H s) (hv : Vals ys its) (hz : ys.length≤sizeLine) :
    Inv X pins σ (upd H s.heap.objs.size (.lst ys)) { s with heap := s.heap.push { cls := .type "list",data := .seq its.toArray },toks := t' } :=
  I.laid (fun _ _ q => Heap.get?_push_of_some _ q) (Nat.le_refl _) ⟨hz,its,0,hv,Heap.get?_push_size _ rfl⟩
theorem Inv.fresh (I : Inv X pins σ H s) : H s.heap.objs.size = none := I.hok.fresh (Nat.le_refl _)
theorem Inv.lstM (I : Inv X pins σ H s) (hH : H l = some (.lst xs)) : xs.length≤sizeLine∧∃ (its : List Value) (n : Nat),Vals xs its∧xs.length = its.length∧s.heap.get? l = some { cls := .type "list",data := .seq its.toArray n } := by
  obtain ⟨z,its,n,r,e⟩ := I.hok l _ hH
  exact ⟨z,its,n,r,r.length,e⟩
theorem zkS {n : Nat} (h : n≤sizeLine) : Builtin.List.listTooLong n = false := by
  unfold Builtin.List.listTooLong
  exact decide_eq_false (by omega)
end
section
variable {X : Cx}
noncomputable def ziR : V→List V→Hp→VK→Prop := fun x vs H Q => ∃ l xs y,x = .ref l∧vs = [y]∧H l = some (.lst xs)∧xs.length < sizeLine∧Q .non (upd H l (.lst (xs++[y])))
theorem zbA : MtM X "list.append" ziR := by
  intro pins s σ H x vs v us Q I rx rv h
  obtain ⟨l,xs,y,rfl,rfl,hH,hz,q⟩ := h
  cases rx
  obtain ⟨u,rfl,ru⟩ := rv.one
  obtain ⟨z,its,n,r,hl,e⟩ := I.lstM hH
  refine call_meets F.slot_list_append ⟨_,e,rfl⟩ F.entry_list_append (F.args_list_append_2 _ _) (PySem.list_append l its.toArray n u (by rw [List.size_toArray]; omega)) ⟨e,?_⟩
  refine ⟨.non,_,I.lset (its' := its++[u]) hH e (by simp) (r.append (.cons ru .nil)) ?_,rfl,q⟩
  rw [List.length_append,List.length_singleton]
  omega
noncomputable def rRep : R2 := fun x y H Q => ∃ l k xs,x = .ref l∧y = .int k∧H l = some (.lst xs)∧-(2 ^ 63)≤k∧k < 2 ^ 63∧xs.length * k.toNat≤sizeLine ∧
  ∀ p,H p = none→Q (.ref p) (upd H p (.lst (List.replicate k.toNat xs).flatten))
theorem zm2 {α : Type} (xs : List α) (k : Nat) : (List.replicate k xs).flatten.length = k * xs.length := by
  induction k with
  | zero => simp
  | succ k ih => rw [List.replicate_succ,List.flatten_cons,List.length_append,ih,Nat.succ_mul,Nat.add_comm]
theorem zoH : OpR X (binaryOp .Mult) rRep := by
  intro pins s σ H x y v u Q I rx ry h
  obtain ⟨l,k,xs,rfl,rfl,hH,h1,h2,hz,q⟩ := h
  cases rx
  obtain ⟨t,rfl⟩ := ry
  obtain ⟨z,its,n,r,hl,e⟩ := I.lstM hH
  have hlen : its.toArray.size * k.toNat≤sizeLine := by rw [List.size_toArray,← hl]; exact hz
  have hcap : ¬ its.toArray.size * k.toNat > (2 ^ 63 - 1) / 8 := by
    have : (sizeLine : Nat)≤(2 ^ 63 - 1) / 8 := by decide
    omega
  have hfit : ¬ (! Builtin.List.listFitsIndex k) = true := by
    rw [fitsIndex_both h1 h2]
    exact Bool.false_ne_true
  have hlong : ¬ Builtin.List.listTooLong (its.toArray.size * k.toNat) = true := by
    rw [zkS hlen]
    exact Bool.false_ne_true
  have hnew : List.foldl (fun x1 x2 => x1++x2) #[] (List.replicate (if its.toArray.isEmpty = true then 0 else k.toNat) its.toArray) = (List.replicate k.toNat its).flatten.toArray := by
    have f0 : ∀ m : Nat,List.foldl (fun x1 x2 => x1++x2) #[] (List.replicate m its.toArray) = (List.replicate m its).flatten.toArray := fun m => by
      have := zgj its m []
      rw [List.nil_append] at this
      exact this
    rw [f0]
    cases its with
    | nil => simp
    | cons a r' => rw [if_neg (by simp)]
  refine wpAny_binaryOp_repeat_ref (T := "list") (U := "int") (by decide) ⟨_,e,rfl⟩ (fun s' => typeIs_int s' k t) noFill_list_mul F.fills_int_mul F.slot_int_rmul repeat_list F.slot_int_index.lookup
    (call_meets F.slot_int_rmul (typeIs_int s k t) F.entry_int_rmul (F.args_int_rmul_2 _ _) (int___rmul___int_list k t l its.toArray n)
      ⟨e,rfl,⟨_,e,rfl⟩,call_meets F.slot_list_mul ⟨_,e,rfl⟩ F.entry_list_mul (F.args_list_mul_2 _ _) (AutoListH.list___mul___list_int_3 l its.toArray n k t hfit hcap hlong) ⟨e,?_⟩⟩)
  rw [hnew]
  exact ⟨.ref _,_,I.lnew (t' := s.toks) (r.rep k.toNat) (by rw [zm2,Nat.mul_comm]; exact hz),rfl,q _ I.fresh⟩
end
section
variable {prog : Program} {w : World} {A : Around} {E : Value → Shared → Prop} {s : Shared}
end
section
variable {X : Cx}
end
end L2
namespace L2
open PySem PySem.Spec PyProof.Rows
section
variable {κ : Type} [DecidableEq κ]
noncomputable def valV (kvs : List (κ × V)) (k : κ) : Option V := (kvs.find? fun kv => decide (kv.1 = k)).map (·.2)
noncomputable def putK (kvs : List (κ × V)) (k : κ) (v : V) : List (κ × V) :=
  if (kvs.any fun kv => decide (kv.1 = k)) = true then kvs.map (fun kv => if kv.1 = k then (kv.1,v) else kv) else kvs++[(k,v)]
noncomputable def zpG (kvs : List (κ × V)) (k : κ) : List (κ × V) := kvs.filter fun kv => decide (kv.1≠k)
theorem zd5 {p : κ × V} {r : List (κ × V)} {k : κ} (e : p.1 = k) : valV (p::r) k = some p.2 := by simp [valV,List.find?_cons,e]
theorem zdo {p : κ × V} {r : List (κ × V)} {k : κ} (e : ¬ p.1 = k) : valV (p::r) k = valV r k := by simp [valV,List.find?_cons,e]
theorem zhe (k : κ) : ∀ kvs : List (κ × V),(kvs.any fun kv => decide (kv.1 = k)) = (valV kvs k).isSome
  | [] => rfl
  | p::r => by
    rw [List.any_cons]
    by_cases e : p.1 = k
    · simp only [zd5 e,decide_eq_true e,Bool.true_or,Option.isSome_some]
    · rw [zdo e,decide_eq_false e,Bool.false_or]; exact zhe k r
theorem zew (kvs : List (κ × V)) (k : κ) (v : V) : (putK kvs k v).length≤kvs.length + 1 := by
  unfold putK
  split
  · rw [List.length_map]; omega
  · rw [List.length_append,List.length_cons,List.length_nil]; omega
theorem RelO.isSome_eq {o : Option V} {u : Option Value} (r : RelO o u) : o.isSome = u.isSome := by
  cases o with
  | none => cases u with
    | none => rfl
    | some _ => exact (show False from r).elim
  | some _ => cases u with
    | none => exact (show False from r).elim
    | some _ => rfl
theorem RelO.getD {o : Option V} {u : Option Value} {d : V} {d' : Value} (r : RelO o u) (rd : RelV d d') : RelV (o.getD d) (u.getD d') := by
  cases o with
  | none => cases u with
    | none => exact rd
    | some _ => exact (show False from r).elim
  | some _ => cases u with
    | none => exact (show False from r).elim
    | some _ => exact r
theorem KV.val {kvs : List (κ × V)} {vs : List (κ × Value)} (r : KV kvs vs) (k : κ) : RelO (valV kvs k) (valueAt vs k) := by
  unfold KV at r
  induction r with
  | nil => exact True.intro
  | @cons p q ps qs h t ih =>
    obtain ⟨h1,h2⟩ := h
    by_cases e : p.1 = k
    · have e' : q.1 = k := h1.symm.trans e
      have b : valueAt (q::qs) k = some q.2 := by simp [valueAt,List.find?_cons,e']
      rw [zd5 e,b]; exact h2
    · have e' : ¬ q.1 = k := fun z => e (h1.trans z)
      have b : valueAt (q::qs) k = valueAt qs k := by simp [valueAt,List.find?_cons,e']
      rw [zdo e,b]; exact ih
theorem KV.any {kvs : List (κ × V)} {vs : List (κ × Value)} (r : KV kvs vs) (k : κ) : (kvs.any fun kv => decide (kv.1 = k)) = vs.any fun kv => decide (kv.1 = k) := by
  unfold KV at r
  induction r with
  | nil => rfl
  | cons h t ih => rw [List.any_cons,List.any_cons,ih,h.1]
theorem KV.repl {kvs : List (κ × V)} {vs : List (κ × Value)} (r : KV kvs vs) (k : κ) {y : V} {u : Value} (ry : RelV y u) :
    KV (kvs.map fun kv => if kv.1 = k then (kv.1,y) else kv) (vs.map fun kv => if kv.1 = k then (kv.1,u) else kv) := by
  unfold KV at r ⊢
  induction r with
  | nil => exact .nil
  | @cons p q ps qs h t ih =>
    rw [List.map_cons,List.map_cons]
    refine .cons ?_ ih
    obtain ⟨h1,h2⟩ := h
    by_cases e : p.1 = k
    · rw [if_pos e,if_pos (h1.symm.trans e)]; exact ⟨h1,ry⟩
    · rw [if_neg e,if_neg (fun z => e (h1.trans z))]; exact ⟨h1,h2⟩
theorem KV.put {kvs : List (κ × V)} {vs : List (κ × Value)} (r : KV kvs vs) (k : κ) {y : V} {u : Value} (ry : RelV y u) : KV (putK kvs k y) (stored vs k u) := by
  unfold putK stored
  rw [r.any k]
  by_cases e : (vs.any fun kv => decide (kv.1 = k)) = true
  · rw [if_pos e,if_pos e]; exact r.repl k ry
  · rw [if_neg e,if_neg e]; exact Paired.snoc r ⟨rfl,ry⟩
theorem KV.drop {kvs : List (κ × V)} {vs : List (κ × Value)} (r : KV kvs vs) (k : κ) : KV (zpG kvs k) (without vs k) := by
  unfold KV at r ⊢
  unfold zpG without
  induction r with
  | nil => exact .nil
  | @cons p q ps qs h t ih =>
    obtain ⟨h1,h2⟩ := h
    rw [List.filter_cons,List.filter_cons]
    by_cases e : p.1 = k
    · have a : ¬ decide (p.1≠k) = true := by simp [e]
      have b : ¬ decide (q.1≠k) = true := by simp [h1.symm.trans e]
      rw [if_neg a,if_neg b]; exact ih
    · have e' : ¬ q.1 = k := fun z => e (h1.trans z)
      have a : decide (p.1≠k) = true := by simp [e]
      have b : decide (q.1≠k) = true := by simp [e']
      rw [if_pos a,if_pos b]; exact .cons ⟨h1,h2⟩ ih
theorem KV.length {kvs : List (κ × V)} {vs : List (κ × Value)} (r : KV kvs vs) : kvs.length = vs.length := Paired.length r
end
theorem zjy {P : Program} {w : World} {k : Key} {u : Value} (r : RelV (kV k) u) : (za4 P w).is k u = true := by
  cases k with
  | inl i => obtain ⟨t,e⟩ := (show ∃ t,u = Value.int i t from r); subst e; exact zgR P w i t
  | inr x => obtain ⟨t,e⟩ := (show ∃ t,u = Value.str x t from r); subst e; exact zgQ P w x t
theorem zge {P : Program} {w : World} : ∀ {ks : List Key} {us : List Value},Vals (ks.map kV) us→ItemsAre (za4 P w) ks us
  | [],_,r => by rw [List.map_nil] at r; cases r; exact .nil
  | k::ks,_,r => by
    rw [List.map_cons] at r
    cases r with
    | cons h t => exact .cons (zjy h) (zge t)
noncomputable abbrev KT (H : Hp) : List (List Key × V)→List (List Key × Addr × Value)→Prop := Paired fun p q => p.1 = q.1∧H q.2.1 = some (.tup (p.1.map kV))∧RelV p.2 q.2.2
theorem KT.val {H : Hp} {kvs : List (List Key × V)} {xs : List (List Key × Addr × Value)} (r : KT H kvs xs) (k : List Key) : RelO (valV kvs k) ((atKey xs k).map (·.2)) := by
  induction r with
  | nil => exact True.intro
  | @cons p q ps qs h t ih =>
    obtain ⟨h1,_,h2⟩ := h
    by_cases e : p.1 = k
    · have e' : q.1 = k := h1.symm.trans e
      have b : atKey (q::qs) k = some q.2 := by simp [atKey,List.find?_cons,e']
      rw [zd5 e,b]; exact h2
    · have e' : ¬ q.1 = k := fun z => e (h1.trans z)
      have b : atKey (q::qs) k = atKey qs k := by simp [atKey,List.find?_cons,e']
      rw [zdo e,b]; exact ih
theorem KT.repl {H : Hp} {kvs : List (List Key × V)} {xs : List (List Key × Addr × Value)} (r : KT H kvs xs) (k : List Key) {y : V} {u : Value} (ry : RelV y u) :
    KT H (kvs.map fun kv => if kv.1 = k then (kv.1,y) else kv) (xs.map (putAt k u)) := by
  induction r with
  | nil => exact .nil
  | @cons p q ps qs h t ih =>
    rw [List.map_cons,List.map_cons]
    refine .cons ?_ ih
    obtain ⟨h1,h2,h3⟩ := h
    unfold putAt
    by_cases e : p.1 = k
    · rw [if_pos e,if_pos (h1.symm.trans e)]; exact ⟨h1,h2,ry⟩
    · rw [if_neg e,if_neg (fun z => e (h1.trans z))]; exact ⟨h1,h2,h3⟩
theorem KT.put {H : Hp} {kvs : List (List Key × V)} {xs : List (List Key × Addr × Value)} (r : KT H kvs xs) (k : List Key) {b : Addr} {y : V} {u : Value} (hb : H b = some (.tup (k.map kV))) (ry : RelV y u) :
    KT H (putK kvs k y) (storedH xs k b u) := by
  have e : (kvs.any fun kv => decide (kv.1 = k)) = (atKey xs k).isSome := by
    rw [zhe,(r.val k).isSome_eq,Option.isSome_map]
  unfold putK storedH
  rw [e]
  by_cases q : (atKey xs k).isSome = true
  · rw [if_pos q,if_pos q]; exact r.repl k ry
  · rw [if_neg q,if_neg q]; exact Paired.snoc r ⟨rfl,hb,ry⟩
theorem KT.keeps {H H' : Hp} {kvs : List (List Key × V)} {xs : List (List Key × Addr × Value)} (r : KT H kvs xs) (ht : ∀ b ys,H b = some (.tup ys)→H' b = some (.tup ys)) : KT H' kvs xs :=
  Paired.mapP r fun _ _ z => ⟨z.1,ht _ _ z.2.1,z.2.2⟩
section
variable {P : Program} {w : World} {H : Hp} {h : Heap} {a : Addr}
theorem zoh {u : HO} (ok : HOk P w H h) (e : Rd H a u) : za8 P w H h a u := e.ok ok
theorem zib {kvs : List (Key × V)} (ok : HOk P w H h) (e : Rd H a (.dK kvs)) : kvs.length≤sizeLine∧(a == sysModules) = false∧∃ vs,KV kvs vs∧h.DictOf (za4 P w) a vs :=
  show za8 P w H h a (.dK kvs) from zoh ok e
theorem zqM {kvs : List (Key × V)} (ok : HOk P w H h) (e : H a = some (.dK kvs)) : kvs.length≤sizeLine∧(a == sysModules) = false∧∃ vs,KV kvs vs∧h.DictOf (za4 P w) a vs := zib ok (.inl e)
theorem zgd {ks : List Key} (ok : HOk P w H h) (e : H a = some (.tup (ks.map kV))) : (tupleKind (za4 P w)).is h ks a := by
  obtain ⟨_,its,r,⟨o,h1,h2,n,h3⟩,_⟩ := (show za8 P w H h a (.tup (ks.map kV)) from ok a _ e)
  exact ⟨o,its.toArray,n,h1,h2,h3,by simpa using zge r⟩
theorem zjS {kvs : List (List Key × V)} (ok : HOk P w H h) (e : Rd H a (.dT kvs)) : kvs.length≤sizeLine∧(a == sysModules) = false ∧
    ∃ xs,KT H kvs xs∧h.DictOfH (tupleKind (za4 P w)) a xs := by
  obtain ⟨z,y,xs,r,o,es,ep,h1,h2,h3,h4,h5⟩ := (show za8 P w H h a (.dT kvs) from zoh ok e)
  refine ⟨z,y,xs,r,o,es,ep,h1,h2,h3,h4,fun x hx => ?_,h5⟩
  have all : ∀ {l : List (List Key × V)} {m : List (List Key × Addr × Value)},KT H l m→∀ x∈m,(tupleKind (za4 P w)).is h x.1 x.2.1 := by
    intro l m q
    induction q with
    | nil => intro x hx; exact nomatch hx
    | @cons p q ps qs hq t ih =>
      intro x hx
      rcases List.mem_cons.mp hx with e | hx
      · subst e
        exact zgd ok (by rw [← hq.1]; exact hq.2.1)
      · exact ih x hx
  exact all r x hx
theorem zqL {kvs : List (List Key × V)} (ok : HOk P w H h) (e : H a = some (.dT kvs)) : kvs.length≤sizeLine∧(a == sysModules) = false ∧
    ∃ xs,KT H kvs xs∧h.DictOfH (tupleKind (za4 P w)) a xs := zjS ok (.inl e)
end
noncomputable def DGet (H : Hp) (a : Addr) (y : V) (r : Option V) : Prop :=
  (∃ kvs k,Rd H a (.dK kvs)∧y = kV k∧r = valV kvs k)∨∃ kvs k b,Rd H a (.dT kvs)∧y = .ref b∧H b = some (.tup (k.map kV))∧r = valV kvs k
noncomputable def DPut (H : Hp) (a : Addr) (y v : V) (H' : Hp) : Prop :=
  (∃ kvs k,H a = some (.dK kvs)∧y = kV k∧kvs.length < sizeLine∧H' = upd H a (.dK (putK kvs k v))) ∨
  ∃ kvs k b,H a = some (.dT kvs)∧y = .ref b∧H b = some (.tup (k.map kV))∧kvs.length < sizeLine∧H' = upd H a (.dT (putK kvs k v))
theorem DGet.k {H : Hp} {a : Addr} {kvs : List (Key × V)} {k : Key} (e : H a = some (.dK kvs)) : DGet H a (kV k) (valV kvs k) := .inl ⟨kvs,k,.inl e,rfl,rfl⟩
theorem DGet.t {H : Hp} {a b : Addr} {kvs : List (List Key × V)} {k : List Key} (e : H a = some (.dT kvs)) (eb : H b = some (.tup (k.map kV))) : DGet H a (.ref b) (valV kvs k) := .inr ⟨kvs,k,b,.inl e,rfl,eb,rfl⟩
theorem DPut.k {H : Hp} {a : Addr} {kvs : List (Key × V)} {k : Key} {v : V} (e : H a = some (.dK kvs)) (hl : kvs.length < sizeLine) : DPut H a (kV k) v (upd H a (.dK (putK kvs k v))) := .inl ⟨kvs,k,e,rfl,hl,rfl⟩
theorem DPut.t {H : Hp} {a b : Addr} {kvs : List (List Key × V)} {k : List Key} {v : V} (e : H a = some (.dT kvs)) (eb : H b = some (.tup (k.map kV))) (hl : kvs.length < sizeLine) :
    DPut H a (.ref b) v (upd H a (.dT (putK kvs k v))) := .inr ⟨kvs,k,b,e,rfl,eb,hl,rfl⟩
section
variable {X : Cx} {pins : List (Addr × Obj)} {σ : St} {H : Hp} {s : Shared} {a : Addr} {y v : V} {u r : Value} {o : Option V} {A : Around} {E : Value → Shared → Prop}
theorem Inv.big (I : Inv X pins σ H s) : sysModules < s.heap.objs.size := by
  have h : mainGlobals < s.heap.objs.size := (I.mod.glob.keeps I.bk).lt
  exact Nat.lt_trans (by decide) h
theorem zjY {Q : Value→Shared→Prop} (hu : A.units + 1 < cLine) (I : Inv X pins σ H s) (g : DGet H a y (some v)) (ry : RelV y u) (h : ∀ w' s',Inv X pins σ H s'→RelV v w'→Q w' s') :
    wpAny (model X.prog X.w) A (getItem (.ref a) u) Q E s := by
  rcases g with ⟨kvs,k,e,ey,l⟩ | ⟨kvs,k,b,e,ey,eb,l⟩
  · subst ey
    obtain ⟨z,hd,vs,rel,dd⟩ := zib I.hok e
    obtain ⟨w',hw,rw'⟩ := RelO.some_of (v := v) (o := valueAt vs k) (by rw [l]; exact rel.val k)
    exact wpAny_getItem_of (zjy ry) dd.mapOf hw (h w' _ (I.tok _) rw')
  · subst ey
    cases (show u = Value.ref b from ry)
    obtain ⟨z,hd,xs,rel,dd⟩ := zjS I.hok e
    obtain ⟨w',hw,rw'⟩ := RelO.some_of (v := v) (o := (atKey xs k).map (·.2)) (by rw [l]; exact rel.val k)
    obtain ⟨p,hp,hp2⟩ := Option.map_eq_some_iff.mp hw
    refine wpAny_getItem_heap (tupleKind_room_in1 hu) (zgd I.hok eb) dd hp ?_
    rw [hp2]
    exact h w' _ (I.tok _) rw'
theorem d_in {Q : Value→Shared→Prop} (hu : A.units + 1 < cLine) (I : Inv X pins σ H s) (g : DGet H a y o) (ry : RelV y u) (h : ∀ s',Inv X pins σ H s'→Q (.bool o.isSome) s') :
    wpAny (model X.prog X.w) A (compareOp .In u (.ref a)) Q E s := by
  rcases g with ⟨kvs,k,e,ey,l⟩ | ⟨kvs,k,b,e,ey,eb,l⟩
  · subst ey
    obtain ⟨z,hd,vs,rel,dd⟩ := zib I.hok e
    refine wpAny_in_of (zjy ry) hd dd.mapOf ?_
    rw [← (rel.val k).isSome_eq,← l]
    exact h _ (I.tok _)
  · subst ey
    cases (show u = Value.ref b from ry)
    obtain ⟨z,hd,xs,rel,dd⟩ := zjS I.hok e
    refine wpAny_in_heap (tupleKind_room_in1 hu) (zgd I.hok eb) hd dd ?_
    have q := (rel.val k).isSome_eq
    rw [Option.isSome_map] at q
    rw [← q,← l]
    exact h _ (I.tok _)
theorem zng {Q : Value→Shared→Prop} (hu : A.units + 1 < cLine) (I : Inv X pins σ H s) (g : DGet H a y o) (ry : RelV y u) (h : ∀ s',Inv X pins σ H s'→Q (.bool (! o.isSome)) s') :
    wpAny (model X.prog X.w) A (compareOp .NotIn u (.ref a)) Q E s := by
  rcases g with ⟨kvs,k,e,ey,l⟩ | ⟨kvs,k,b,e,ey,eb,l⟩
  · subst ey
    obtain ⟨z,hd,vs,rel,dd⟩ := zib I.hok e
    refine wpAny_notIn_of (zjy ry) hd dd.mapOf ?_
    rw [← (rel.val k).isSome_eq,← l]
    exact h _ (I.tok _)
  · subst ey
    cases (show u = Value.ref b from ry)
    obtain ⟨z,hd,xs,rel,dd⟩ := zjS I.hok e
    refine wpAny_notIn_heap (tupleKind_room_in1 hu) (zgd I.hok eb) hd dd ?_
    have q := (rel.val k).isSome_eq
    rw [Option.isSome_map] at q
    rw [← q,← l]
    exact h _ (I.tok _)
theorem zjW {h' : Heap} {t' : Nat} {ob : HO} (I : Inv X pins σ H s) (mu : Mut (H a)) (hs : Heap.SameBut a s.heap h') (he : ∃ q,h'.get? a = some q) (new : za8 X.prog X.w (upd H a ob) h' a ob) :
    Inv X pins σ (upd H a ob) { s with heap := h',toks := t' } :=
  I.write (x := a) (e := a) mu (.inl rfl) (fun b q hb z => (hs.2 b hb).trans z) he new
theorem zpI {P : Program} {w : World} {H' : Hp} {h' : Heap} {kvs : List (Key × V)} {vs : List (Key × Value)} (z : kvs.length≤sizeLine) (hd : (a == sysModules) = false) (rel : KV kvs vs) (dd : h'.DictOf (za4 P w) a vs) :
    za8 P w H' h' a (.dK kvs) := ⟨z,hd,vs,rel,dd⟩
theorem zjX {H' : Hp} {Q : Unit→Shared→Prop} (hu : A.units + 1 < cLine) (I : Inv X pins σ H s) (g : DPut H a y v H') (ry : RelV y u) (rv : RelV v r) (h : ∀ s',Inv X pins σ H' s'→Q () s') :
    wpAny (model X.prog X.w) A (setItem (.ref a) u r) Q E s := by
  rcases g with ⟨kvs,k,e,ey,l,eH⟩ | ⟨kvs,k,b,e,ey,eb,l,eH⟩
  · subst ey eH
    obtain ⟨z,hd,vs,rel,dd⟩ := zqM I.hok e
    have hz : vs.length≤sizeLine := by rw [← rel.length]; exact z
    have hl : (putK kvs k v).length≤sizeLine := by have := zew kvs k v; omega
    refine wpAny_setItem_pairs (hsz := hz) (zjy ry) dd fun h' dd' hs => h _ ?_
    have he : ∃ q,h'.get? a = some q := let ⟨q,_,_,hq,_⟩ := dd'; ⟨q,hq⟩
    exact zjW I (by rw [e]; exact True.intro) hs he (zpI hl hd (rel.put k rv) dd')
  · subst ey eH
    cases (show u = Value.ref b from ry)
    obtain ⟨z,hd,xs,rel,dd⟩ := zqL I.hok e
    have hz : xs.length≤sizeLine := by rw [← Paired.length rel]; exact z
    have hl : (putK kvs k v).length≤sizeLine := by have := zew kvs k v; omega
    refine wpAny_setItem_heap (hsz := hz) (tupleKind_room_in1 hu) (zgd I.hok eb) dd fun h' dd' hs => h _ ?_
    obtain ⟨q,es,ep,hq,h2,h3,h4,_,h5⟩ := dd'
    refine zjW I (by rw [e]; exact True.intro) hs ⟨q,hq⟩ ⟨hl,hd,_,(rel.put k eb rv).keeps fun c ys ec => ?_,q,es,ep,hq,h2,h3,h4,h5⟩
    rw [zal (zqy ec e (fun z => nomatch z))]
    exact ec
end
section
variable {X : Cx} {pins : List (Addr × Obj)} {σ : St} {H : Hp} {s : Shared} {a : Addr} {kvs : List (Key × V)} {k : Key} {u : Value} {A : Around} {E : Value → Shared → Prop}
theorem zqN {Q : Value→Shared→Prop} (I : Inv X pins σ H s) (e : Rd H a (.dK kvs)) (h : ∀ t s',Inv X pins σ H s'→Q (.int kvs.length t) s') : wpAny (model X.prog X.w) A (call (.builtin "len") [.ref a]) Q E s := by
  obtain ⟨z,hd,vs,rel,dd⟩ := zib I.hok e
  refine call_len_dict hd dd (by rw [← rel.length]; rw [sizeLine_eq] at z; omega) ?_
  rw [← rel.length]
  exact h _ _ (I.tok _)
end
theorem zgY {X : Cx} {pins : List (Addr × Obj)} {σ : St} {H : Hp} {s : Shared} {a : Addr} {y : V} {o : Option V} (I : Inv X pins σ H s) (g : DGet H a y o) : s.TypeIs (.ref a) "dict" := by
  rcases g with ⟨kvs,k,e,_,_⟩ | ⟨kvs,k,b,e,_,_,_⟩
  · obtain ⟨_,_,vs,_,dd⟩ := zib I.hok e
    exact dd.typeIs
  · obtain ⟨_,_,xs,_,dd⟩ := zjS I.hok e
    exact dd.typeIs
section
variable {X : Cx} {o i e value : Expr} {pos pos' tpos : Pos} {td ty tv : TE}
end
theorem zlg {P : Program} {w : World} {H : Hp} (h : Heap) (hb : sysModules < h.objs.size) : za8 P w H (h.push { cls := .type "dict",data := .dict #[] }) h.objs.size (.dK []) :=
  ⟨Nat.zero_le _,beq_eq_false_iff_ne.mpr (Ne.symm (Nat.ne_of_lt hb)),[],.nil,Heap.DictOf.new h⟩
noncomputable def znK : TE := fun _ H Q => ∀ p,H p = none→Q (.ref p) (upd H p (.dK []))
section
variable {X : Cx} {pos : Pos}
theorem zkL : PE X (.Dict [] [] pos) znK := fun pins s σ H Q I h =>
  wpAny_Dict_empty ⟨.ref s.heap.objs.size,_,I.laid (a := s.heap.objs.size) (o := .dK []) (t' := s.toks) (fun _ _ q => Heap.get?_push_of_some _ q) (Nat.le_refl _) (zlg s.heap I.big),rfl,h _ (I.hok.fresh (Nat.le_refl _))⟩
end
structure M1 (X : Cx) (o : Expr) (m : Str) (apos : Pos) (e : Expr) (cpos : Pos) : Prop where
  base : attributeBase o m X.env (eval o X.env) = eval o X.env
  few : ((backTo cpos (starEach [e] X.env)).all (fun x => ! x.1) && (backToKw cpos (keywordEach [] X.env)).all (fun x => x.1.isSome)
    && decide (([e] : List Expr).length + ([] : List Keyword).length + (if ([] : List Keyword).isEmpty then 0 else 1) < 30)) = true
  line : (apos.endLine == cpos.line) = true
  trees : backTo cpos (starEach [e] X.env) = [(false,eval e X.env)]
structure M2 (X : Cx) (o : Expr) (m : Str) (apos : Pos) (e f : Expr) (cpos : Pos) : Prop where
  base : attributeBase o m X.env (eval o X.env) = eval o X.env
  few : ((backTo cpos (starEach [e,f] X.env)).all (fun x => ! x.1) && (backToKw cpos (keywordEach [] X.env)).all (fun x => x.1.isSome)
    && decide (([e,f] : List Expr).length + ([] : List Keyword).length + (if ([] : List Keyword).isEmpty then 0 else 1) < 30)) = true
  line : (apos.endLine == cpos.line) = true
  trees : backTo cpos (starEach [e,f] X.env) = [(false,eval e X.env),(false,eval f X.env)]
section
variable {X : Cx} {pins : List (Addr × Obj)} {σ : St} {H : Hp} {s : Shared} {a : Addr} {y d : V} {u r : Value} {o : Option V} {A : Around} {E : Value → Shared → Prop}
end
section
variable {X : Cx} {o e f : Expr} {apos cpos : Pos} {td ty tx : TE}
end
section
variable {X : Cx} {pins : List (Addr × Obj)} {σ : St} {H : Hp} {s : Shared} {a : Addr} {kvs : List (Key × V)} {A : Around} {E : Value → Shared → Prop}
end
section
variable {X : Cx} {pins : List (Addr × Obj)} {σ : St} {H : Hp} {s : Shared} {a : Addr} {y : V} {u : Value} {A : Around} {E : Value → Shared → Prop}
end
end L2
namespace Att
open PySem PySem.W PySem.Calls PyProof.Rows
theorem zey {P : Params} {h : Heap} : ∀ (ns : List Int) (vs : List Value),WellAll P h vs (ns.map WData.int)→IntsAre vs ns := by
  intro ns
  induction ns with
  | nil =>
    intro vs w
    rw [List.map_nil] at w
    cases w
    exact .nil
  | cons n ns ih =>
    intro vs w
    rw [List.map_cons] at w
    cases w with
    | cons a b =>
      cases a
      exact .cons _ _ (ih _ b)
theorem ziF {l : OpenLaw} {n : Nat} (hn : l.most = some n) {P : Params} {h : Heap} {args : List WData} {vals : List Value}
    (hpre : l.row.toRowW.claim.pre args = true) (hwl : WellAll P h vals args) :
    ∃ a vs ns,vals = [Value.ref a]∧args = [WData.list (ns.map WData.int)]∧h.get? a = some { cls := .type "list",data := .seq vs.toArray }∧IntsAre vs ns∧ns.length≤n := by
  have hsh : WShape.hasAll [] args [.list .int] = true := (pre_splitW hpre).1
  have hc : l.pre.holds [] { args := args } = true := (pre_splitW hpre).2
  obtain ⟨d,r,rfl,h1,h2⟩ := hasAllW_cons hsh
  obtain rfl := hasAllW_nil h2
  obtain ⟨xs,rfl,h3⟩ := hasW_list h1
  obtain ⟨ns,rfl⟩ := items_int h3
  have hlen : ns.length≤n := by
    unfold OpenLaw.pre at hc
    have h4 : (WTm.not (.lt (.lit (.int (n : Int))) (.len (.arg 0)))).holds [] { args := [.list (ns.map .int)] } = true := by
      have h4 := (holds_andW hc).1
      rw [hn] at h4
      exact h4
    have h5 := condW_of h4 (w_not (w_lt w_lit (w_len_list (w_arg rfl))))
    rw [List.length_map] at h5
    refine Nat.le_of_not_lt fun q => ?_
    have q' : (n : Int) < ((ns.length : Nat) : Int) := by omega
    first
      | (rw [decide_eq_true q'] at h5; exact absurd h5 (by decide))
      | (simp at h5; omega)
  cases hwl with
  | cons w1 w2 =>
    cases w2
    cases w1 with
    | list ho hall => exact ⟨_,_,ns,rfl,rfl,ho,zey ns _ hall,hlen⟩
theorem ziW (l : OpenLaw) (args : List WData) : l.row.toRowW.claim.post args (.bool true) args = true :=
  postW_of (r := l.row.toRowW) (X := (true == true))
    (show WShape.has [] (.bool true) .bool = true by first | rfl | decide | simp [WShape.has,WShape.arms,WShape.armsAll])
    (show (WTm.eq .res (.lit (.bool true))).value [] { args := args,res := some (.bool true),after := args } = some (.bool (true == true)) from w_eq_bool (w_res rfl) w_lit) rfl
theorem attach_call {l : OpenLaw} {n : Nat} {q : Program} {loose : List Str} {XP : (Str→Option Value)→Heap→Prop} {YP : World→Heap→Prop} {d : DefRec}
    (hn : l.most = some n) (hdf : d.params.defaults = [])
    (call : ∀ (w : World) (s₀ s₁ : Shared) (mg mb : Str→Option Value) (fa : Addr) (o : Obj) (pm cd doc : Value) (a : Addr) (vs : List Value) (ns : List Int),
      Ground q loose [] XP w s₀ mg mb s₁.heap→YP w s₁.heap →
      s₁.heap.get? fa = some o→o.data = .func (docDef d.name d.params d.body d.scope pm cd doc)→s₁.heap.CodeRec cd d.name→mg d.name = some (.ref fa) →
      s₁.heap.get? a = some { cls := .type "list",data := .seq vs.toArray }→IntsAre vs ns→ns.length≤n→s₁.gens = #[] →
      codeAny (model l.prog w) callerA (.call (.ref fa) ⟨[.ref a],[]⟩) (fun r s' => r = .ok (.ret (.bool true))∧OldK s₁.heap s'.heap∧s'.os = s₁.os∧AllBare s'.gens) s₁) :
    WalkO q loose XP YP l.row.toRowW d [] (fun f vs => PySem.call f vs) := by
  intro w s₀ s₁ mg mb G Y fa o pm cd doc dV kV ho hd hcd hD hmg hg args vals as hpre hlay hrd hwl hlo
  obtain rfl : dV = .none := Dflts.none hD hdf
  obtain rfl : kV = .none := Dflts.noKw hD
  obtain ⟨a,vs,ns,rfl,rfl,hobj,hints,hlen⟩ := ziF hn hpre hwl
  refine enter_call (codeAny_mono (call w s₀ s₁ mg mb fa o pm cd doc a vs ns G Y ho (fd_plain hd) hcd hmg hobj hints hlen hg) fun r s' hq => ?_)
  obtain ⟨rfl,h2,h3,h4⟩ := hq
  exact ⟨.inl ⟨.bool true,.bool true,[],rfl,fun _ => rfl,.bool true,ziW l _,fun _ => ⟨List.Pairwise.nil,fun _ hm => (nomatch hm)⟩⟩,h2,h3,h4⟩
section
variable {prog : Program} {w : World} {A : Around} {E : Value → Shared → Prop} {s : Shared} {K : Frag}
end
end Att
namespace L2
open PySem PySem.Spec PyProof.Rows
theorem zeh : ∀ {vs : List Value} {ns : List Int},IntsAre vs ns→Vals (ns.map V.int) vs
  | _,_,.nil => .nil
  | _,_,.cons n t h => .cons ⟨t,rfl⟩ (zeh h)
noncomputable def Only (H : Hp) : Prop := ∀ b,H b = none∨∃ o xs,H b = some (.frz o (.lst xs))
theorem zkZ {P : Program} {w : World} {K : PySem.W.Frag} {mg mb : Str→Option Value} {CX : CXT} {k : Nat} {fa a : Addr} {fd : FuncData} {x : Str} {sp : Sp} {s₁ : Shared} {vs : List Value} {ns : List Int}
    (KX : K.In s₁.heap) (hns : s₁.heap.Ns mainGlobals mg) (hb : s₁.heap.Ns builtinsNs mb) (hbb : ∀ x : Str,x≠"__name__"→mb x = bootBuiltins x) (hlim : s₁.heap.NoLimit) (hg : s₁.gens = #[])
    (ha : s₁.heap.get? a = some { cls := .type "list",data := .seq vs.toArray }) (hi : IntsAre vs ns) (hl : ns.length≤sizeLine) (hr : Room k callerA)
    (F : ∀ base : Heap,K.In base→base.Ns mainGlobals mg→FnOk P w K mg base CX k fa fd [x] sp) (hbind : ∀ (s : Shared) (u : Value),BindsTo s fd ⟨[u],[]⟩ [(x,u)])
    (hsp : ∀ H : Hp,Only H→SqL K H a (ns.map V.int)→sp [.ref a] H (fun v _ => v = .bl true) fun _ _ _ => False)
    (hCX : ∀ H e s',CX [] H s₁ (fun _ _ _ => False) e s'→False) :
    codeAny (model P w) callerA (.call (.ref fa) ⟨[.ref a],[]⟩) (fun r s' => r = .ok (.ret (.bool true))∧OldK s₁.heap s'.heap∧s'.os = s₁.os∧AllBare s'.gens) s₁ := by
  have rv := zeh hi
  have lenV := hi.length
  have core : ∀ H : Hp,Only H→SqL K H a (ns.map V.int)→HOk P w H s₁.heap→(∀ b,H b≠none→b = a)→(H a≠none→K.lookup a = none) →
      codeAny (model P w) callerA (.call (.ref fa) ⟨[.ref a],[]⟩) (fun r s' => r = .ok (.ret (.bool true))∧OldK s₁.heap s'.heap∧s'.os = s₁.os∧AllBare s'.gens) s₁ := by
    intro H hO hS hok hA hK
    have base_of : ∀ {b : Addr} {o : Obj},s₁.heap.get? b = some o→H b = none→(hidT s₁.heap H).get? b = some o := fun e n => zk5 e n
    have noA : ∀ {b : Addr} {o : Obj} {es : Array DictEntry} {ep : Nat},s₁.heap.get? b = some o→o.data = .dict es ep→H b = none := fun {b o es ep} e d => by
      cases q : H b with
      | none => rfl
      | some u =>
        have e' : b = a := hA b (by rw [q]; simp)
        subst e'
        rw [ha] at e; cases e
        have d' : Data.seq vs.toArray _ = Data.dict es ep := d
        cases d'
    have nsK : ∀ {b : Addr} {m : Str→Option Value},s₁.heap.Ns b m→(hidT s₁.heap H).Ns b m := fun {b m} ⟨o,es,ep,e,d,r⟩ => ⟨o,es,ep,base_of e (noA e d),d,r⟩
    have hKb : K.In (hidT s₁.heap H) := fun b o e => base_of (KX b o e) (by
      cases q : H b with
      | none => rfl
      | some u =>
        have e' : b = a := hA b (by rw [q]; simp)
        subst e'
        rw [hK (by rw [q]; simp)] at e; cases e)
    have hM : Mod K mg (hidT s₁.heap H) := ⟨hKb,nsK hns,⟨mb,nsK hb,hbb⟩,let ⟨mc,h1,h2⟩ := hlim; ⟨mc,nsK h1,h2⟩⟩
    have e0 : Env0 P w K mg (hidT s₁.heap H) callerA [] s₁ H := ⟨rfl,hM,fun b o e => zmU e,Nat.le_of_eq (zjI _ _),trivial,fun b hb => absurd (show b∈([] : List Addr) from hb) (by simp),hok,.of_eq hg⟩
    refine codeAny_mono ((F _ hKb (nsK hns)).run callerA [] s₁ H ⟨[.ref a],[]⟩ [.ref a] [.ref a] _ _ hr e0 (hbind s₁ (.ref a)) (.cons rfl .nil) (hsp H hO hS)) fun r s' h => ?_
    cases r with
    | error e => exact (hCX H e s' h).elim
    | ok fl =>
      cases fl with
      | next => exact False.elim h
      | brk => exact False.elim h
      | cont => exact False.elim h
      | ret u =>
        obtain ⟨v,H',os,bare,un,hok',r',q⟩ := h
        have q' : v = .bl true := q
        subst q'
        obtain rfl : u = Value.bool true := r'
        refine ⟨rfl,OldK.of_keep fun b o e => ?_,os,bare⟩
        cases q : H b with
        | none => exact un.keep b o e q (by intro z; exact absurd (show b∈([] : List Addr) from z) (by simp)) (by simp)
        | some u =>
          rcases hO b with z | ⟨ob,xs,z⟩
          · rw [q] at z; cases z
          · have z2 := un.frzs b ob _ z
            obtain ⟨e1,_⟩ := hok b _ z
            obtain ⟨e2,_⟩ := hok' b _ z2
            rw [e] at e1; cases e1
            exact e2
  cases hk : K.lookup a with
  | some o =>
    have e := KX a o hk
    rw [ha] at e
    cases e
    refine core (fun _ => none) (fun _ => .inl rfl) (.inr ⟨_,vs.toArray,_,hk,rfl,rfl,rfl,by rw [List.size_toArray,lenV]; exact hl,by simpa using rv⟩) (fun b u z => by have z' : (none : Option HO) = some u := z; cases z') (fun b z => absurd rfl z) fun z => absurd rfl z
  | none =>
    refine core (fun b => if b = a then some (.frz { cls := .type "list",data := .seq vs.toArray } (.lst (ns.map V.int))) else none) (fun b => ?_) (.inl (.inr ⟨{ cls := .type "list",data := .seq vs.toArray },if_pos rfl⟩)) (fun b u z => ?_) (fun b z => ?_) fun _ => hk
    · by_cases hb : b = a
      · exact .inr ⟨_,_,if_pos hb⟩
      · exact .inl (if_neg hb)
    · by_cases hb : b = a
      · have z' := (if_pos hb).symm.trans z
        cases z'
        subst hb
        exact ⟨ha,by rw [List.length_map]; exact hl,vs,_,rv,ha⟩
      · have z' := (if_neg hb).symm.trans z
        cases z'
    · by_cases hb : b = a
      · exact hb
      · exact absurd (if_neg hb) z
end L2
namespace L2
open PySem PySem.Spec PyProof.Rows
noncomputable abbrev KOf {K : PySem.W.Frag} {h : Heap} (_ : K.In h) : PySem.W.Frag := K
theorem walk_of {l : PySem.W.OpenLaw} {n k : Nat} {q : Program} {loose : List Str} {XP : (Str→Option Value)→Heap→Prop} {YP : World→Heap→Prop} {d : DefRec} {K : Params→PySem.W.Frag} {CX : World→CXT} {sp : World→Sp} {x : Str}
    (hn : l.most = some n) (hn2 : n≤sizeLine) (hdf : d.params.defaults = []) (hr : Room k callerA)
    (hY : ∀ (w : World) (h : Heap),YP w h→(K w.params).In h)
    (F : ∀ (w : World) (mg : Str→Option Value) (fa : Addr) (h : Heap),(K w.params).In h→h.Ns mainGlobals mg→mg d.name = some (.ref fa) →
      ∃ fd : FuncData,(∀ (s : Shared) (u : Value),BindsTo s fd ⟨[u],[]⟩ [(x,u)]) ∧
        ∀ base : Heap,(K w.params).In base→base.Ns mainGlobals mg→FnOk l.prog w (K w.params) mg base (CX w) k fa fd [x] (sp w))
    (hsp : ∀ (w : World) (H : Hp) (a : Addr) (ns : List Int),ns.length≤n→Only H→SqL (K w.params) H a (ns.map V.int)→sp w [.ref a] H (fun v _ => v = .bl true) fun _ _ _ => False)
    (hCX : ∀ (w : World) (H : Hp) (s : Shared) (e : Value) (s' : Shared),CX w [] H s (fun _ _ _ => False) e s'→False) :
    PySem.W.WalkO q loose XP YP l.row.toRowW d [] (fun f vs => PySem.call f vs) := by
  refine Att.attach_call hn hdf fun w s₀ s₁ mg mb fa o pm cd doc a vs ns G Y ho hd hcd hmg hobj hints hlen hg => ?_
  have KX := hY w _ Y
  obtain ⟨fd,hb,hF⟩ := F w mg fa _ KX G.T.g hmg
  exact zkZ KX G.T.g G.T.b G.T.builtins G.T.nolimit hg hobj hints (Nat.le_trans hlen hn2) hr hF hb (fun H hO hS => hsp w H a ns hlen hO hS) fun H e s' => hCX w H s₁ e s'
end L2
namespace L2
open PySem PySem.Spec PyProof.Rows
noncomputable def zcI (s : Stmt) : Arguments := match s with
  | .FunctionDef _ a _ _ _ _ _ _ _ _ => a
  | _ => { posonlyargs := [],args := [],vararg := none,kwonlyargs := [],kw_defaults := [],kwarg := none,defaults := [] }
noncomputable def zbU (s : Stmt) : List Stmt := match s with
  | .FunctionDef _ _ b _ _ _ _ _ _ _ => b
  | _ => []
noncomputable def zab (s : Stmt) : Scope := match s with
  | .FunctionDef _ _ _ _ _ _ sc _ _ _ => sc
  | _ => { kind := .function,names := [],isGenerator := false,isCoroutine := false }
noncomputable abbrev CX0 : CXT := fun _ _ _ _ _ _ => False
noncomputable abbrev E0 : XK := fun _ _ _ => False
theorem zoF {X : Cx} : zkf CX0 X E0 := fun _ _ _ _ _ _ _ h => h.elim
structure Fun (K : PySem.W.Frag) (x qual : Str) (st : Stmt) (f : Addr) (fd : FuncData) : Prop where
  ex : ∃ (oc : Value) (od : Option Addr) (kV doc pm : Value) (an : Option Addr) (cdv ct : Value) (osl : Array (Option Value)),
    fd = PySem.W.fnOf x qual (zcI st) (zbU st) (zab st) .none kV doc pm an cdv ct∧K.lookup f = some ⟨oc,od,.func fd,osl⟩∧PySem.W.codeIn K cdv qual = true
  kp : PySem.W.keepIn K (.ref f) = true
section
variable {P : Program} {w : World} {K : PySem.W.Frag} {mg : Str → Option Value} {base : Heap}
theorem Fun.ok {x qual : Str} {st : Stmt} {f : Addr} {fd : FuncData} {N ps : List Str} {k : Nat} {sp : Sp} (F : Fun K x qual st f fd) (S : FnScope N ps (zab st)) (len : ∀ vs H Q E,sp vs H Q E→vs.length = ps.length)
    (hbody : ∀ (cdv : Value) (A : Around) (outer : List Env) (s : Shared) (H : Hp) (vs : List V) (Q : VK) (E : XK),Room k (A.deeper (envOfC qual (zab st) s.heap.objs.size f cdv))→sp vs H Q E →
      ∃ t,PSs (cxOf CX0 P w K mg base N qual (zab st) f cdv A outer s H E).nox (zbU st) t∧t { nx := fun _ H' => Q .non H',rt := Q } (start N vs) H) : FnOk P w K mg base CX0 (k + 1) f fd ps sp := by
  obtain ⟨oc,od,kV,doc,pm,an,cdv,ct,osl,rfl,lk,hcd⟩ := F.ex
  refine zqI lk hcd S len fun A outer s H vs Q E hr hsp => ?_
  obtain ⟨t,h,q⟩ := hbody cdv A outer s H vs Q E hr hsp
  exact ⟨t,h.nox,q⟩
theorem Fun.binds {x qual : Str} {st : Stmt} {f : Addr} {fd : FuncData} {ps : List Str} (F : Fun K x qual st f fd)
    (h : ∀ (kV doc pm : Value) (an : Option Addr) (cdv ct : Value) (us : List Value),us.length = ps.length→bindArgs (PySem.W.fnOf x qual (zcI st) (zbU st) (zab st) .none kV doc pm an cdv ct) ⟨us,[]⟩ = pure (ps.zip us)) : zfK K fd ps [] := by
  obtain ⟨oc,od,kV,doc,pm,an,cdv,ct,osl,rfl,lk,hcd⟩ := F.ex
  exact .all (h kV doc pm an cdv ct)
theorem zpw {x qual : Str} {st : Stmt} {f : Addr} {oc : Value} {od an : Option Addr} {osl : Array (Option Value)} {kV doc pm cdv ct : Value} (l : K.lookup f = some ⟨oc,od,.func (PySem.W.fnOf x qual (zcI st) (zbU st) (zab st) .none kV doc pm an cdv ct),osl⟩)
    (c : PySem.W.codeIn K cdv qual = true) (k : PySem.W.keepIn K (.ref f) = true) : Fun K x qual st f (PySem.W.fnOf x qual (zcI st) (zbU st) (zab st) .none kV doc pm an cdv ct) := ⟨⟨oc,od,kV,doc,pm,an,cdv,ct,osl,rfl,l,c⟩,k⟩
end
theorem zbl {A : Around} {k : Nat} (hr : Room k A) : A.units + 1 < cLine := Nat.lt_of_le_of_lt (Nat.add_le_add_left (by decide : 1≤64) _) hr.units
section
variable {X : Cx}
theorem zj7 : zdn X (.builtin "len") (fun xs H Q => ∃ a kvs,xs = [V.ref a]∧Rd H a (.dK kvs)∧Q (.int kvs.length) H) := by
  intro pins s σ H xs us Q I r h
  obtain ⟨a,kvs,rfl,ha,q⟩ := h
  obtain ⟨u,rfl,ru⟩ := zfP r
  cases ru
  exact zqN I ha fun t s' I' => ⟨.int kvs.length,H,I',⟨t,rfl⟩,q⟩
end
noncomputable def Same (H H' : Hp) : Prop := ∀ b o,H b = some o→H' b = some o
theorem Same.trans {H H1 H2 : Hp} (a : Same H H1) (b : Same H1 H2) : Same H H2 := fun c o h => b c o (a c o h)
theorem Same.free {H H' : Hp} (e : Same H H') {l : Addr} (h : H' l = Option.none) : H l = Option.none := by
  cases q : H l with
  | none => rfl
  | some o =>
    rw [e l o q] at h
    cases h
theorem Same.seq {K : PySem.W.Frag} {H H' : Hp} {a : Addr} {xs : List V} (e : Same H H') (h : SqL K H a xs) : SqL K H' a xs := by
  rcases h with (h | ⟨o,h⟩) | h
  · exact .inl (.inl (e _ _ h))
  · exact .inl (.inr ⟨o,e _ _ h⟩)
  · exact .inr h
section
variable {κ : Type} [DecidableEq κ]
end
end L2
end
section
namespace DL
open PySem
open PySem.SeqAt
open PySem.AutoSeq1 (wpAny_loadPart')
open PySem.MeetsSeq PySem.MeetsSeq2 PySem.MeetsSeq3
end DL
end
section
namespace DL
open PySem PyProof.Rows
section
variable {prog : Program} {w : World} {A : Around} {E : Value → Shared → Prop} {s : Shared}
end
end DL
end
section
namespace DL
open PySem PyProof.Rows PySem.W
noncomputable def zlX {α : Type} (c : Nat→Nat→Bool) : KasT α→α
  | .ret a => a
  | .ask i j k => zlX c (k (c i j))
inductive Asks (n : Nat) {α : Type} (P : α→Prop) : KasT α→Prop where
  | ret {a : α} : P a→Asks n P (.ret a)
  | ask {i j : Nat} {k : Bool→KasT α} : i < n→j < n→(∀ b,Asks n P (k b))→Asks n P (.ask i j k)
theorem Asks.bind {n : Nat} {α β : Type} {P : α→Prop} {P' : β→Prop} {t : KasT α} {f : α→KasT β} (h : Asks n P t) (hf : ∀ a,P a→Asks n P' (f a)) : Asks n P' (t.bind f) := by
  induction h with
  | ret h => exact hf _ h
  | ask h1 h2 _ ih => exact .ask h1 h2 ih
theorem Asks.run {n : Nat} {α : Type} {P : α→Prop} {t : KasT α} (h : Asks n P t) (c : Nat→Nat→Bool) : P (zlX c t) := by
  induction h with
  | ret h => exact h
  | ask _ _ _ ih => exact ih _
theorem Asks.mono {n : Nat} {α : Type} {P P' : α→Prop} {t : KasT α} (h : Asks n P t) (hp : ∀ a,P a→P' a) : Asks n P' t := by
  induction h with
  | ret h => exact .ret (hp _ h)
  | ask h1 h2 _ ih => exact .ask h1 h2 ih
section
variable {n : Nat} (hn : 0 < n)
include hn
end
end DL
end
section
namespace DL
open PySem PyProof.Rows PySem.W PySem.Calls
section
variable {prog : Program} {w : World} {A : Around} {E : Value → Shared → Prop} {s : Shared}
end
end DL
end
section
namespace DL
open PySem PySem.Spec PyProof.Rows L2
inductive D where
  | non | bl (b : Bool) | int (i : Int) | str (x : Str)
  | tup (ds : List D) | lst (ds : List D)
  | dic (kvs : List (Key × D))
  | obj (c : Nat) (fs : List (Str × D))
instance : Inhabited D := ⟨.non⟩
inductive Res (α : Type) where
  | ok (a : α) | exc (x : D) | stuck
noncomputable def Res.bind {α β : Type} (r : Res α) (f : α→Res β) : Res β := match r with
  | .ok a => f a
  | .exc x => .exc x
  | .stuck => .stuck
@[simp] theorem bind_ok {α β : Type} (a : α) (f : α→Res β) : (Res.ok a).bind f = f a := rfl
@[simp] theorem bind_exc {α β : Type} (x : D) (f : α→Res β) : (Res.exc x : Res α).bind f = .exc x := rfl
@[simp] theorem bind_stuck {α β : Type} (f : α→Res β) : (Res.stuck : Res α).bind f = .stuck := rfl
noncomputable def fin {α : Type} (r : Res α) (q : α→Prop) (x : D→Prop) : Prop := match r with
  | .ok a => q a
  | .exc e => x e
  | .stuck => False
theorem zaf {α : Type} {r : Res α} {q q' : α→Prop} {x : D→Prop} (h : fin r q x) (hq : ∀ a,q a→q' a) : fin r q' x := by
  cases r with
  | ok a => exact hq a h
  | exc e => exact h
  | stuck => exact h
theorem zae {α β : Type} {r : Res α} {f : α→Res β} {q : β→Prop} {x : D→Prop} (h : fin (r.bind f) q x) : fin r (fun a => fin (f a) q x) x := by
  cases r with
  | ok a => exact h
  | exc e => exact h
  | stuck => exact h
noncomputable abbrev GH := Addr→Option D
inductive Scl : V→D→Prop where
  | non : Scl .non .non
  | bl (b : Bool) : Scl (.bl b) (.bl b)
  | int (i : Int) : Scl (.int i) (.int i)
  | str (x : Str) : Scl (.str x) (.str x)
inductive KC (K : PySem.W.Frag) (a : Addr) : D→Prop where
  | lst {xs : List V} {ds : List D} : SqL K (fun _ => none) a xs→Paired Scl xs ds→KC K a (.lst ds)
  | tup {xs : List V} {ds : List D} : SqT K (fun _ => none) a xs→Paired Scl xs ds→(∃ o,K.lookup a = some o∧o.cls = .type "tuple"∧o.dict = none)→KC K a (.tup ds)
inductive RG (K : PySem.W.Frag) (G : GH) : V→D→Prop where
  | scl {v : V} {d : D} : Scl v d→RG K G v d
  | ref {a : Addr} {d : D} : G a = some d→RG K G (.ref a) d
  | kc {a : Addr} {d : D} : KC K a d→RG K G (.ref a) d
noncomputable abbrev RGs (K : PySem.W.Frag) (G : GH) : List V→List D→Prop := Paired (RG K G)
noncomputable abbrev RKs (K : PySem.W.Frag) (G : GH) : List (Key × V)→List (Key × D)→Prop := Paired fun p q => p.1 = q.1∧RG K G p.2 q.2
inductive OB (K : PySem.W.Frag) (G : GH) (H : Hp) (a : Addr) : D→Prop where
  | lst {xs : List V} {ds : List D} : Rd H a (.lst xs)→RGs K G xs ds→OB K G H a (.lst ds)
  | tup {xs : List V} {ds : List D} : Rd H a (.tup xs)→RGs K G xs ds→OB K G H a (.tup ds)
  | dic {ob : Obj} {ps : List (Key × V)} {kvs : List (Key × D)} : H a = some (.frz ob (.dK ps))→RKs K G ps kvs→OB K G H a (.dic kvs)
noncomputable def GOk (K : PySem.W.Frag) (G : GH) (H : Hp) : Prop := ∀ a d,G a = some d→OB K G H a d
inductive OwnO (K : PySem.W.Frag) (G : GH) (H : Hp) (a : Addr) : D→Prop where
  | lst {xs : List V} {ds : List D} : H a = some (.lst xs)→RGs K G xs ds→OwnO K G H a (.lst ds)
  | dic {ps : List (Key × V)} {kvs : List (Key × D)} : H a = some (.dK ps)→RKs K G ps kvs→OwnO K G H a (.dic kvs)
structure Own (K : PySem.W.Frag) (G : GH) (H : Hp) (a : Addr) (d : D) : Prop where
  un : G a = none
  ob : OwnO K G H a d
structure Grow (K : PySem.W.Frag) (G : GH) (H : Hp) (G' : GH) (H' : Hp) : Prop where
  ok : GOk K G' H'
  he : ∀ a o,H a = some o→H' a = some o
  ge : ∀ a d,G a = some d→G' a = some d
  gf : ∀ a,H a≠none→G' a = G a
section
variable {K : PySem.W.Frag} {G G' G1 G2 : GH} {H H' H1 H2 : Hp} {a p : Addr} {d : D} {v : V}
theorem Rd.mono {u : HO} (h : Rd H a u) (he : ∀ a o,H a = some o→H' a = some o) : Rd H' a u := by
  rcases h with h | ⟨o,h⟩
  · exact .inl (he _ _ h)
  · exact .inr ⟨o,he _ _ h⟩
theorem Rd.isS {u : HO} (h : Rd H a u) : H a≠none := by
  rcases h with h | ⟨o,h⟩ <;> rw [h] <;> simp
theorem RG.mono (h : RG K G v d) (ge : ∀ a d,G a = some d→G' a = some d) : RG K G' v d := by
  cases h with
  | scl s => exact .scl s
  | ref e => exact .ref (ge _ _ e)
  | kc k => exact .kc k
theorem RGs.mono {xs : List V} {ds : List D} (h : RGs K G xs ds) (ge : ∀ a d,G a = some d→G' a = some d) : RGs K G' xs ds := Paired.mono (fun _ _ r => r.mono ge) h
theorem RKs.mono {xs : List (Key × V)} {ds : List (Key × D)} (h : RKs K G xs ds) (ge : ∀ a d,G a = some d→G' a = some d) : RKs K G' xs ds := Paired.mono (fun _ _ r => ⟨r.1,r.2.mono ge⟩) h
theorem OB.mono (h : OB K G H a d) (ge : ∀ a d,G a = some d→G' a = some d) (he : ∀ o,H a = some o→H' a = some o) : OB K G' H' a d := by
  have rd : ∀ {u : HO},Rd H a u→Rd H' a u := fun r => by
    rcases r with r | ⟨o,r⟩
    · exact .inl (he _ r)
    · exact .inr ⟨o,he _ r⟩
  cases h with
  | lst r s => exact .lst (rd r) (s.mono ge)
  | tup r s => exact .tup (rd r) (s.mono ge)
  | dic r s => exact .dic (he _ r) (RKs.mono s ge)
theorem OB.isS (h : OB K G H a d) : H a≠none := by
  cases h with
  | lst r s => exact Rd.isS r
  | tup r s => exact Rd.isS r
  | dic r s => rw [r]; simp
theorem GOk.isN (g : GOk K G H) (h : H p = none) : G p = none := by
  cases e : G p with
  | none => rfl
  | some d => exact absurd h (g p d e).isS
theorem OwnO.isS (h : OwnO K G H a d) : H a≠none := by
  cases h with
  | lst r s => rw [r]; simp
  | dic r s => rw [r]; simp
theorem OwnO.mono (h : OwnO K G H a d) (ge : ∀ a d,G a = some d→G' a = some d) (he : ∀ o,H a = some o→H' a = some o) : OwnO K G' H' a d := by
  cases h with
  | lst r s => exact .lst (he _ r) (s.mono ge)
  | dic r s => exact .dic (he _ r) (RKs.mono s ge)
theorem Own.mono (h : Own K G H a d) (w : Grow K G H G' H') : Own K G' H' a d :=
  ⟨by rw [w.gf a h.ob.isS]; exact h.un,h.ob.mono w.ge fun o e => w.he _ _ e⟩
noncomputable def fz (H : Hp) (a : Addr) (ob : Obj) : Hp := match H a with
  | some (.dK ps) => upd H a (.frz ob (.dK ps))
  | _ => H
theorem zjJ {b : Addr} {ob : Obj} (h : b≠a) : fz H a ob b = H b := by
  unfold fz
  cases e : H a with
  | none => rfl
  | some u => cases u <;> first | rfl | exact zal h
theorem zpu {xs : List V} {ob : Obj} (h : H a = some (.lst xs)) : fz H a ob = H := by
  unfold fz
  rw [h]
theorem zpv {ps : List (Key × V)} {ob : Obj} (h : H a = some (.dK ps)) : fz H a ob a = some (.frz ob (.dK ps)) := by
  unfold fz
  rw [h]; exact zan
theorem OwnO.fast (h : OwnO K G H a d) (ob : Obj) : OB K G (fz H a ob) a d := by
  cases h with
  | lst r s => rw [zpu r]; exact .lst (.inl r) s
  | dic r s => exact .dic (zpv r) s
theorem GOk.fast (g : GOk K G H) (hn : G a = none) (ob : Obj) : GOk K G (fz H a ob) := fun b d e => by
  have hb : b≠a := by rintro rfl; rw [hn] at e; cases e
  exact (g b d e).mono (fun _ _ z => z) fun o z => by rw [zjJ hb]; exact z
theorem Grow.refl (g : GOk K G H) : Grow K G H G H := ⟨g,fun _ _ e => e,fun _ _ e => e,fun _ _ => rfl⟩
theorem Grow.trans (x : Grow K G H G1 H1) (y : Grow K G1 H1 G2 H2) : Grow K G H G2 H2 :=
  ⟨y.ok,fun a o e => y.he _ _ (x.he _ _ e),fun a d e => y.ge _ _ (x.ge _ _ e),fun a h => by
    have h1 : H1 a≠Option.none := by
      cases e : H a with
      | none => exact absurd e h
      | some o => rw [x.he _ _ e]; simp
    rw [y.gf a h1,x.gf a h]⟩
noncomputable def gset (G : GH) (a : Addr) (d : D) : GH := fun b => if b = a then some d else G b
theorem zas : gset G a d a = some d := if_pos rfl
theorem za5 {b : Addr} (h : b≠a) : gset G a d b = G b := if_neg h
theorem zbr (hn : G a = none) : ∀ b e,G b = some e→gset G a d b = some e := fun b e h => by
  have : b≠a := by rintro rfl; rw [hn] at h; cases h
  rw [za5 this]; exact h
theorem GOk.gset (g : GOk K G H) (hn : G a = none) (o : OB K G H a d) : GOk K (gset G a d) H := fun b e h => by
  by_cases hb : b = a
  · subst hb; rw [zas] at h; cases h
    exact o.mono (zbr hn) fun _ q => q
  · rw [za5 hb] at h
    exact (g b e h).mono (zbr hn) fun _ q => q
theorem zlA (hn : H p = none) {o : HO} : ∀ a u,H a = some u→upd H p o a = some u := fun a u e => by
  rw [zal (zbc e hn)]; exact e
theorem Grow.new (g : GOk K G H) (hn : H p = none) (o : HO) : Grow K G H G (upd H p o) :=
  ⟨fun a d e => (g a d e).mono (fun _ _ q => q) fun u q => zlA hn _ _ q,fun a u e => zlA hn _ _ e,fun _ _ e => e,fun _ _ => rfl⟩
theorem Grow.newF (g : GOk K G H) (hn : H p = none) {o : HO} (ob : OB K G (upd H p o) p d) : Grow K G H (gset G p d) (upd H p o) := by
  have w := Grow.new g hn o
  have gn := g.isN hn
  exact ⟨w.ok.gset gn ob,w.he,fun a e h => zbr gn a e h,fun a h => za5 (by rintro rfl; exact h hn)⟩
theorem Grow.frz (w : Grow K G H G' H') (hn : H a = none) (o : Own K G' H' a d) (ob : Obj) : Grow K G H (gset G' a d) (fz H' a ob) :=
  ⟨(w.ok.fast o.un ob).gset o.un (o.ob.fast ob),fun b u e => by rw [zjJ (by rintro rfl; rw [hn] at e; cases e)]; exact w.he b u e,fun b e h => zbr o.un b e (w.ge b e h),fun b h => by rw [za5 (by rintro rfl; exact h hn)]; exact w.gf b h⟩
theorem RG.lst {ds : List D} (g : GOk K G H) (h : RG K G v (.lst ds)) : ∃ a xs,v = .ref a∧SqL K H a xs∧RGs K G xs ds := by
  cases h with
  | scl s => cases s
  | ref e =>
    cases g _ _ e with
    | lst r s => exact ⟨_,_,rfl,.inl r,s⟩
  | kc k =>
    cases k with
    | lst r s =>
      refine ⟨_,_,rfl,?_,Paired.mono (fun _ _ z => .scl z) s⟩
      rcases r with (r | ⟨o,r⟩) | r
      · cases r
      · cases r
      · exact .inr r
theorem RG.tup {ds : List D} (g : GOk K G H) (h : RG K G v (.tup ds)) : ∃ a xs,v = .ref a∧SqT K H a xs∧RGs K G xs ds := by
  cases h with
  | scl s => cases s
  | ref e =>
    cases g _ _ e with
    | tup r s => exact ⟨_,_,rfl,.inl r,s⟩
  | kc k =>
    cases k with
    | tup r s _ =>
      refine ⟨_,_,rfl,?_,Paired.mono (fun _ _ z => .scl z) s⟩
      rcases r with (r | ⟨o,r⟩) | r
      · cases r
      · cases r
      · exact .inr r
theorem RG.dic {kvs : List (Key × D)} (g : GOk K G H) (h : RG K G v (.dic kvs)) : ∃ a ps,v = .ref a∧Rd H a (.dK ps)∧RKs K G ps kvs := by
  cases h with
  | scl s => cases s
  | ref e =>
    cases g _ _ e with
    | dic r s => exact ⟨_,_,rfl,.inr ⟨_,r⟩,s⟩
  | kc k => cases k
theorem RG.int {i : Int} (g : GOk K G H) (h : RG K G v (.int i)) : v = .int i := by
  cases h with
  | scl s => cases s; rfl
  | ref e => cases g _ _ e
  | kc k => cases k
theorem RG.str {x : Str} (g : GOk K G H) (h : RG K G v (.str x)) : v = .str x := by
  cases h with
  | scl s => cases s; rfl
  | ref e => cases g _ _ e
  | kc k => cases k
theorem RG.bl {b : Bool} (g : GOk K G H) (h : RG K G v (.bl b)) : v = .bl b := by
  cases h with
  | scl s => cases s; rfl
  | ref e => cases g _ _ e
  | kc k => cases k
theorem RG.non (g : GOk K G H) (h : RG K G v .non) : v = .non := by
  cases h with
  | scl s => cases s; rfl
  | ref e => cases g _ _ e
  | kc k => cases k
noncomputable def RB (K : PySem.W.Frag) (G : GH) (H : Hp) (v : V) (d : D) : Prop := RG K G v d∨∃ a,v = .ref a∧Own K G H a d
theorem RG.rb (h : RG K G v d) : RB K G H v d := .inl h
theorem RB.mono (h : RB K G H v d) (w : Grow K G H G' H') : RB K G' H' v d := by
  rcases h with h | ⟨a,e,h⟩
  · exact .inl (h.mono w.ge)
  · exact .inr ⟨a,e,h.mono w⟩
theorem RB.lst {ds : List D} (g : GOk K G H) (h : RB K G H v (.lst ds)) : ∃ a xs,v = .ref a∧SqL K H a xs∧RGs K G xs ds := by
  rcases h with h | ⟨a,e,h⟩
  · exact h.lst g
  · cases h.ob with
    | lst r s => exact ⟨a,_,e,SqL.of r,s⟩
theorem RB.tup {ds : List D} (g : GOk K G H) (h : RB K G H v (.tup ds)) : ∃ a xs,v = .ref a∧SqT K H a xs∧RGs K G xs ds := by
  rcases h with h | ⟨a,e,h⟩
  · exact h.tup g
  · cases h.ob
theorem RB.dic {kvs : List (Key × D)} (g : GOk K G H) (h : RB K G H v (.dic kvs)) : ∃ a ps,v = .ref a∧Rd H a (.dK ps)∧RKs K G ps kvs := by
  rcases h with h | ⟨a,e,h⟩
  · exact h.dic g
  · cases h.ob with
    | dic r s => exact ⟨a,_,e,.inl r,s⟩
theorem RB.int {i : Int} (g : GOk K G H) (h : RB K G H v (.int i)) : v = .int i := by
  rcases h with h | ⟨a,e,h⟩
  · exact h.int g
  · cases h.ob
theorem RB.str {x : Str} (g : GOk K G H) (h : RB K G H v (.str x)) : v = .str x := by
  rcases h with h | ⟨a,e,h⟩
  · exact h.str g
  · cases h.ob
theorem RB.bl {b : Bool} (g : GOk K G H) (h : RB K G H v (.bl b)) : v = .bl b := by
  rcases h with h | ⟨a,e,h⟩
  · exact h.bl g
  · cases h.ob
theorem RB.non (g : GOk K G H) (h : RB K G H v .non) : v = .non := by
  rcases h with h | ⟨a,e,h⟩
  · exact h.non g
  · cases h.ob
theorem Paired.get {α β : Type} {F : α→β→Prop} : ∀ {l : List α} {r : List β} {i : Nat} {b : β},Paired F l r→r[i]? = some b→∃ a,l[i]? = some a∧F a b
  | _,_,_,_,.nil,e => by simp at e
  | _,_,0,_,.cons h _,e => by simp at e; subst e; exact ⟨_,rfl,h⟩
  | _,_,i + 1,b,.cons _ t,e => by
    obtain ⟨a,h1,h2⟩ := Paired.get (i := i) t (by simpa using e)
    exact ⟨a,by simpa using h1,h2⟩
theorem Paired.app {α β : Type} {F : α→β→Prop} {l l' : List α} {r r' : List β} (h : Paired F l r) (q : Paired F l' r') : Paired F (l++l') (r++r') := by
  induction h with
  | nil => exact q
  | cons h _ ih => exact .cons h ih
theorem Paired.tk {α β : Type} {F : α→β→Prop} {l : List α} {r : List β} (n : Nat) (h : Paired F l r) : Paired F (l.take n) (r.take n) := by
  induction h generalizing n with
  | nil => cases n <;> exact .nil
  | cons h _ ih => cases n with
    | zero => exact .nil
    | succ n => exact .cons h (ih n)
theorem Paired.dr {α β : Type} {F : α→β→Prop} {l : List α} {r : List β} (n : Nat) (h : Paired F l r) : Paired F (l.drop n) (r.drop n) := by
  induction h generalizing n with
  | nil => cases n <;> exact .nil
  | cons h t ih => cases n with
    | zero => exact .cons h t
    | succ n => exact ih n
theorem Paired.st {α β : Type} {F : α→β→Prop} {a : α} {b : β} (h : F a b) {l : List α} {r : List β} (n : Nat) (p : Paired F l r) : Paired F (l.set n a) (r.set n b) := by
  induction p generalizing n with
  | nil => exact .nil
  | cons q t ih => cases n with
    | zero => exact .cons h t
    | succ n => exact .cons q (ih n)
end
inductive Md where
  | sh | ow | bw
  deriving DecidableEq
noncomputable abbrev Rho := List (Option D)
structure GE where
  gh : GH
  h0 : Hp
  hd : Nat→Option (Option V × Option D)
noncomputable def Bw (K : PySem.W.Frag) (h0 : Hp) (G : GH) (H : Hp) (v : V) (d : D) : Prop := RG K G v d∨∃ a,v = V.ref a∧Own K G H a d∧h0 a≠none
theorem Bw.grow {K : PySem.W.Frag} {h0 : Hp} {G G' : GH} {H H' : Hp} {v : V} {d : D} (h : Bw K h0 G H v d) (w : Grow K G H G' H') : Bw K h0 G' H' v d := by
  rcases h with h | ⟨a,e,h1,h2⟩
  · exact .inl (h.mono w.ge)
  · exact .inr ⟨a,e,h1.mono w,h2⟩
theorem Bw.rb {K : PySem.W.Frag} {h0 : Hp} {G : GH} {H : Hp} {v : V} {d : D} (h : Bw K h0 G H v d) : RB K G H v d := by
  rcases h with h | ⟨a,e,h1,h2⟩
  · exact .inl h
  · exact .inr ⟨a,e,h1⟩
noncomputable def Lk (r : Rho) (st : L2.St) (i : Nat) (o : Option V × Option D) : Prop := st[i]? = some o.1∧∀ d,r[i]? = some (some d)→o.2 = some d
structure SI (X : Cx) (g : GE) (m : List Md) (r : Rho) (G : GH) (st : L2.St) (H : Hp) : Prop where
  gok : GOk X.K G H
  old : ∀ a o,g.h0 a = some o→H a = some o
  ge : ∀ a d,g.gh a = some d→G a = some d
  gf : ∀ a,g.h0 a≠none→G a = g.gh a
  lm : m.length = st.length
  lr : r.length = st.length
  sh : ∀ (i : Nat) d,r[i]? = some (some d)→m[i]? = some .sh→∃ v,st[i]? = some (some v)∧RG X.K G v d
  ow : ∀ (i : Nat) d,r[i]? = some (some d)→m[i]? = some .ow→∃ a,st[i]? = some (some (V.ref a))∧Own X.K G H a d∧g.h0 a = none
  bw : ∀ (i : Nat) d,r[i]? = some (some d)→m[i]? = some .bw→∃ v,st[i]? = some (some v)∧Bw X.K g.h0 G H v d
  dis : ∀ (i j : Nat) a d e,i≠j→r[i]? = some (some d)→r[j]? = some (some e)→m[i]? = some .ow→m[j]? = some .ow→st[i]? = some (some (V.ref a))→st[j]? = some (some (V.ref a))→False
  lk : ∀ (i : Nat) o,g.hd i = some o→m[i]? = some .bw→Lk r st i o
section
variable {X : Cx} {g : GE} {m : List Md} {r : Rho} {G G' : GH} {st : L2.St} {H H' : Hp}
theorem SI.grow (s : SI X g m r G st H) (w : Grow X.K G H G' H') : SI X g m r G' st H' where
  gok := w.ok
  old := fun a o e => w.he _ _ (s.old a o e)
  ge := fun a d e => w.ge _ _ (s.ge a d e)
  gf := fun a h => by
    have h1 : H a≠none := by
      cases e : g.h0 a with
      | none => exact absurd e h
      | some o => rw [s.old _ _ e]; simp
    rw [w.gf a h1,s.gf a h]
  lm := s.lm
  lr := s.lr
  sh := fun i d h1 h2 => by obtain ⟨v,h3,h4⟩ := s.sh i d h1 h2; exact ⟨v,h3,h4.mono w.ge⟩
  ow := fun i d h1 h2 => by obtain ⟨a,h3,h4,h5⟩ := s.ow i d h1 h2; exact ⟨a,h3,h4.mono w,h5⟩
  bw := fun i d h1 h2 => by obtain ⟨v,h3,h4⟩ := s.bw i d h1 h2; exact ⟨v,h3,h4.grow w⟩
  dis := s.dis
  lk := s.lk
theorem SI.grown (s : SI X g m r G st H) : Grow X.K g.gh g.h0 G H := ⟨s.gok,s.old,s.ge,s.gf⟩
theorem SI.frz (s : SI X g m r G st H) (i : Nat) (hi : m[i]? = some .ow) : (∃ G',(∀ a d,G a = some d→G' a = some d)∧SI X g (m.set i .sh) r G' st H)∨∃ a,∀ ob,∃ G',(∀ a d,G a = some d→G' a = some d)∧SI X g (m.set i .sh) r G' st (fz H a ob) := by
  have hlt : i < m.length := (List.getElem?_eq_some_iff.mp hi).1
  by_cases hb : ∃ d,r[i]? = some (some d)
  · obtain ⟨d,hd⟩ := hb
    obtain ⟨a,h1,h2,h3⟩ := s.ow i d hd hi
    refine .inr ⟨a,fun ob => ⟨gset G a d,zbr h2.un,(s.gok.fast h2.un ob).gset h2.un (h2.ob.fast ob),fun b o e => by rw [zjJ (by rintro rfl; rw [h3] at e; cases e)]; exact s.old b o e,fun b e h => zbr h2.un b e (s.ge b e h),fun b h => ?_,by simpa using s.lm,s.lr,?_,?_,?_,?_,fun j o hj hm => ?_⟩⟩
    · rw [za5 (by rintro rfl; exact h h3)]; exact s.gf b h
    · intro j e hj hm
      by_cases hij : i = j
      · subst hij
        rw [hd] at hj; cases hj
        exact ⟨_,h1,.ref zas⟩
      · rw [List.getElem?_set_ne hij] at hm
        obtain ⟨v,q1,q2⟩ := s.sh j e hj hm
        exact ⟨v,q1,q2.mono (zbr h2.un)⟩
    · intro j e hj hm
      by_cases hij : i = j
      · subst hij
        rw [List.getElem?_set_self hlt] at hm; cases hm
      · rw [List.getElem?_set_ne hij] at hm
        obtain ⟨b,q1,q2,q3⟩ := s.ow j e hj hm
        have hba : b≠a := by
          rintro rfl
          exact s.dis i j b d e hij hd hj hi hm h1 q1
        exact ⟨b,q1,⟨by rw [za5 hba]; exact q2.un,q2.ob.mono (zbr h2.un) fun _ z => by rw [zjJ hba]; exact z⟩,q3⟩
    · intro j e hj hm
      by_cases hij : i = j
      · subst hij
        rw [List.getElem?_set_self hlt] at hm; cases hm
      · rw [List.getElem?_set_ne hij] at hm
        obtain ⟨v,q1,q2⟩ := s.bw j e hj hm
        refine ⟨v,q1,?_⟩
        rcases q2 with q2 | ⟨b,rfl,q2,q3⟩
        · exact .inl (q2.mono (zbr h2.un))
        · have hba : b≠a := by rintro rfl; exact q3 h3
          exact .inr ⟨b,rfl,⟨by rw [za5 hba]; exact q2.un,q2.ob.mono (zbr h2.un) fun _ z => by rw [zjJ hba]; exact z⟩,q3⟩
    · intro j k b e e' hjk hj hk hm hm' q1 q2
      have hij : i≠j := by
        rintro rfl
        rw [List.getElem?_set_self hlt] at hm; cases hm
      have hik : i≠k := by
        rintro rfl
        rw [List.getElem?_set_self hlt] at hm'; cases hm'
      rw [List.getElem?_set_ne hij] at hm
      rw [List.getElem?_set_ne hik] at hm'
      exact s.dis j k b e e' hjk hj hk hm hm' q1 q2
    · refine s.lk j o hj ?_
      by_cases hij : i = j
      · subst hij; rw [List.getElem?_set_self hlt] at hm; cases hm
      · rw [List.getElem?_set_ne hij] at hm; exact hm
  · refine .inl ⟨G,fun _ _ z => z,s.gok,s.old,s.ge,s.gf,by simpa using s.lm,s.lr,?_,?_,?_,?_,fun j o hj hm => ?_⟩
    · intro j e hj hm
      have hij : i≠j := by rintro rfl; exact hb ⟨e,hj⟩
      rw [List.getElem?_set_ne hij] at hm
      exact s.sh j e hj hm
    · intro j e hj hm
      have hij : i≠j := by rintro rfl; exact hb ⟨e,hj⟩
      rw [List.getElem?_set_ne hij] at hm
      exact s.ow j e hj hm
    · intro j e hj hm
      have hij : i≠j := by rintro rfl; exact hb ⟨e,hj⟩
      rw [List.getElem?_set_ne hij] at hm
      exact s.bw j e hj hm
    · intro j k b e e' hjk hj hk hm hm' q1 q2
      have hij : i≠j := by rintro rfl; exact hb ⟨e,hj⟩
      have hik : i≠k := by rintro rfl; exact hb ⟨e',hk⟩
      rw [List.getElem?_set_ne hij] at hm
      rw [List.getElem?_set_ne hik] at hm'
      exact s.dis j k b e e' hjk hj hk hm hm' q1 q2
    · refine s.lk j o hj ?_
      by_cases hij : i = j
      · subst hij; rw [List.getElem?_set_self hlt] at hm; cases hm
      · rw [List.getElem?_set_ne hij] at hm; exact hm
end
end DL
end
section
namespace DL
open PySem PySem.Spec PyProof.Rows L2
theorem PE.imp {X : Cx} {e : Expr} {t t' : TE} (h : PE X e t) (i : ∀ σ H Q,t' σ H Q→t σ H Q) : PE X e t' := fun pins s σ H Q I q => h pins s σ H Q I (i σ H Q q)
theorem PT.imp {X : Cx} {e : Expr} {t t' : TT} (h : PT X e t) (i : ∀ σ H Q,t' σ H Q→t σ H Q) : PT X e t' := fun pins s σ H Q I q => h pins s σ H Q I (i σ H Q q)
theorem PW.imp {X : Cx} {e : Expr} {t t' : TT} (h : PW X e t) (i : ∀ σ H Q,t' σ H Q→t σ H Q) : PW X e t' := fun whole pins s σ H Q I q => h whole pins s σ H Q I (i σ H Q q)
theorem PA.imp {X : Cx} {e : List Expr} {t t' : TA} (h : PA X e t) (i : ∀ σ H Q,t' σ H Q→t σ H Q) : PA X e t' := fun pos pins s σ H Q I q => h pos pins s σ H Q I (i σ H Q q)
theorem PS.imp {X : Cx} {e : Stmt} {t t' : TS} (h : PS X e t) (i : ∀ D σ H,t' D σ H→t D σ H) : PS X e t' := fun pins s σ H D I q => h pins s σ H D I (i D σ H q)
theorem PSs.imp {X : Cx} {e : List Stmt} {t t' : TS} (h : PSs X e t) (i : ∀ D σ H,t' D σ H→t D σ H) : PSs X e t' := fun pins s σ H D I q => h pins s σ H D I (i D σ H q)
noncomputable def ExV (_X : Cx) (_G : GH) (_H : Hp) (_e : Value) (_x : D) : Prop := False
noncomputable def XW (X : Cx) (σ : L2.St) (G : GH) (H : Hp) (x : D) : Prop := ∀ pins e s' G' H',Grow X.K G H G' H'→Inv X pins σ H' s'→ExV X G' H' e x→X.xe e s'
theorem XW.grow {X : Cx} {σ : L2.St} {G G1 : GH} {H H1 : Hp} {x : D} (h : XW X σ G H x) (w : Grow X.K G H G1 H1) : XW X σ G1 H1 x := fun pins e s' G' H' w' I q => h pins e s' G' H' (w.trans w') I q
noncomputable abbrev FE := Rho→Res D
noncomputable def tE (X : Cx) (g : GE) (m : List Md) (f : FE) : TE := fun σ H Q => ∃ r G,SI X g m r G σ H∧fin (f r) (fun d => ∀ v G' H',Grow X.K G H G' H'→RG X.K G' v d→Q v H') (XW X σ G H)
noncomputable def tB (X : Cx) (g : GE) (m : List Md) (f : FE) : TE := fun σ H Q => ∃ r G,SI X g m r G σ H∧fin (f r) (fun d => ∀ v G' H',Grow X.K G H G' H'→RB X.K G' H' v d→Q v H') (XW X σ G H)
noncomputable def tO (X : Cx) (g : GE) (m : List Md) (f : FE) : TE := fun σ H Q => ∃ r G,SI X g m r G σ H∧fin (f r) (fun d => ∀ a G' H',Grow X.K G H G' H'→H a = none→Own X.K G' H' a d→Q (.ref a) H') (XW X σ G H)
noncomputable def tQ (X : Cx) (g : GE) (m : List Md) (f : Rho→Res Bool) : TT := fun σ H Q => ∃ r G,SI X g m r G σ H∧fin (f r) (fun b => ∀ G' H',Grow X.K G H G' H'→Q b H') (XW X σ G H)
noncomputable def tL (X : Cx) (g : GE) (m : List Md) (f : Rho→Res (List D)) : TA := fun σ H Q => ∃ r G,SI X g m r G σ H∧fin (f r) (fun ds => ∀ vs G' H',Grow X.K G H G' H'→RGs X.K G' vs ds→Q vs H') (XW X σ G H)
noncomputable def tLB (X : Cx) (g : GE) (m : List Md) (f : Rho→Res (List D)) : TA := fun σ H Q => ∃ r G,SI X g m r G σ H∧fin (f r) (fun ds => ∀ vs G' H',Grow X.K G H G' H'→Paired (RB X.K G' H') vs ds→Q vs H') (XW X σ G H)
noncomputable def SE (X : Cx) (g : GE) (m : List Md) (e : Expr) (f : FE) : Prop := PE X e (tE X g m f)
noncomputable def SB (X : Cx) (g : GE) (m : List Md) (e : Expr) (f : FE) : Prop := PE X e (tB X g m f)
noncomputable def SO (X : Cx) (g : GE) (m : List Md) (e : Expr) (f : FE) : Prop := PE X e (tO X g m f)
noncomputable def SQ (X : Cx) (g : GE) (m : List Md) (e : Expr) (f : Rho→Res Bool) : Prop := PT X e (tQ X g m f)
noncomputable def SW (X : Cx) (g : GE) (m : List Md) (e : Expr) (f : Rho→Res Bool) : Prop := PW X e (tQ X g m f)
noncomputable def SA (X : Cx) (g : GE) (m : List Md) (es : List Expr) (f : Rho→Res (List D)) : Prop := PA X es (tL X g m f)
noncomputable def SAB (X : Cx) (g : GE) (m : List Md) (es : List Expr) (f : Rho→Res (List D)) : Prop := PA X es (tLB X g m f)
section
variable {X : Cx} {g : GE} {m : List Md} {e a b c : Expr} {f fa fb fc : FE} {pos : Pos}
theorem SE.toB (h : SE X g m e f) : SB X g m e f := PE.imp h fun σ H Q ⟨r,G,si,q⟩ => ⟨r,G,si,zaf q fun d k v G' H' w z => k v G' H' w z.rb⟩
theorem Inv.fast {pins : List (Addr × Obj)} {σ : L2.St} {H : Hp} {s : Shared} (I : Inv X pins σ H s) (a : Addr) : ∃ ob,Inv X pins σ (fz H a ob) s := by
  cases e : H a with
  | none => exact ⟨{ cls := .none,data := .fields #[] },by unfold fz; rw [e]; exact I⟩
  | some u =>
    cases u with
    | dK ps =>
      obtain ⟨z1,z2,vs,z3,o,es,ep,z4,z5⟩ := (show za8 X.prog X.w H s.heap a (.dK ps) from I.hok a _ e)
      have ef : fz H a o = upd H a (.frz o (.dK ps)) := by unfold fz; rw [e]
      refine ⟨o,?_⟩
      rw [ef]
      exact I.write (t' := s.toks) (h' := s.heap) (x := a) (e := a) (by rw [e]; exact trivial) (.inl rfl) (fun b u _ q => q) ⟨o,z4⟩ (show za8 X.prog X.w _ s.heap a (.frz o (.dK ps)) from ⟨z4,z1,z2,vs,z3,o,es,ep,z4,z5⟩)
    | _ => exact ⟨{ cls := .none,data := .fields #[] },by unfold fz; rw [e]; exact I⟩
theorem SO.toE (h : SO X g m e f) : SE X g m e f := by
  intro pins s σ H Q I ⟨r,G,si,q⟩
  refine thn (h pins s σ H (fun v H' => ∃ a,v = .ref a∧∀ ob,Q v (fz H' a ob)) I ⟨r,G,si,zaf q fun d k a G' H' w hn o => ⟨a,rfl,fun ob => k _ _ _ (w.frz hn o ob) (.ref zas)⟩⟩) fun u s' ⟨v,H',I',rv,a,_,z⟩ => ?_
  obtain ⟨ob,I2⟩ := Inv.fast I' a
  exact ⟨v,_,I2,rv,z ob⟩
theorem SO.toB (h : SO X g m e f) : SB X g m e f := h.toE.toB
theorem ziI {v : V} {d : D} (h : PE X e (tC v)) (s : Scl v d) : SE X g m e fun _ => .ok d :=
  PE.imp h fun σ H Q ⟨r,G,si,q⟩ => q v G H (Grow.refl si.gok) (.scl s)
theorem zam {i : Int} {j} : SE X g m (.Constant (.int i) j pos) fun _ => .ok (.int i) := ziI zoD (.int i)
theorem s_bl {i : Bool} {j} : SE X g m (.Constant (.bool i) j pos) fun _ => .ok (.bl i) := ziI zqr (.bl i)
noncomputable def getV (r : Rho) (i : Nat) : Res D := match r[i]? with
  | some (some d) => .ok d
  | _ => .stuck
theorem zed {r : Rho} {i : Nat} {q : D→Prop} {x : D→Prop} (h : fin (getV r i) q x) : ∃ d,r[i]? = some (some d)∧q d := by
  unfold getV at h
  split at h
  · rename_i d e; exact ⟨d,e,h⟩
  · exact h.elim
theorem zqd (i : Nat) {x : Str} (hm : m[i]? = some .sh) (hN : X.N[i]? = some x) (hv : Vis X.env.scope x) (hd : (x == ("__debug__" : Str)) = false := by decide) (hcd : (x == ("__classdict__" : Str)) = false := by decide) :
    SE X g m (.Name x pos) fun r => getV r i := by
  refine PE.imp (zdS hN hv hd hcd) fun σ H Q ⟨r,G,si,q⟩ => ?_
  obtain ⟨d,e,k⟩ := zed q
  obtain ⟨v,e1,e2⟩ := si.sh i d e hm
  exact ⟨v,e1,k v G H (Grow.refl si.gok) e2⟩
theorem znU (i : Nat) {x : Str} (hm : i < m.length) (hN : X.N[i]? = some x) (hv : Vis X.env.scope x) (hd : (x == ("__debug__" : Str)) = false := by decide) (hcd : (x == ("__classdict__" : Str)) = false := by decide) :
    SB X g m (.Name x pos) fun r => getV r i := by
  refine PE.imp (zdS hN hv hd hcd) fun σ H Q ⟨r,G,si,q⟩ => ?_
  obtain ⟨d,e,k⟩ := zed q
  have hm' : m[i]? = some m[i] := List.getElem?_eq_getElem hm
  cases h : m[i] with
  | sh =>
    obtain ⟨v,e1,e2⟩ := si.sh i d e (hm'.trans (by rw [h]))
    exact ⟨v,e1,k v G H (Grow.refl si.gok) e2.rb⟩
  | ow =>
    obtain ⟨v,e1,e2,_⟩ := si.ow i d e (hm'.trans (by rw [h]))
    exact ⟨_,e1,k _ G H (Grow.refl si.gok) (.inr ⟨v,rfl,e2⟩)⟩
  | bw =>
    obtain ⟨v,e1,e2⟩ := si.bw i d e (hm'.trans (by rw [h]))
    exact ⟨_,e1,k _ G H (Grow.refl si.gok) e2.rb⟩
theorem seq2 {β : Type} {k : D→D→Res β} {q : β→Prop} {R : V→V→Hp→Prop} {r : Rho} {G : GH} {σ : L2.St} {H : Hp} (si : SI X g m r G σ H)
    (h : fin ((fa r).bind fun d1 => (fb r).bind fun d2 => k d1 d2) q (XW X σ G H))
    (hk : ∀ d1 d2 v1 v2 G2 H2,Grow X.K G H G2 H2→RB X.K G2 H2 v1 d1→RB X.K G2 H2 v2 d2→fin (k d1 d2) q (XW X σ G H)→R v1 v2 H2) :
    tB X g m fa σ H fun v1 H1 => tB X g m fb σ H1 fun v2 H2 => R v1 v2 H2 := by
  refine ⟨r,G,si,zaf (zae h) fun d1 h1 v1 G1 H1 w1 r1 => ⟨r,G1,si.grow w1,?_⟩⟩
  cases e : fb r with
  | ok d2 =>
    rw [e] at h1
    exact fun v2 G2 H2 w2 r2 => hk d1 d2 v1 v2 G2 H2 (w1.trans w2) (r1.mono w2) r2 h1
  | exc x =>
    rw [e] at h1
    exact (show XW X σ G H x from h1).grow w1
  | stuck =>
    rw [e] at h1
    exact h1
noncomputable def opt {α : Type} : Option α→Res α
  | some a => .ok a
  | none => .stuck
@[simp] theorem opt_some {α : Type} (a : α) : opt (some a) = .ok a := rfl
@[simp] theorem opt_none {α : Type} : opt (none : Option α) = .stuck := rfl
theorem zaC {α : Type} {o : Option α} {q : α→Prop} {x : D→Prop} (h : fin (opt o) q x) : ∃ a,o = some a∧q a := by
  cases o with
  | none => exact h.elim
  | some a => exact ⟨a,rfl,h⟩
noncomputable def OpD (K : PySem.W.Frag) (r : R2) (k : D→D→Option D) : Prop := ∀ (G : GH) (H : Hp) (v1 v2 : V) (d1 d2 d : D) (Q : VK),GOk K G H→RB K G H v1 d1→RB K G H v2 d2→k d1 d2 = some d →
  (∀ v G' H',Grow K G H G' H'→RG K G' v d→Q v H')→r v1 v2 H Q
noncomputable def f2 (fa fb : FE) (k : D→D→Option D) : FE := fun r => (fa r).bind fun d1 => (fb r).bind fun d2 => opt (k d1 d2)
theorem zmn {R : R2} {k : D→D→Option D} (ho : OpD X.K R k) (h : PE X e (tOp R (tB X g m fa) (tB X g m fb))) : SE X g m e (f2 fa fb k) := by
  refine PE.imp h fun σ H Q ⟨r,G,si,q⟩ => ?_
  refine seq2 si q fun d1 d2 v1 v2 G2 H2 w r1 r2 q2 => ?_
  obtain ⟨d,e,q2⟩ := zaC q2
  exact ho G2 H2 v1 v2 d1 d2 d Q w.ok r1 r2 e fun v G' H' w' z => q2 v G' H' (w.trans w') z
theorem zfZ {op : Operator} {R : R2} {k : D→D→Option D} (hr : OpR X (binaryOp op) R) (ho : OpD X.K R k) (ha : SB X g m a fa) (hb : SB X g m b fb) : SE X g m (.BinOp a op b pos) (f2 fa fb k) := zmn ho (zoz hr ha hb)
theorem zkx {op : CmpOp} {R : R2} {k : D→D→Option D} (hr : OpR X (compareOp op) R) (ho : OpD X.K R k) (ha : SB X g m a fa) (hb : SB X g m b fb) (hm : behindInMarks op b = false) : SE X g m (.Compare a [op] [b] pos) (f2 fa fb k) := zmn ho (zmE hr ha hb hm)
noncomputable def asB : D→Option Bool
  | .bl b => some b
  | _ => none
noncomputable def za1 (f : FE) : Rho→Res Bool := fun r => (f r).bind fun d => opt (asB d)
theorem zgJ {op : CmpOp} {R : R2} {k : D→D→Option D} (hr : OpR X (compareOp op) R) (ho : OpD X.K R k) (ha : SB X g m a fa) (hb : SB X g m b fb) (hm : behindInMarks op b = false) : SQ X g m (.Compare a [op] [b] pos) (za1 (f2 fa fb k)) := by
  refine PT.imp (zmy hr ha hb hm) fun σ H Q ⟨r,G,si,q⟩ => ?_
  have e : za1 (f2 fa fb k) r = (fa r).bind fun d1 => (fb r).bind fun d2 => (opt (k d1 d2)).bind fun d => opt (asB d) := by
    unfold za1 f2
    cases fa r with
    | ok d1 => cases fb r <;> rfl
    | exc _ => rfl
    | stuck => rfl
  rw [e] at q
  refine seq2 (R := fun x y H2 => R x y H2 fun x H' => ∃ k,x = V.bl k∧Q k H') si q fun d1 d2 v1 v2 G2 H2 w r1 r2 q3 => ?_
  obtain ⟨d,e,q3⟩ := zaC (zae q3)
  obtain ⟨b,eb,q3⟩ := zaC q3
  cases d with
  | bl b' =>
    cases eb
    exact ho G2 H2 v1 v2 d1 d2 _ _ w.ok r1 r2 e fun v G' H' w' z => ⟨_,z.bl w'.ok,q3 G' H' (w.trans w')⟩
  | _ => cases eb
end
end DL
end
section
namespace DL
open PySem PySem.Spec PyProof.Rows L2
instance decMul (i j : Int) : Decidable (CMul i j) := by unfold CMul; infer_instance
instance decDiv (i j : Int) : Decidable (CDiv i j) := by unfold CDiv; infer_instance
instance decPow (i j : Int) : Decidable (CPow i j) := by unfold CPow; infer_instance
noncomputable def zh9 (k : Int→Int→D) : D→D→Option D
  | .int a,.int b => some (k a b)
  | _,_ => none
noncomputable def zeV (C : Int→Int→Prop) [∀ a b,Decidable (C a b)] (k : Int→Int→D) : D→D→Option D
  | .int a,.int b => if C a b then some (k a b) else none
  | _,_ => none
@[simp] theorem ints2_int (k : Int→Int→D) (a b : Int) : zh9 k (.int a) (.int b) = some (k a b) := rfl
@[simp] theorem intsC_int (C : Int→Int→Prop) [∀ a b,Decidable (C a b)] (k : Int→Int→D) (a b : Int) : zeV C k (.int a) (.int b) = if C a b then some (k a b) else none := rfl
section
variable {K : PySem.W.Frag}
theorem zfp {gv : Int→Int→V} {gd : Int→Int→D} (hs : ∀ i j,Scl (gv i j) (gd i j)) : OpD K (rI0 gv) (zh9 gd) := by
  intro G H v1 v2 d1 d2 d Q g r1 r2 e q
  unfold zh9 at e
  split at e
  · cases e
    exact ⟨_,_,r1.int g,r2.int g,q _ G H (Grow.refl g) (.scl (hs _ _))⟩
  · cases e
theorem zcK {C : Int→Int→Prop} [∀ a b,Decidable (C a b)] {gv : Int→Int→V} {gd : Int→Int→D} (hs : ∀ i j,Scl (gv i j) (gd i j)) : OpD K (rI C gv) (zeV C gd) := by
  intro G H v1 v2 d1 d2 d Q g r1 r2 e q
  unfold zeV at e
  split at e
  · split at e
    · rename_i hc
      cases e
      exact ⟨_,_,r1.int g,r2.int g,hc,q _ G H (Grow.refl g) (.scl (hs _ _))⟩
    · cases e
  · cases e
end
noncomputable abbrev subI : D→D→Option D := zh9 fun a b => .int (a - b)
noncomputable abbrev mulI : D→D→Option D := zeV CMul fun a b => .int (a * b)
noncomputable abbrev zfy : D→D→Option D := zeV CDiv fun a b => .int (a / b)
noncomputable abbrev modI : D→D→Option D := zeV (fun _ b => 0 < b) fun a b => .int (a % b)
noncomputable abbrev powI : D→D→Option D := zeV CPow fun a b => .int (a ^ b.toNat)
noncomputable abbrev ltI : D→D→Option D := zh9 fun a b => .bl (decide (a < b))
noncomputable abbrev gtI : D→D→Option D := zh9 fun a b => .bl (decide (b < a))
section
variable {X : Cx} {g : GE} {m : List Md} {e a b c : Expr} {f fa fb fc : FE} {pos : Pos}
theorem znV (ha : SB X g m a fa) (hb : SB X g m b fb) : SE X g m (.BinOp a .Sub b pos) (f2 fa fb subI) := zfZ zoG (zfp fun _ _ => .int _) ha hb
theorem zfj (ha : SB X g m a fa) (hb : SB X g m b fb) : SE X g m (.BinOp a .Mult b pos) (f2 fa fb mulI) := zfZ zoJ (zcK fun _ _ => .int _) ha hb
theorem ziH (ha : SB X g m a fa) (hb : SB X g m b fb) : SE X g m (.BinOp a .FloorDiv b pos) (f2 fa fb zfy) := zfZ zmL (zcK fun _ _ => .int _) ha hb
theorem zd2 (ha : SB X g m a fa) (hb : SB X g m b fb) : SE X g m (.BinOp a .Mod b pos) (f2 fa fb modI) := zfZ zoK (zcK fun _ _ => .int _) ha hb
theorem zqf (ha : SB X g m a fa) (hb : SB X g m b fb) : SE X g m (.BinOp a .Pow b pos) (f2 fa fb powI) := zfZ zoI (zcK fun _ _ => .int _) ha hb
theorem s_lt (ha : SB X g m a fa) (hb : SB X g m b fb) : SE X g m (.Compare a [.Lt] [b] pos) (f2 fa fb ltI) := zkx zoL (zfp fun _ _ => .bl _) ha hb (ze2 _)
theorem q_lt (ha : SB X g m a fa) (hb : SB X g m b fb) : SQ X g m (.Compare a [.Lt] [b] pos) (za1 (f2 fa fb ltI)) := zgJ zoL (zfp fun _ _ => .bl _) ha hb (ze2 _)
theorem q_gt (ha : SB X g m a fa) (hb : SB X g m b fb) : SQ X g m (.Compare a [.Gt] [b] pos) (za1 (f2 fa fb gtI)) := zgJ zqt (zfp fun _ _ => .bl _) ha hb (ze2 _)
noncomputable def f1 (fa : FE) (k : D→Option D) : FE := fun r => (fa r).bind fun d => opt (k d)
noncomputable def negI : D→Option D
  | .int a => some (.int (-a))
  | _ => none
@[simp] theorem negI_int (a : Int) : negI (.int a) = some (.int (-a)) := rfl
theorem zn0 (ha : SB X g m a fa) : SE X g m (.UnaryOp .USub a pos) (f1 fa negI) := by
  refine PE.imp (zqq znB ha) fun σ H Q ⟨r,G,si,q⟩ => ⟨r,G,si,zaf (zae q) fun d q1 v G1 H1 w1 r1 => ?_⟩
  obtain ⟨d',e,q2⟩ := zaC q1
  cases d with
  | int i =>
    cases e
    exact ⟨i,r1.int w1.ok,q2 _ G1 H1 w1 (.scl (.int _))⟩
  | _ => cases e
noncomputable def truD : D→Option Bool
  | .non => some false
  | .bl b => some b
  | .int i => some (i != 0)
  | .str y => if y.length≤sizeLine then some ((y.length : Int) != 0) else none
  | .lst ds => some (! ds.isEmpty)
  | .tup ds => some (! ds.isEmpty)
  | .dic kvs => some (! kvs.isEmpty)
  | .obj _ _ => none
theorem zex {α β : Type} {F : α→β→Prop} {l : List α} {r : List β} (h : Paired F l r) : l.isEmpty = r.isEmpty := by cases h <;> rfl
theorem zmc {K : PySem.W.Frag} {G : GH} {H : Hp} {v : V} {d : D} {b : Bool} (gk : GOk K G H) (h : RB K G H v d) (e : truD d = some b) : TruV K v H b := by
  cases d with
  | non => cases e; rw [h.non gk]; rfl
  | bl b' => cases e; rw [h.bl gk]; rfl
  | int i => cases e; rw [h.int gk]; rfl
  | str y =>
    rw [h.str gk]
    have e' : (if y.length≤sizeLine then some ((y.length : Int) != 0) else none) = some b := e
    by_cases hy : y.length≤sizeLine
    · rw [if_pos hy] at e'; cases e'; exact ⟨hy,rfl⟩
    · rw [if_neg hy] at e'; cases e'
  | lst ds =>
    cases e
    obtain ⟨a,xs,rfl,s,r⟩ := h.lst gk
    exact .inl ⟨xs,s,by rw [zex r]⟩
  | tup ds =>
    cases e
    obtain ⟨a,xs,rfl,s,r⟩ := h.tup gk
    exact .inr (.inl ⟨xs,s,by rw [zex r]⟩)
  | dic kvs =>
    cases e
    obtain ⟨a,xs,rfl,s,r⟩ := h.dic gk
    exact .inr (.inr ⟨xs,s,by rw [zex r]⟩)
  | obj _ _ => cases e
noncomputable def fTru (f : FE) : Rho→Res Bool := fun r => (f r).bind fun d => opt (truD d)
theorem zhY (ha : SB X g m a fa) (he : ∀ whole,isTrue a X.env whole = (do let v ← whole; standAt a.pos; holding [v] (truthy v)) := by intro _; rfl) : SQ X g m a (fTru fa) := by
  refine PT.imp (zkF ha he) fun σ H Q ⟨r,G,si,q⟩ => ⟨r,G,si,zaf (zae q) fun d q1 v G1 H1 w1 r1 => ?_⟩
  obtain ⟨b,e,q2⟩ := zaC q1
  exact ⟨b,zmc w1.ok r1 e,q2 G1 H1 w1⟩
noncomputable abbrev FQ := Rho→Res Bool
noncomputable def fAnd (p q : FQ) : FQ := fun r => (p r).bind fun c => if c = true then q r else .ok false
noncomputable def fOr (p q : FQ) : FQ := fun r => (p r).bind fun c => if c = true then .ok true else q r
noncomputable def fNot (p : FQ) : FQ := fun r => (p r).bind fun c => .ok (! c)
variable {p q : FQ} {rest : List Expr}
theorem zqJ {α : Type} {r : Res α} {q : α→Prop} {x x' : D→Prop} (h : fin r q x) (hx : ∀ e,x e→x' e) : fin r q x' := by
  cases r with
  | ok a => exact h
  | exc e => exact hx e h
  | stuck => exact h
theorem zaI {α : Type} {r : Res α} {σ : L2.St} {G G1 : GH} {H H1 : Hp} {P P' : α→Prop} (h : fin r P (XW X σ G H)) (w : Grow X.K G H G1 H1) (hp : ∀ a,P a→P' a) : fin r P' (XW X σ G1 H1) := zqJ (zaf h hp) fun _ x => x.grow w
theorem zoq (ha : SQ X g m a p) : SW X g m (.BoolOp .And [a] pos) p := zmx ha
theorem zon (ha : SQ X g m a p) : SW X g m (.BoolOp .Or [a] pos) p := zor ha
theorem zqn (ha : SQ X g m a p) (hb : SW X g m (.BoolOp .And (b::rest) pos) q) : SW X g m (.BoolOp .And (a::b::rest) pos) (fAnd p q) := by
  refine PW.imp (zos ha hb) fun σ H Q ⟨r,G,si,k⟩ => ⟨r,G,si,zaf (zae k) fun c k1 G1 H1 w1 => ?_⟩
  cases c with
  | true => rw [if_pos rfl] at k1 ⊢; exact ⟨r,G1,si.grow w1,zaI k1 w1 fun b z G' H' w' => z G' H' (w1.trans w')⟩
  | false => rw [if_neg Bool.false_ne_true] at k1 ⊢; exact k1 G1 H1 w1
theorem q_or (ha : SQ X g m a p) (hb : SW X g m (.BoolOp .Or (b::rest) pos) q) : SW X g m (.BoolOp .Or (a::b::rest) pos) (fOr p q) := by
  refine PW.imp (zqo ha hb) fun σ H Q ⟨r,G,si,k⟩ => ⟨r,G,si,zaf (zae k) fun c k1 G1 H1 w1 => ?_⟩
  cases c with
  | true => rw [if_pos rfl] at k1 ⊢; exact k1 G1 H1 w1
  | false => rw [if_neg Bool.false_ne_true] at k1 ⊢; exact ⟨r,G1,si.grow w1,zaI k1 w1 fun b z G' H' w' => z G' H' (w1.trans w')⟩
theorem SW.toQ (h : SW X g m e p) : SQ X g m e p := PW.pt h
theorem zkD (ha : SQ X g m a p) : SQ X g m (.UnaryOp .Not a pos) (fNot p) :=
  PT.imp (zot ha) fun σ H Q ⟨r,G,si,k⟩ => ⟨r,G,si,zaf (zae k) fun c k1 G1 H1 w1 => k1 G1 H1 w1⟩
noncomputable def vAnd (fa fb : FE) : FE := fun r => (fa r).bind fun d => (opt (asB d)).bind fun c => if c = true then fb r else .ok (.bl false)
noncomputable def vOr (fa fb : FE) : FE := fun r => (fa r).bind fun d => (opt (asB d)).bind fun c => if c = true then .ok (.bl true) else fb r
noncomputable def vNot (fa : FE) : FE := fun r => (fa r).bind fun d => (opt (asB d)).bind fun c => .ok (.bl (! c))
theorem znY {op} (h : SE X g m a fa) : SE X g m (.BoolOp op [a] pos) fa := zoA h
theorem zn6 (ha : SE X g m a fa) (hb : SE X g m (.BoolOp .And (b::rest) pos) fb) : SE X g m (.BoolOp .And (a::b::rest) pos) (vAnd fa fb) := by
  refine PE.imp (zoE ha hb) fun σ H Q ⟨r,G,si,k⟩ => ⟨r,G,si,zaf (zae k) fun d k1 v G1 H1 w1 r1 => ?_⟩
  obtain ⟨c,e,k2⟩ := zaC (zae k1)
  cases d with
  | bl c' =>
    cases e
    refine ⟨_,r1.bl w1.ok,?_⟩
    cases c with
    | true => rw [if_pos rfl] at k2 ⊢; exact ⟨r,G1,si.grow w1,zaI k2 w1 fun b z v G' H' w' => z v G' H' (w1.trans w')⟩
    | false => rw [if_neg Bool.false_ne_true] at k2 ⊢; exact k2 _ G1 H1 w1 (.scl (.bl _))
  | _ => cases e
theorem zqg (ha : SE X g m a fa) : SE X g m (.UnaryOp .Not a pos) (vNot fa) := by
  refine PE.imp (zoB ha) fun σ H Q ⟨r,G,si,k⟩ => ⟨r,G,si,zaf (zae k) fun d k1 v G1 H1 w1 r1 => ?_⟩
  obtain ⟨c,e,k2⟩ := zaC (zae k1)
  cases d with
  | bl c' => cases e; exact ⟨_,r1.bl w1.ok,k2 _ G1 H1 w1 (.scl (.bl _))⟩
  | _ => cases e
noncomputable def fIf (p : FQ) (fa fb : FE) : FE := fun r => (p r).bind fun c => if c = true then fa r else fb r
variable {es : List Expr} {fl fr : Rho → Res (List D)}
noncomputable def lNil : Rho→Res (List D) := fun _ => .ok []
noncomputable def zac (fa : FE) (fl : Rho→Res (List D)) : Rho→Res (List D) := fun r => (fa r).bind fun d => (fl r).bind fun ds => .ok (d::ds)
theorem zbC : SA X g m [] lNil := PA.imp zdT fun σ H Q ⟨r,G,si,k⟩ => k [] G H (Grow.refl si.gok) .nil
theorem zaJ (ha : SE X g m e fa) (hr : SA X g m es fl) (hs : starEach (e::es) X.env = (false,eval e X.env)::starEach es X.env := by rfl) : SA X g m (e::es) (zac fa fl) := by
  refine PA.imp (zbR ha hr hs) fun σ H Q ⟨r,G,si,k⟩ => ⟨r,G,si,zaf (zae k) fun d k1 v G1 H1 w1 r1 => ⟨r,G1,si.grow w1,?_⟩⟩
  exact zaI (zae k1) w1 fun ds z vs G2 H2 w2 r2 => z (v::vs) G2 H2 (w1.trans w2) (.cons (r1.mono w2.ge) r2)
theorem zaQ : SAB X g m [] lNil := PA.imp zdT fun σ H Q ⟨r,G,si,k⟩ => k [] G H (Grow.refl si.gok) .nil
theorem zav (ha : SB X g m e fa) (hr : SAB X g m es fl) (hs : starEach (e::es) X.env = (false,eval e X.env)::starEach es X.env := by rfl) : SAB X g m (e::es) (zac fa fl) := by
  refine PA.imp (zbR ha hr hs) fun σ H Q ⟨r,G,si,k⟩ => ⟨r,G,si,zaf (zae k) fun d k1 v G1 H1 w1 r1 => ⟨r,G1,si.grow w1,?_⟩⟩
  exact zaI (zae k1) w1 fun ds z vs G2 H2 w2 r2 => z (v::vs) G2 H2 (w1.trans w2) (.cons (r1.mono w2) r2)
noncomputable def sz (ds : List D) : Option (List D) := if ds.length≤sizeLine then some ds else none
theorem zmg {ds ds' : List D} (h : sz ds = some ds') : ds' = ds∧ds.length≤sizeLine := by
  unfold sz at h; split at h
  · rename_i hl; cases h; exact ⟨rfl,hl⟩
  · cases h
theorem zqb {ds : List D} (h : ds.length≤sizeLine) : sz ds = some ds := if_pos h
noncomputable def mkT (fl : Rho→Res (List D)) : FE := fun r => (fl r).bind fun ds => (opt (sz ds)).bind fun ds => .ok (.tup ds)
noncomputable def mkL (fl : Rho→Res (List D)) : FE := fun r => (fl r).bind fun ds => (opt (sz ds)).bind fun ds => .ok (.lst ds)
theorem zeP {x1} (h : SA X g m es fl) : SE X g m (.Tuple es x1 pos) (mkT fl) := by
  refine PE.imp (zoy h) fun σ H Q ⟨r,G,si,k⟩ => ⟨r,G,si,zaf (zae k) fun ds k1 vs G1 H1 w1 r1 => ?_⟩
  obtain ⟨ds',e,k2⟩ := zaC (zae k1)
  obtain ⟨rfl,hl⟩ := zmg e
  have hlen := Paired.length r1
  refine ⟨by omega,fun p hp => ?_⟩
  exact k2 _ _ _ (w1.trans (Grow.newF (d := .tup ds') w1.ok hp (.tup (.inl zan) r1))) (.ref zas)
theorem zeT (h : SA X g m es fl) : SO X g m (.List es pos) (mkL fl) := by
  refine PE.imp (zlF h) fun σ H Q ⟨r,G,si,k⟩ => ⟨r,G,si,zaf (zae k) fun ds k1 vs G1 H1 w1 r1 => ?_⟩
  obtain ⟨ds',e,k2⟩ := zaC (zae k1)
  obtain ⟨rfl,hl⟩ := zmg e
  have hlen := Paired.length r1
  refine ⟨by omega,fun p hp => ?_⟩
  have hn : H p = none := by
    cases q : H p with
    | none => rfl
    | some o => rw [w1.he _ _ q] at hp; cases hp
  exact k2 p G1 _ (w1.trans (Grow.new w1.ok hp _)) hn ⟨w1.ok.isN hp,.lst zan r1⟩
end
end DL
end
section
namespace DL
open PySem PySem.Spec PyProof.Rows L2
noncomputable def zif (K : PySem.W.Frag) (r : List V→Hp→VK→Prop) (k : List D→Option D) : Prop := ∀ (G : GH) (H : Hp) (vs : List V) (ds : List D) (d : D) (Q : VK),GOk K G H→Paired (RB K G H) vs ds→k ds = some d →
  (∀ v G' H',Grow K G H G' H'→RG K G' v d→Q v H')→r vs H Q
noncomputable def zqS (K : PySem.W.Frag) (r : List V→Hp→VK→Prop) (k : List D→Option D) : Prop := ∀ (G : GH) (H : Hp) (vs : List V) (ds : List D) (d : D) (Q : VK),GOk K G H→Paired (RB K G H) vs ds→k ds = some d →
  (∀ a G' H',Grow K G H G' H'→H a = none→Own K G' H' a d→Q (.ref a) H')→r vs H Q
noncomputable def fC (fl : Rho→Res (List D)) (k : List D→Option D) : FE := fun r => (fl r).bind fun ds => opt (k ds)
theorem Grow.back {K : PySem.W.Frag} {G G1 : GH} {H H1 : Hp} (w : Grow K G H G1 H1) {a : Addr} (hn : H1 a = none) : H a = none := by
  cases q : H a with
  | none => rfl
  | some o => rw [w.he _ _ q] at hn; cases hn
section
variable {X : Cx} {g : GE} {m : List Md} {e a b c : Expr} {f fa fb fc : FE} {pos p p2 : Pos} {es : List Expr} {fl : Rho → Res (List D)} {x : Str} {id T : String} {R : List V → Hp → VK → Prop} {k : List D → Option D}
theorem s_cb (hk : zif X.K R k) (h : PE X e (tCB R (tLB X g m fl))) : SE X g m e (fC fl k) := by
  refine PE.imp h fun σ H Q ⟨r,G,si,q⟩ => ⟨r,G,si,zaf (zae q) fun ds q1 vs G1 H1 w1 r1 => ?_⟩
  obtain ⟨d,e,q2⟩ := zaC q1
  exact hk G1 H1 vs ds d Q w1.ok r1 e fun v G' H' w' z => q2 v G' H' (w1.trans w') z
theorem zqi (hk : zqS X.K R k) (h : PE X e (tCB R (tLB X g m fl))) : SO X g m e (fC fl k) := by
  refine PE.imp h fun σ H Q ⟨r,G,si,q⟩ => ⟨r,G,si,zaf (zae q) fun ds q1 vs G1 H1 w1 r1 => ?_⟩
  obtain ⟨d,e,q2⟩ := zaC q1
  exact hk G1 H1 vs ds d Q w1.ok r1 e fun v G' H' w' hn z => q2 v G' H' (w1.trans w') (w1.back hn) z
noncomputable def lenD : List D→Option D
  | [.str y] => if y.length≤sizeLine then some (.int y.length) else none
  | [.lst ds] => some (.int ds.length)
  | [.tup ds] => some (.int ds.length)
  | [.dic kvs] => some (.int kvs.length)
  | _ => none
theorem zo6 {K : PySem.W.Frag} : zif K (fun xs H Q => (∃ x n,xs = [x]∧LenV K x H n∧Q (.int n) H)∨∃ a kvs,xs = [V.ref a]∧Rd H a (.dK kvs)∧Q (.int kvs.length) H) lenD := by
  intro G H vs ds d Q gk rs e q
  unfold lenD at e
  split at e
  · split at e
    · cases e
      cases rs with
      | cons r t => cases t; exact .inl ⟨_,_,rfl,by rw [r.str gk]; exact ⟨by assumption,rfl⟩,q _ G H (Grow.refl gk) (.scl (.int _))⟩
    · cases e
  · cases e
    cases rs with
    | cons r t =>
      cases t
      obtain ⟨a,xs,rfl,s,r⟩ := r.lst gk
      have := Paired.length r
      exact .inl ⟨_,_,rfl,.inl ⟨xs,s,rfl⟩,q _ G H (Grow.refl gk) (.scl (by rw [this]; exact .int _))⟩
  · cases e
    cases rs with
    | cons r t =>
      cases t
      obtain ⟨a,xs,rfl,s,r⟩ := r.tup gk
      have := Paired.length r
      exact .inl ⟨_,_,rfl,.inr ⟨xs,s,rfl⟩,q _ G H (Grow.refl gk) (.scl (by rw [this]; exact .int _))⟩
  · cases e
    cases rs with
    | cons r t =>
      cases t
      obtain ⟨a,xs,rfl,s,r⟩ := r.dic gk
      have := Paired.length r
      exact .inr ⟨_,_,rfl,s,q _ G H (Grow.refl gk) (.scl (by rw [this]; exact .int _))⟩
  · cases e
theorem zdd (hg : Gl X "len") (hm : X.mg "len" = none) (ha : SAB X g m (e::es) fl) (he : starEach (e::es) X.env = (false,eval e X.env)::starEach es X.env := by rfl) (hpl : (backTo pos (starEach es X.env)).any (·.1) = false := by rfl) :
    SE X g m (.Call (.Name "len" p) (e::es) [] pos) (fC fl lenD) := s_cb zo6 (zdt (zdn.or zln zj7) hg hm PySem.boot_len ha (by decide) (by decide) he hpl)
noncomputable def zo5 : List D→Option D
  | [.lst ds] => some (.lst ds)
  | [.tup ds] => some (.lst ds)
  | _ => none
noncomputable def tupD : List D→Option D
  | [.lst ds] => some (.tup ds)
  | [.tup ds] => some (.tup ds)
  | _ => none
theorem znG {K : PySem.W.Frag} : zif K (fun xs H Q => ∃ p ys,xs = [.ref p]∧((SqL K H p ys∧∀ l,H l = none→Q (.ref l) (upd H l (.tup ys)))∨(SqT K H p ys∧Q (.ref p) H))) tupD := by
  intro G H vs ds d Q gk rs e q
  unfold tupD at e
  split at e
  · cases e
    cases rs with
    | cons r t =>
      cases t
      obtain ⟨a,xs,rfl,s,r⟩ := r.lst gk
      exact ⟨a,xs,rfl,.inl ⟨s,fun l hl => q _ _ _ (Grow.newF gk hl (.tup (.inl zan) r)) (.ref zas)⟩⟩
  · cases e
    cases rs with
    | cons r t =>
      cases t
      rcases r with r | ⟨a,_,o⟩
      · obtain ⟨a,xs,rfl,s,r'⟩ := r.tup gk
        exact ⟨a,xs,rfl,.inr ⟨s,q _ G H (Grow.refl gk) r⟩⟩
      · cases o.ob
  · cases e
theorem zcg (hg : Gl X "tuple") (hm : X.mg "tuple" = none) (ha : SAB X g m (e::es) fl) (he : starEach (e::es) X.env = (false,eval e X.env)::starEach es X.env := by rfl) (hpl : (backTo pos (starEach es X.env)).any (·.1) = false := by rfl) :
    SE X g m (.Call (.Name "tuple" p) (e::es) [] pos) (fC fl tupD) := s_cb znG (zf6 zfC hg hm rfl ha (by decide) (by decide) he hpl)
noncomputable def ixD : D→D→Option D
  | .lst ds,.int i => atI ds i
  | .tup ds,.int i => atI ds i
  | .str z,.int i => if z.length≤sizeLine then (atI z.cps.toList i).map fun c => .str ⟨#[c]⟩ else none
  | _,_ => none
theorem zpN {K : PySem.W.Frag} {G : GH} {xs : List V} {ds : List D} {i : Int} {d : D} (r : RGs K G xs ds) (h : atI ds i = some d) : ∃ v,atI xs i = some v∧RG K G v d := by
  unfold atI at h ⊢
  rw [Paired.length r]
  cases e : ixN ds.length i with
  | none => rw [e] at h; cases h
  | some j =>
    rw [e] at h
    exact Paired.get r h
theorem zm6 {K : PySem.W.Frag} : OpD K (rIx K) ixD := by
  intro G H v1 v2 d1 d2 d Q gk r1 r2 e q
  unfold ixD at e
  split at e
  · obtain ⟨a,xs,rfl,s,r⟩ := r1.lst gk
    obtain ⟨v,ev,rv⟩ := zpN r e
    exact .inl ⟨a,xs,_,v,rfl,r2.int gk,s,ev,q v G H (Grow.refl gk) rv⟩
  · obtain ⟨a,xs,rfl,s,r⟩ := r1.tup gk
    obtain ⟨v,ev,rv⟩ := zpN r e
    exact .inr (.inl ⟨a,xs,_,v,rfl,r2.int gk,s,ev,q v G H (Grow.refl gk) rv⟩)
  · split at e
    · rename_i z i hz
      cases ec : atI z.cps.toList i with
      | none => rw [ec] at e; cases e
      | some c =>
        rw [ec] at e; cases e
        exact .inr (.inr ⟨z,i,c,r1.str gk,r2.int gk,hz,ec,q _ G H (Grow.refl gk) (.scl (.str _))⟩)
    · cases e
  · cases e
noncomputable def cutL {α : Type} (xs : List α) (lo hi : Option Int) : List α := (xs.drop (HT.sIx xs.length 0 lo)).take (HT.sIx xs.length xs.length hi - HT.sIx xs.length 0 lo)
theorem zlh {α β : Type} {F : α→β→Prop} {xs : List α} {ds : List β} (r : Paired F xs ds) (lo hi : Option Int) : Paired F (cutL xs lo hi) (cutL ds lo hi) := by
  unfold cutL
  rw [Paired.length r]
  exact Paired.tk _ (Paired.dr _ r)
noncomputable abbrev FP := Rho→Res (Option Int)
noncomputable def tP (X : Cx) (g : GE) (m : List Md) (f : FP) : TO := fun σ H Q => ∃ r G,SI X g m r G σ H∧fin (f r) (fun o => ∀ G' H',Grow X.K G H G' H'→Q o H') (XW X σ G H)
noncomputable def SP1 (X : Cx) (g : GE) (m : List Md) (e : Option Expr) (f : FP) : Prop := PO X e (tP X g m f)
theorem PO.imp {X : Cx} {e : Option Expr} {t t' : TO} (h : PO X e t) (i : ∀ σ H Q,t' σ H Q→t σ H Q) : PO X e t' := fun pins s σ H Q I q => h pins s σ H Q I (i σ H Q q)
noncomputable def asI : D→Option Int
  | .int i => some i
  | _ => none
noncomputable def zfz (f : FE) : FP := fun r => (f r).bind fun d => (opt (asI d)).bind fun i => .ok (some i)
theorem zlG : SP1 X g m none fun _ => .ok none := PO.imp zmA fun σ H Q ⟨r,G,si,q⟩ => q G H (Grow.refl si.gok)
theorem zhq (h : SB X g m e f) : SP1 X g m (some e) (zfz f) := by
  refine PO.imp (zmz h) fun σ H Q ⟨r,G,si,q⟩ => ⟨r,G,si,zaf (zae q) fun d q1 v G1 H1 w1 r1 => ?_⟩
  obtain ⟨i,e,q2⟩ := zaC (zae q1)
  cases d with
  | int j => cases e; exact ⟨_,r1.int w1.ok,q2 G1 H1 w1⟩
  | _ => cases e
noncomputable def slD (d : D) (lo hi : Option Int) : Option D := match d with
  | .tup ds => if HT.sIx ds.length 0 lo = 0∧HT.sIx ds.length ds.length hi = ds.length then none else some (.tup (cutL ds lo hi))
  | .lst ds => some (.lst (cutL ds lo hi))
  | _ => none
noncomputable def fSl (fa : FE) (fl fh : FP) : FE := fun r => (fa r).bind fun d => (fl r).bind fun lo => (fh r).bind fun hi => opt (slD d lo hi)
theorem znR {R : V→Option Int→Option Int→Hp→Prop} {fl fh : FP} {r : Rho} {G : GH} {σ : L2.St} {H : Hp} {q : D→Prop} (si : SI X g m r G σ H) (h : fin (fSl fa fl fh r) q (XW X σ G H))
    (hk : ∀ d lo hi v G2 H2 d',Grow X.K G H G2 H2→RB X.K G2 H2 v d→slD d lo hi = some d'→q d'→R v lo hi H2) :
    tB X g m fa σ H fun x H1 => tP X g m fl σ H1 fun l H2 => tP X g m fh σ H2 fun u H3 => R x l u H3 := by
  refine ⟨r,G,si,zaf (zae h) fun d h1 v G1 H1 w1 r1 => ⟨r,G1,si.grow w1,zaI (zae h1) w1 fun lo h2 G2 H2 w2 => ⟨r,G2,(si.grow w1).grow w2,?_⟩⟩⟩
  refine zaI (zae h2) (w1.trans w2) fun hi h3 G3 H3 w3 => ?_
  obtain ⟨d',e,h4⟩ := zaC h3
  exact hk d lo hi v G3 H3 d' ((w1.trans w2).trans w3) ((r1.mono w2).mono w3) e h4
theorem znW {lo hi : Option Expr} {fl fh : FP} (he : SB X g m e f) (hl : SP1 X g m lo fl) (hu : SP1 X g m hi fh) : SE X g m (.Subscript e (.Slice lo hi none p2) pos) (fSl f fl fh) := by
  refine PE.imp (zhp (SlR.or ziC zlB) he hl hu) fun σ H Q ⟨r,G,si,q⟩ => ?_
  refine znR si q fun d lo hi v G2 H2 d' w r1 e q2 => ?_
  cases d with
  | tup ds =>
    obtain ⟨a,xs,rfl,s,r⟩ := r1.tup w.ok
    have e' : (if HT.sIx ds.length 0 lo = 0∧HT.sIx ds.length ds.length hi = ds.length then none else some (D.tup (cutL ds lo hi))) = some d' := e
    by_cases hw : HT.sIx ds.length 0 lo = 0∧HT.sIx ds.length ds.length hi = ds.length
    · rw [if_pos hw] at e'; cases e'
    rw [if_neg hw] at e'
    cases e'
    rw [← Paired.length r] at hw
    refine .inr ⟨a,xs,rfl,s,hw,fun p hp => ?_⟩
    exact q2 _ _ _ (w.trans (Grow.newF w.ok hp (.tup (.inl zan) (zlh r lo hi)))) (.ref zas)
  | lst ds =>
    cases e
    obtain ⟨a,xs,rfl,s,r⟩ := r1.lst w.ok
    exact .inl ⟨a,xs,rfl,s,fun p hp => q2 _ _ _ (w.trans (Grow.newF w.ok hp (.lst (.inl zan) (zlh r lo hi)))) (.ref zas)⟩
  | _ => cases e
end
end DL
end
section
namespace DL
open PySem PySem.Spec PyProof.Rows L2
inductive Out where
  | nx (r : Rho) | rt (d : D) | bk (r : Rho) | ct (r : Rho) | exc (x : D) (r : Rho) | stuck
noncomputable abbrev FS := Rho→Out
noncomputable def Gle (G G' : GH) : Prop := ∀ a d,G a = some d→G' a = some d
theorem Gle.refl (G : GH) : Gle G G := fun _ _ e => e
theorem Gle.trans {G G1 G2 : GH} (a : Gle G G1) (b : Gle G1 G2) : Gle G G2 := fun x d e => b x d (a x d e)
noncomputable def forget (m : List Md) (r : Rho) : Rho := List.zipWith (fun md o => if md = Md.sh then o else none) m r
noncomputable def zeW (m : List Md) : List Md := m.map fun _ => Md.sh
theorem zcc {m : List Md} {r : Rho} {i : Nat} {d : D} (h : (forget m r)[i]? = some (some d)) : r[i]? = some (some d)∧m[i]? = some .sh := by
  unfold forget at h
  rw [List.getElem?_zipWith] at h
  cases e1 : m[i]? with
  | none => rw [e1] at h; cases h
  | some md =>
    cases e2 : r[i]? with
    | none => rw [e1,e2] at h; cases h
    | some o =>
      rw [e1,e2] at h
      have h' : (if md = Md.sh then o else none) = some d := Option.some.inj h
      split at h'
      · rename_i hm; subst hm; rw [h']; exact ⟨rfl,rfl⟩
      · cases h'
section
variable {X : Cx} {g : GE} {m : List Md} {r : Rho} {G : GH} {st : L2.St} {H : Hp}
theorem SI.forget (s : SI X g m r G st H) : SI X g (zeW m) (forget m r) G st H where
  gok := s.gok
  old := s.old
  ge := s.ge
  gf := s.gf
  lm := by rw [zeW,List.length_map]; exact s.lm
  lr := by rw [DL.forget,List.length_zipWith,s.lm,s.lr,Nat.min_self]
  sh := fun i d h _ => s.sh i d (zcc h).1 (zcc h).2
  ow := fun i d h hm => by rw [zeW,List.getElem?_map,(zcc h).2] at hm; cases hm
  bw := fun i d h hm => by rw [zeW,List.getElem?_map,(zcc h).2] at hm; cases hm
  dis := fun i j a d e _ h _ hm => by rw [zeW,List.getElem?_map,(zcc h).2] at hm; cases hm
  lk := fun i o _ hm => by rw [zeW,List.getElem?_map] at hm; cases q : m[i]? <;> rw [q] at hm <;> cases hm
theorem SI.set (s : SI X g m r G st H) (i : Nat) {v : V} {d : D} (hv : RG X.K G v d) : SI X g (m.set i .sh) (r.set i (some d)) G (st.set i (some v)) H where
  gok := s.gok
  old := s.old
  ge := s.ge
  gf := s.gf
  lm := by simp [s.lm]
  lr := by simp [s.lr]
  sh := fun j e h hm => by
    by_cases hij : i = j
    · subst hij
      have hl : i < r.length := by
        have := (List.getElem?_eq_some_iff.mp h).1
        simpa using this
      rw [List.getElem?_set_self hl] at h
      cases h
      exact ⟨v,by rw [List.getElem?_set_self (by rw [← s.lr]; exact hl)],hv⟩
    · rw [List.getElem?_set_ne hij] at h hm
      rw [List.getElem?_set_ne hij]
      exact s.sh j e h hm
  ow := fun j e h hm => by
    by_cases hij : i = j
    · subst hij
      have hl : i < m.length := by
        have := (List.getElem?_eq_some_iff.mp hm).1
        simpa using this
      rw [List.getElem?_set_self hl] at hm; cases hm
    · rw [List.getElem?_set_ne hij] at h hm
      rw [List.getElem?_set_ne hij]
      exact s.ow j e h hm
  bw := fun j e h hm => by
    by_cases hij : i = j
    · subst hij
      have hl : i < m.length := by
        have := (List.getElem?_eq_some_iff.mp hm).1
        simpa using this
      rw [List.getElem?_set_self hl] at hm; cases hm
    · rw [List.getElem?_set_ne hij] at h hm
      rw [List.getElem?_set_ne hij]
      exact s.bw j e h hm
  dis := fun j k a d1 d2 hjk h1 h2 hm hm' q1 q2 => by
    have hij : i≠j := by
      rintro rfl
      have hl : i < m.length := by
        have := (List.getElem?_eq_some_iff.mp hm).1
        simpa using this
      rw [List.getElem?_set_self hl] at hm; cases hm
    have hik : i≠k := by
      rintro rfl
      have hl : i < m.length := by
        have := (List.getElem?_eq_some_iff.mp h2).1
        rw [List.length_set,s.lr,← s.lm] at this; exact this
      rw [List.getElem?_set_self hl] at hm'; cases hm'
    rw [List.getElem?_set_ne hij] at h1 hm q1
    rw [List.getElem?_set_ne hik] at h2 hm' q2
    exact s.dis j k a d1 d2 hjk h1 h2 hm hm' q1 q2
  lk := fun j o hj hm => by
    have hij : i≠j := by
      rintro rfl
      have hl : i < m.length := by
        have := (List.getElem?_eq_some_iff.mp hm).1
        simpa using this
      rw [List.getElem?_set_self hl] at hm; cases hm
    rw [List.getElem?_set_ne hij] at hm
    have := s.lk j o hj hm
    exact ⟨by rw [List.getElem?_set_ne hij]; exact this.1,fun d h => this.2 d (by rw [List.getElem?_set_ne hij] at h; exact h)⟩
theorem SI.setO (s : SI X g m r G st H) (i : Nat) {a : Addr} {d : D} (ho : Own X.K G H a d) (h0 : g.h0 a = none) (hx : ∀ (j : Nat) (b : Addr) (e : D),r[j]? = some (some e)→m[j]? = some Md.ow→st[j]? = some (some (V.ref b))→b≠a) :
    SI X g (m.set i .ow) (r.set i (some d)) G (st.set i (some (V.ref a))) H where
  gok := s.gok
  old := s.old
  ge := s.ge
  gf := s.gf
  lm := by simp [s.lm]
  lr := by simp [s.lr]
  sh := fun j e h hm => by
    by_cases hij : i = j
    · subst hij
      have hl : i < m.length := by
        have := (List.getElem?_eq_some_iff.mp hm).1
        simpa using this
      rw [List.getElem?_set_self hl] at hm; cases hm
    · rw [List.getElem?_set_ne hij] at h hm
      rw [List.getElem?_set_ne hij]
      exact s.sh j e h hm
  ow := fun j e h hm => by
    by_cases hij : i = j
    · subst hij
      have hl : i < r.length := by
        have := (List.getElem?_eq_some_iff.mp h).1
        simpa using this
      rw [List.getElem?_set_self hl] at h
      cases h
      exact ⟨a,by rw [List.getElem?_set_self (by rw [← s.lr]; exact hl)],ho,h0⟩
    · rw [List.getElem?_set_ne hij] at h hm
      rw [List.getElem?_set_ne hij]
      exact s.ow j e h hm
  bw := fun j e h hm => by
    by_cases hij : i = j
    · subst hij
      have hl : i < m.length := by
        have := (List.getElem?_eq_some_iff.mp hm).1
        simpa using this
      rw [List.getElem?_set_self hl] at hm; cases hm
    · rw [List.getElem?_set_ne hij] at h hm
      rw [List.getElem?_set_ne hij]
      exact s.bw j e h hm
  dis := fun j k b d1 d2 hjk h1 h2 hm hm' q1 q2 => by
    by_cases hij : i = j
    · subst hij
      rw [List.getElem?_set_ne hjk] at h2 hm' q2
      have hl : i < st.length := by
        have := (List.getElem?_eq_some_iff.mp q1).1
        simpa using this
      rw [List.getElem?_set_self hl] at q1
      have e : a = b := by injection q1 with q1; injection q1 with q1; injection q1
      exact hx k b d2 h2 hm' q2 e.symm
    · by_cases hik : i = k
      · subst hik
        rw [List.getElem?_set_ne hij] at h1 hm q1
        have hl : i < st.length := by
          have := (List.getElem?_eq_some_iff.mp q2).1
          simpa using this
        rw [List.getElem?_set_self hl] at q2
        have e : a = b := by injection q2 with q2; injection q2 with q2; injection q2
        exact hx j b d1 h1 hm q1 e.symm
      · rw [List.getElem?_set_ne hij] at h1 hm q1
        rw [List.getElem?_set_ne hik] at h2 hm' q2
        exact s.dis j k b d1 d2 hjk h1 h2 hm hm' q1 q2
  lk := fun j o hj hm => by
    have hij : i≠j := by
      rintro rfl
      have hl : i < m.length := by
        have := (List.getElem?_eq_some_iff.mp hm).1
        simpa using this
      rw [List.getElem?_set_self hl] at hm; cases hm
    rw [List.getElem?_set_ne hij] at hm
    have := s.lk j o hj hm
    exact ⟨by rw [List.getElem?_set_ne hij]; exact this.1,fun d h => this.2 d (by rw [List.getElem?_set_ne hij] at h; exact h)⟩
theorem SI.other (s : SI X g m r G st H) {p : Addr} (hp : G p = none) (h0 : g.h0 p = none) (hm : ∀ (i : Nat),m[i]?≠some Md.ow) (o : HO) : SI X g m r G st (upd H p o) where
  gok := fun b e h => (s.gok b e h).mono (fun _ _ z => z) fun o' q => by rw [zal (by rintro rfl; rw [hp] at h; cases h)]; exact q
  old := fun b o' h => by rw [zal (by rintro rfl; rw [h0] at h; cases h)]; exact s.old b o' h
  ge := s.ge
  gf := s.gf
  lm := s.lm
  lr := s.lr
  sh := s.sh
  ow := fun i d _ h => absurd h (hm i)
  bw := fun i d h1 h2 => by
    obtain ⟨v,h3,h4⟩ := s.bw i d h1 h2
    refine ⟨v,h3,?_⟩
    rcases h4 with h4 | ⟨a,rfl,h4,h5⟩
    · exact .inl h4
    · have ha : a≠p := by rintro rfl; exact h5 h0
      exact .inr ⟨a,rfl,⟨h4.un,h4.ob.mono (fun _ _ z => z) fun o' z => by rw [zal ha]; exact z⟩,h5⟩
  dis := fun i j a d e _ _ _ h => absurd h (hm i)
  lk := s.lk
theorem SI.less (s : SI X g m r G st H) {r' : Rho} (hl : r'.length = r.length) (h : ∀ (i : Nat) d,r'[i]? = some (some d)→r[i]? = some (some d)) : SI X g m r' G st H :=
  ⟨s.gok,s.old,s.ge,s.gf,s.lm,hl.trans s.lr,fun i d a b => s.sh i d (h i d a) b,fun i d a b => s.ow i d (h i d a) b,fun i d a b => s.bw i d (h i d a) b,fun i j a d e n p q x y => s.dis i j a d e n (h i d p) (h j e q) x y,fun i o hi hm => by
    have := s.lk i o hi hm
    exact ⟨this.1,fun d hd => this.2 d (h i d hd)⟩⟩
theorem SI.held (s : SI X g m r G st H) {j : Nat} {b : Addr} {e : D} (h : r[j]? = some (some e)) (hm : m[j]? = some .ow) (hs : st[j]? = some (some (V.ref b))) : H b≠none := by
  obtain ⟨a,h1,h2,_⟩ := s.ow j e h hm
  rw [hs] at h1
  injection h1 with h1; injection h1 with h1; injection h1 with h1
  rw [h1]; exact h2.ob.isS
theorem SI.new (s : SI X g m r G st H) {a : Addr} (hn : H a = none) : g.h0 a = none := by
  cases q : g.h0 a with
  | none => rfl
  | some o => rw [s.old _ _ q] at hn; cases hn
theorem SI.setN (s : SI X g m r G st H) {G' : GH} {H' : Hp} (w : Grow X.K G H G' H') (i : Nat) {a : Addr} {d : D} (hn : H a = none) (ho : Own X.K G' H' a d) : SI X g (m.set i .ow) (r.set i (some d)) G' (st.set i (some (V.ref a))) H' := by
  refine (s.grow w).setO i ho ?_ fun j b e h1 h2 h3 => ?_
  · cases q : g.h0 a with
    | none => rfl
    | some o => rw [s.old _ _ q] at hn; cases hn
  · rintro rfl
    exact s.held h1 h2 h3 hn
theorem SI.mut (s : SI X g m r G st H) {i : Nat} {d : D} (hm : m[i]? = some .ow) (hd : r[i]? = some (some d)) :
    ∃ a,st[i]? = some (some (V.ref a))∧Own X.K G H a d∧∀ (o' : HO) (d' : D),OwnO X.K G (upd H a o') a d'→SI X g m (r.set i (some d')) G st (upd H a o') := by
  obtain ⟨a,h1,h2,h3⟩ := s.ow i d hd hm
  have hl : i < r.length := (List.getElem?_eq_some_iff.mp hd).1
  refine ⟨a,h1,h2,fun o' d' ob => ?_⟩
  have oth : ∀ (j : Nat) (b : Addr) (e : D),j≠i→r[j]? = some (some e)→m[j]? = some .ow→st[j]? = some (some (V.ref b))→b≠a := fun j b e hj q1 q2 q3 z => by
    subst z
    exact s.dis i j b d e (Ne.symm hj) hd q1 hm q2 h1 q3
  refine ⟨fun b e h => ?_,fun b o h => ?_,s.ge,s.gf,s.lm,by simp [s.lr],?_,?_,?_,?_,fun j o hj hm' => ?_⟩
  · have hb : b≠a := by rintro rfl; rw [h2.un] at h; cases h
    exact (s.gok b e h).mono (fun _ _ z => z) fun o q => by rw [zal hb]; exact q
  · have hb : b≠a := by rintro rfl; rw [h3] at h; cases h
    rw [zal hb]; exact s.old b o h
  · intro j e h hm'
    have hij : i≠j := by rintro rfl; rw [hm] at hm'; cases hm'
    rw [List.getElem?_set_ne hij] at h
    exact s.sh j e h hm'
  · intro j e h hm'
    by_cases hij : i = j
    · subst hij
      rw [List.getElem?_set_self hl] at h; cases h
      exact ⟨a,h1,⟨h2.un,ob⟩,h3⟩
    · rw [List.getElem?_set_ne hij] at h
      obtain ⟨b,q1,q2,q3⟩ := s.ow j e h hm'
      have hb := oth j b e (Ne.symm hij) h hm' q1
      exact ⟨b,q1,⟨q2.un,q2.ob.mono (fun _ _ z => z) fun o z => by rw [zal hb]; exact z⟩,q3⟩
  · intro j e h hm'
    have hij : i≠j := by rintro rfl; rw [hm] at hm'; cases hm'
    rw [List.getElem?_set_ne hij] at h
    obtain ⟨v,q1,q2⟩ := s.bw j e h hm'
    refine ⟨v,q1,?_⟩
    rcases q2 with q2 | ⟨b,rfl,q2,q3⟩
    · exact .inl q2
    · have hb : b≠a := by rintro rfl; exact q3 h3
      exact .inr ⟨b,rfl,⟨q2.un,q2.ob.mono (fun _ _ z => z) fun o z => by rw [zal hb]; exact z⟩,q3⟩
  · have bound : ∀ (j : Nat) e,(r.set i (some d'))[j]? = some (some e)→∃ e',r[j]? = some (some e') := fun j e h => by
      by_cases hij : i = j
      · subst hij; exact ⟨d,hd⟩
      · rw [List.getElem?_set_ne hij] at h; exact ⟨e,h⟩
    intro j k b d1 d2 hjk q1 q2 p1 p2 z1 z2
    obtain ⟨e1,q1⟩ := bound j d1 q1
    obtain ⟨e2,q2⟩ := bound k d2 q2
    exact s.dis j k b e1 e2 hjk q1 q2 p1 p2 z1 z2
  · have hij : i≠j := by rintro rfl; rw [hm] at hm'; cases hm'
    have := s.lk j o hj hm'
    exact ⟨this.1,fun d'' h => this.2 d'' (by rw [List.getElem?_set_ne hij] at h; exact h)⟩
end
noncomputable def RV (ro : Bool) (K : PySem.W.Frag) (H0 : Hp) (G : GH) (H : Hp) (v : V) (d : D) : Prop := match ro with
  | false => RG K G v d
  | true => (∃ a,v = .ref a∧H0 a = none∧Own K G H a d)∨(d = .non∧v = .non)
noncomputable def oTo (X : Cx) (g : GE) (ro : Bool) (m' mb : List Md) (G : GH) (D : Ends) : Out→Prop
  | .nx r' => ∀ σ' G' H',Gle G G'→SI X g m' r' G' σ' H'→D.nx σ' H'
  | .rt d => ∀ v G' H',Grow X.K g.gh g.h0 G' H'→RV ro X.K g.h0 G' H' v d→D.rt v H'
  | .bk r' => ∀ σ' G' H',Gle G G'→SI X g mb r' G' σ' H'→D.bk σ' H'
  | .ct r' => ∀ σ' G' H',Gle G G'→SI X g mb r' G' σ' H'→D.ct σ' H'
  | .exc x r' => ∀ pins e s' σ' G' H',Gle G G'→SI X g (zeW m') r' G' σ' H'→Inv X pins σ' H' s'→ExV X G' H' e x→X.xe e s'
  | .stuck => False
noncomputable def tS (X : Cx) (g : GE) (ro : Bool) (m m' mb : List Md) (f : FS) : TS := fun D σ H => ∃ r G,SI X g m r G σ H∧oTo X g ro m' mb G D (f r)
noncomputable def SS (X : Cx) (g : GE) (ro : Bool) (mb m : List Md) (st : Stmt) (f : FS) (m' : List Md) : Prop := m'.length = m.length∧PS X st (tS X g ro m m' mb f)
noncomputable def SSs (X : Cx) (g : GE) (ro : Bool) (mb m : List Md) (st : List Stmt) (f : FS) (m' : List Md) : Prop := m'.length = m.length∧PSs X st (tS X g ro m m' mb f)
theorem zeH {m m' : List Md} (h : m'.length = m.length) : zeW m' = zeW m := by
  unfold zeW
  rw [List.map_const',List.map_const',h]
theorem oTo.x {X : Cx} {g : GE} {ro : Bool} {m m' mb : List Md} {r : Rho} {G : GH} {D : Ends} {σ : L2.St} {H : Hp} {x : DL.D} (h : oTo X g ro m' mb G D (.exc x (forget m r))) (si : SI X g m r G σ H) (hl : m'.length = m.length) : XW X σ G H x :=
  fun pins e s' G' H' w I ex => h pins e s' σ G' H' w.ge (by rw [zeH hl]; exact (si.grow w).forget) I ex
section
variable {X : Cx} {g : GE} {ro : Bool} {m m' m1 mb : List Md} {e a b c tg : Expr} {f fa fb fc : FE} {p : FQ} {pos pos' : Pos} {st : Stmt} {sts sts' : List Stmt} {s1 s2 : FS}
theorem oTo.gle {G G1 : GH} {D : Ends} {o : Out} (h : oTo X g ro m' mb G D o) (w : Gle G G1) : oTo X g ro m' mb G1 D o := by
  cases o with
  | nx r' => exact fun σ' G' H' q si => h σ' G' H' (w.trans q) si
  | rt d => exact h
  | bk r' => exact fun σ' G' H' q si => h σ' G' H' (w.trans q) si
  | ct r' => exact fun σ' G' H' q si => h σ' G' H' (w.trans q) si
  | exc x r' => exact fun pins e s' σ' G' H' q => h pins e s' σ' G' H' (w.trans q)
  | stuck => exact h
noncomputable def seqF (s1 s2 : FS) : FS := fun r => match s1 r with
  | .nx r' => s2 r'
  | o => o
noncomputable def zap : FS := fun r => .nx r
theorem zaj : SSs X g ro mb m [] zap m := ⟨rfl,PSs.imp ziU fun D σ H ⟨r,G,si,q⟩ => q σ G H (Gle.refl G) si⟩
theorem zaa (h1 : SS X g ro mb m st s1 m1) (h2 : SSs X g ro mb m1 sts s2 m') : SSs X g ro mb m (st::sts) (seqF s1 s2) m' := by
  refine ⟨h2.1.trans h1.1,PSs.imp (zea h1.2 h2.2) fun D σ H ⟨r,G,si,q⟩ => ⟨r,G,si,?_⟩⟩
  unfold seqF at q
  cases e : s1 r with
  | nx r' =>
    rw [e] at q
    exact fun σ' G' H' w si' => ⟨r',G',si',oTo.gle q w⟩
  | rt d => rw [e] at q; exact q
  | bk r' => rw [e] at q; exact q
  | ct r' => rw [e] at q; exact q
  | exc x r' => rw [e] at q; exact fun pins e s' σ' G' H' w si' => q pins e s' σ' G' H' w (by rw [zeH h2.1]; exact si')
  | stuck => rw [e] at q; exact q
theorem ziG : SS X g ro mb m st (fun _ => .stuck) m := ⟨rfl,PS.imp zkH fun D σ H ⟨r,G,si,q⟩ => q⟩
theorem zgG (i : Nat) (hi : m[i]? = some .ow) (h : SS X g ro mb (m.set i .sh) st s1 m') : SS X g ro mb m st s1 m' := by
  refine ⟨h.1.trans (by simp),fun pins s σ H D I ⟨r,G,si,q⟩ => ?_⟩
  rcases si.frz i hi with ⟨G',le,si'⟩ | ⟨a,z⟩
  · exact h.2 pins s σ H D I ⟨r,G',si',oTo.gle q le⟩
  · obtain ⟨ob,I2⟩ := Inv.fast I a
    obtain ⟨G',le,si'⟩ := z ob
    exact h.2 pins s σ _ D I2 ⟨r,G',si',oTo.gle q le⟩
noncomputable def onE {α : Type} (m : List Md) (r : Rho) (x : Res α) (k : α→Out) : Out := match x with
  | .ok a => k a
  | .exc e => .exc e (forget m r)
  | .stuck => .stuck
@[simp] theorem onE_ok {α : Type} (m : List Md) (r : Rho) (a : α) (k : α→Out) : onE m r (.ok a) k = k a := rfl
theorem za3 {α : Type} {x : Res α} {k : α→Out} {r : Rho} {G : GH} {D : Ends} {σ : L2.St} {H : Hp} (si : SI X g m r G σ H) (hl : m'.length = m.length) (h : oTo X g ro m' mb G D (onE m r x k)) : fin x (fun a => oTo X g ro m' mb G D (k a)) (XW X σ G H) := by
  cases x with
  | ok a => exact h
  | exc e => exact oTo.x h si hl
  | stuck => exact h
noncomputable def setF (m : List Md) (i : Nat) (f : FE) : FS := fun r => onE m r (f r) fun d => .nx (r.set i (some d))
theorem zaV (i : Nat) {x : Str} (hN : X.N.Nodup) (hi : X.N[i]? = some x) (hx : Loc X.env.scope x) (he : SE X g m e f) (hs : swapsWith e (some (.Name x pos')) pos.line X.env = pure false := by rfl)
    (hf : X.fn x = true∨X.env.scope.names.lookup x = some .local := by first | exact .inl rfl | exact .inr rfl | assumption) : SS X g ro mb m (.Assign [.Name x pos'] e pos) (setF m i f) (m.set i .sh) := by
  have hl : (m.set i .sh).length = m.length := by simp
  refine ⟨hl,PS.imp (ziV hN hi hx he hs hf) fun D σ H ⟨r,G,si,q⟩ => ⟨r,G,si,?_⟩⟩
  exact zaf (za3 si hl q) fun d q v G' H' w rv => q _ G' H' w.ge ((si.grow w).set i rv)
theorem zcG (i : Nat) {x : Str} (hN : X.N.Nodup) (hi : X.N[i]? = some x) (hx : Loc X.env.scope x) (he : SO X g m e f) (hs : swapsWith e (some (.Name x pos')) pos.line X.env = pure false := by rfl)
    (hf : X.fn x = true∨X.env.scope.names.lookup x = some .local := by first | exact .inl rfl | exact .inr rfl | assumption) : SS X g ro mb m (.Assign [.Name x pos'] e pos) (setF m i f) (m.set i .ow) := by
  have hl : (m.set i .ow).length = m.length := by simp
  refine ⟨hl,PS.imp (ziV hN hi hx he hs hf) fun D σ H ⟨r,G,si,q⟩ => ⟨r,G,si,?_⟩⟩
  exact zaf (za3 si hl q) fun d q a G' H' w hn ho => q _ G' H' w.ge (si.setN w i hn ho)
noncomputable def zle (m : List Md) (f : FE) : FS := fun r => onE m r (f r) fun _ => .nx r
theorem zn4 (he : SE X g m e f) (hs : swapsWith e none pos.line X.env = pure false := by rfl) : SS X g ro mb m (.Expr e pos) (zle m f) m :=
  ⟨rfl,PS.imp (zfn he hs) fun D σ H ⟨r,G,si,q⟩ => ⟨r,G,si,zaf (za3 si rfl q) fun d q v G' H' w _ => q σ G' H' w.ge (si.grow w)⟩⟩
noncomputable def retF (m : List Md) (f : FE) : FS := fun r => onE m r (f r) fun d => .rt d
theorem zbk (he : SE X g m e f) : SS X g false mb m (.Return (some e) pos) (retF m f) m :=
  ⟨rfl,PS.imp (zlD he) fun D σ H ⟨r,G,si,q⟩ => ⟨r,G,si,zaf (za3 si rfl q) fun d q v G' H' w rv => q v G' H' (si.grow w).grown rv⟩⟩
theorem znX (i : Nat) {x : Str} (hm : m[i]? = some .ow) (hN : X.N[i]? = some x) (hv : Vis X.env.scope x) (hd : (x == ("__debug__" : Str)) = false := by decide) (hcd : (x == ("__classdict__" : Str)) = false := by decide) :
    SS X g true mb m (.Return (some (.Name x pos')) pos) (retF m fun r => getV r i) m := by
  refine ⟨rfl,PS.imp (zlD (zdS hN hv hd hcd)) fun D σ H ⟨r,G,si,q⟩ => ?_⟩
  obtain ⟨d,e,q⟩ := zed (za3 si rfl q)
  obtain ⟨a,h1,h2,h3⟩ := si.ow i d e hm
  exact ⟨_,h1,q _ G H si.grown (.inl ⟨a,rfl,h3,h2⟩)⟩
noncomputable def ifF (m : List Md) (p : FQ) (s1 s2 : FS) : FS := fun r => onE m r (p r) fun c => if c = true then s1 r else s2 r
theorem s_if (hc : SQ X g m c p) (h1 : SSs X g ro mb m sts s1 m') (h2 : SSs X g ro mb m sts' s2 m') : SS X g ro mb m (.If c sts sts' pos) (ifF m p s1 s2) m' := by
  refine ⟨h1.1,PS.imp (zou hc h1.2 h2.2) fun D σ H ⟨r,G,si,q⟩ => ⟨r,G,si,zaf (za3 si h1.1 q) fun c q G' H' w => ?_⟩⟩
  cases c with
  | true => rw [if_pos rfl] at q ⊢; exact ⟨r,G',si.grow w,oTo.gle q w.ge⟩
  | false => rw [if_neg Bool.false_ne_true] at q ⊢; exact ⟨r,G',si.grow w,oTo.gle q w.ge⟩
theorem zix (i : Nat) (h : SSs X g ro mb m sts s1 m') (hi : m'[i]? = some .ow) : SSs X g ro mb m sts s1 (m'.set i .sh) := by
  refine ⟨by simp [h.1],fun pins s σ H D I ⟨r,G,si,q⟩ => ?_⟩
  refine thn (h.2 pins s σ H ⟨fun σ' H' => D.nx σ' H'∨∃ a,∀ ob,D.nx σ' (fz H' a ob),D.rt,D.bk,D.ct⟩ I ⟨r,G,si,?_⟩) fun f s' p => ?_
  · cases e : s1 r with
    | nx r' =>
      rw [e] at q
      intro σ' G' H' w si'
      rcases si'.frz i hi with ⟨G2,le,si2⟩ | ⟨a,z⟩
      · exact .inl (q σ' G2 H' (w.trans le) si2)
      · refine .inr ⟨a,fun ob => ?_⟩
        obtain ⟨G2,le,si2⟩ := z ob
        exact q σ' G2 _ (w.trans le) si2
    | rt d => rw [e] at q; exact q
    | bk r' => rw [e] at q; exact q
    | ct r' => rw [e] at q; exact q
    | exc x r' => rw [e] at q; exact fun pins e s' σ' G' H' w si' => q pins e s' σ' G' H' w (by rw [zeH (m := m') (by simp)]; exact si')
    | stuck => rw [e] at q; exact q
  · cases f with
    | next =>
      obtain ⟨σ',H',I',z | ⟨a,z⟩⟩ := p
      · exact ⟨σ',H',I',z⟩
      · obtain ⟨ob,I2⟩ := Inv.fast I' a
        exact ⟨σ',_,I2,z ob⟩
    | brk => exact p
    | cont => exact p
    | ret u => exact p
end
end DL
end
section
namespace DL
open PySem PySem.Spec PyProof.Rows L2
noncomputable abbrev FT := D→Rho→Option Rho
noncomputable abbrev FTs := List D→Rho→Option Rho
noncomputable def tG (X : Cx) (g : GE) (m m' : List Md) (ft : FT) : TG := fun v σ H Q => ∃ r G d,SI X g m r G σ H∧RG X.K G v d∧∃ r',ft d r = some r'∧∀ σ',SI X g m' r' G σ' H→Q σ' H
noncomputable def tGs (X : Cx) (g : GE) (m m' : List Md) (ft : FTs) : TGs := fun vs σ H Q => ∃ r G ds,SI X g m r G σ H∧RGs X.K G vs ds∧∃ r',ft ds r = some r'∧∀ σ',SI X g m' r' G σ' H→Q σ' H
theorem PG.imp {X : Cx} {e : Expr} {t t' : TG} (h : PG X e t) (i : ∀ v σ H Q,t' v σ H Q→t v σ H Q) : PG X e t' := fun pins s σ H v u Q I r q => h pins s σ H v u Q I r (i v σ H Q q)
theorem PGs.imp {X : Cx} {e : List Expr} {t t' : TGs} (h : PGs X e t) (i : ∀ v σ H Q,t' v σ H Q→t v σ H Q) : PGs X e t' := fun pins s σ H v u Q I r q => h pins s σ H v u Q I r (i v σ H Q q)
noncomputable def SG (X : Cx) (g : GE) (m : List Md) (tg : Expr) (ft : FT) (m' : List Md) : Prop := m'.length = m.length∧PG X tg (tG X g m m' ft)
structure SGs (X : Cx) (g : GE) (m : List Md) (ts : List Expr) (n : Nat) (ft : FTs) (m' : List Md) : Prop where
  ml : m'.length = m.length
  ln : ∀ ds r r',ft ds r = some r'→ds.length = n
  pg : PGs X ts (tGs X g m m' ft)
noncomputable def ftN (i : Nat) : FT := fun d r => some (r.set i (some d))
noncomputable def ftT (ft : FTs) : FT := fun d r => match d with
  | .tup ds => ft ds r
  | _ => none
noncomputable def zgg : FTs := fun ds r => match ds with
  | [] => some r
  | _ => none
noncomputable def zbn (ft : FT) (fts : FTs) : FTs := fun ds r => match ds with
  | [] => none
  | d::ds => (ft d r).bind fun r' => fts ds r'
section
variable {X : Cx} {g : GE} {m m' m1 : List Md} {tg : Expr} {ts : List Expr} {ft : FT} {fts : FTs} {pos : Pos} {n : Nat}
theorem zaD (i : Nat) {x : Str} (hN : X.N.Nodup) (hi : X.N[i]? = some x) (hx : Loc X.env.scope x) (hf : X.fn x = true∨X.env.scope.names.lookup x = some .local := by first | exact .inl rfl | exact .inr rfl | assumption) :
    SG X g m (.Name x pos) (ftN i) (m.set i .sh) :=
  ⟨by simp,PG.imp (zmC hN hi hx hf) fun v σ H Q ⟨r,G,d,si,rv,r',e,k⟩ => by cases e; exact k _ (si.set i rv)⟩
theorem zk9 : SGs X g m [] 0 zgg m := by
  refine ⟨rfl,fun ds r r' e => ?_,PGs.imp zmB fun v σ H Q ⟨r,G,ds,si,rv,r',e,k⟩ => ?_⟩
  · cases ds with
    | nil => rfl
    | cons _ _ => cases e
  · cases rv with
    | nil => cases e; exact ⟨rfl,k σ si⟩
    | cons _ _ => cases e
theorem zc7 (h1 : SG X g m tg ft m1) (h2 : SGs X g m1 ts n fts m') (hs : (assignEach (tg::ts) X.env).map (·.2) = assign tg X.env::(assignEach ts X.env).map (·.2) := by rfl) : SGs X g m (tg::ts) (n + 1) (zbn ft fts) m' := by
  refine ⟨h2.ml.trans h1.1,fun ds r r' e => ?_,PGs.imp (zkK h1.2 h2.pg hs) fun v σ H Q ⟨r,G,ds,si,rv,r',e,k⟩ => ?_⟩
  · cases ds with
    | nil => cases e
    | cons d ds =>
      have e' : ((ft d r).bind fun r' => fts ds r') = some r' := e
      cases q : ft d r with
      | none => rw [q] at e'; cases e'
      | some r1 =>
        rw [q] at e'
        have := h2.ln ds r1 r' e'
        simp [this]
  · cases rv with
    | nil => cases e
    | @cons v0 d vs ds rv rs =>
      have e' : ((ft d r).bind fun r' => fts ds r') = some r' := e
      cases q : ft d r with
      | none => rw [q] at e'; cases e'
      | some r1 =>
        rw [q] at e'
        exact ⟨_,_,rfl,r,G,d,si,rv,r1,q,fun σ' si' => ⟨r1,G,ds,si',rs,r',e',k⟩⟩
theorem zk8 {k : Nat} (hc : X.calm = true) (h : SGs X g m ts n fts m') (hn : (assignEach ts X.env).length = n := by rfl) (hst : (assignEach ts X.env).findIdx? (·.1) = none := by rfl) : SG X g m (.Tuple ts k pos) (ftT fts) m' := by
  refine ⟨h.ml,PG.imp (zow hc h.pg hn hst) fun v σ H Q ⟨r,G,d,si,rv,r',e,k⟩ => ?_⟩
  cases d with
  | tup ds =>
    obtain ⟨a,xs,rfl,s,rs⟩ := rv.tup si.gok
    exact ⟨a,xs,rfl,s,(Paired.length rs).trans (h.ln ds r r' e),r,G,ds,si,rs,r',e,k⟩
  | _ => cases e
end
structure Yields (K : PySem.W.Frag) (J : It) (ds : List D) (G0 : GH) : Prop where
  go : ∀ G H (i : Nat),Gle G0 G→GOk K G H→i < ds.length→J.go i H
  yld : ∀ G H (i : Nat) x H' d,Gle G0 G→GOk K G H→J.yld i H x H'→ds[i]? = some d→∃ G',Grow K G H G' H'∧RG K G' x d
  stop : ∀ G H,Gle G0 G→GOk K G H→J.stop ds.length H
noncomputable abbrev FI := Rho→Res (List D)
noncomputable def tI (X : Cx) (g : GE) (m : List Md) (f : FI) : TI := fun σ H R => ∃ r G,SI X g m r G σ H∧fin (f r) (fun ds => ∀ J G' H',Grow X.K G H G' H'→Yields X.K J ds G'→R J H') (XW X σ G H)
noncomputable def SIt (X : Cx) (g : GE) (m : List Md) (tg iter : Expr) (f : FI) : Prop := PI X tg iter (tI X g m f)
theorem PI.imp {X : Cx} {tg e : Expr} {t t' : TI} (h : PI X tg e t) (i : ∀ σ H Q,t' σ H Q→t σ H Q) : PI X tg e t' := fun pins s σ H R I q => h pins s σ H R I (i σ H R q)
theorem zgB {K : PySem.W.Frag} {a : Addr} {ds : List D} {G0 : GH} (h0 : RG K G0 (.ref a) (.lst ds)) : Yields K (Itl K a) ds G0 := by
  have at_ : ∀ G H,Gle G0 G→GOk K G H→∃ xs,SqL K H a xs∧RGs K G xs ds := fun G H w gk => by
    obtain ⟨b,xs,e,s,r⟩ := (h0.mono w).lst gk
    cases e
    exact ⟨xs,s,r⟩
  refine ⟨fun G H i w gk hi => ?_,fun G H i x H' d w gk y e => ?_,fun G H w gk => ?_⟩
  · obtain ⟨xs,s,r⟩ := at_ G H w gk
    have hl := Paired.length r
    exact ⟨xs,xs[i],s,List.getElem?_eq_getElem (by omega)⟩
  · obtain ⟨xs,s,r⟩ := at_ G H w gk
    obtain ⟨rfl,y⟩ := y
    obtain ⟨v,e1,rv⟩ := Paired.get r e
    have := y xs s
    rw [e1] at this; cases this
    exact ⟨G,Grow.refl gk,rv⟩
  · obtain ⟨xs,s,r⟩ := at_ G H w gk
    exact ⟨xs,s,Nat.le_of_eq (Paired.length r)⟩
theorem zii {K : PySem.W.Frag} {a : Addr} {ds : List D} {G0 : GH} (h0 : RG K G0 (.ref a) (.tup ds)) : Yields K (Itt K a) ds G0 := by
  have at_ : ∀ G H,Gle G0 G→GOk K G H→∃ xs,SqT K H a xs∧RGs K G xs ds := fun G H w gk => by
    obtain ⟨b,xs,e,s,r⟩ := (h0.mono w).tup gk
    cases e
    exact ⟨xs,s,r⟩
  refine ⟨fun G H i w gk hi => ?_,fun G H i x H' d w gk y e => ?_,fun G H w gk => ?_⟩
  · obtain ⟨xs,s,r⟩ := at_ G H w gk
    have hl := Paired.length r
    exact ⟨xs,xs[i],s,List.getElem?_eq_getElem (by omega)⟩
  · obtain ⟨xs,s,r⟩ := at_ G H w gk
    obtain ⟨rfl,y⟩ := y
    obtain ⟨v,e1,rv⟩ := Paired.get r e
    have := y xs s
    rw [e1] at this; cases this
    exact ⟨G,Grow.refl gk,rv⟩
  · obtain ⟨xs,s,r⟩ := at_ G H w gk
    exact ⟨xs,s,Nat.le_of_eq (Paired.length r)⟩
noncomputable def rngD (lo : Int) (n : Nat) : List D := (List.range n).map fun (i : Nat) => D.int (lo + (i : Int))
theorem znv {K : PySem.W.Frag} {lo : Int} {n : Nat} {G0 : GH} : Yields K (Itr lo n) (rngD lo n) G0 := by
  have hl : (rngD lo n).length = n := by simp [rngD]
  refine ⟨fun G H i w gk hi => (by rw [hl] at hi; exact hi),fun G H i x H' d w gk y e => ?_,fun G H w gk => (by rw [hl]; exact Nat.le_refl _)⟩
  obtain ⟨rfl,rfl⟩ := y
  have hi : i < n := by
    have := (List.getElem?_eq_some_iff.mp e).1
    rw [hl] at this; exact this
  unfold rngD at e
  rw [List.getElem?_map,List.getElem?_range hi] at e
  cases e
  exact ⟨G,Grow.refl gk,.scl (.int _)⟩
noncomputable def za7 : D→Option (List D)
  | .lst ds => some ds
  | .tup ds => some ds
  | _ => none
section
variable {X : Cx} {g : GE} {m m' m1 mb : List Md} {tg e a b c iter : Expr} {f fa fb : FE} {p : FQ} {pos pos' : Pos} {ro : Bool} {fl : Rho → Res (List D)} {sts : List Stmt} {s1 : FS}
noncomputable def fSeq (k : D→Option (List D)) (f : FE) : FI := fun r => (f r).bind fun d => opt (k d)
theorem ziY {l : Expr} {tl : TE} (hl : PE X l tl) : PI X tg l (fun σ H R => tl σ H fun x H1 => (∃ a,x = .ref a∧(∃ xs,SqL X.K H1 a xs)∧R (Itl X.K a) H1)∨∃ a,x = .ref a∧(∃ xs,SqT X.K H1 a xs)∧R (Itt X.K a) H1) := by
  intro pins s σ H R I h
  refine thn (hl pins s σ H _ I h) fun v s1 ⟨x,H1,I1,r1,q1⟩ => ?_
  rcases q1 with ⟨a,e,⟨xs,hq⟩,q⟩ | ⟨a,e,⟨xs,hq⟩,q⟩
  · subst e
    cases r1
    obtain ⟨its,rv,p,hz⟩ := I1.list hq
    refine wpAny_pyIter_list p.isList ?_
    refine ⟨s1.heap.objs.size,[s1.heap.objs.size],_,_,H1,rfl,I1.kept (t' := s1.toks) fun b o e => Heap.get?_push_of_some _ e,zil a _,⟨_,Heap.get?_push_size _ rfl,rfl,rfl⟩,fun b hb => ?_,q⟩
    have e : b = s1.heap.objs.size := by simpa using hb
    subst e
    exact I1.fpOk (Nat.le_refl _) (I1.hok.fresh (Nat.le_refl _))
  · subst e
    cases r1
    obtain ⟨its,rv,p,hz⟩ := I1.tuple hq
    refine wpAny_pyIter_tuple (show s1.heap.IsTuple a its.toArray from p) ?_
    refine ⟨s1.heap.objs.size,[s1.heap.objs.size],_,_,H1,rfl,I1.kept (t' := s1.toks) fun b o e => Heap.get?_push_of_some _ e,zhN a _,⟨_,Heap.get?_push_size _ rfl,rfl,rfl⟩,fun b hb => ?_,q⟩
    have e : b = s1.heap.objs.size := by simpa using hb
    subst e
    exact I1.fpOk (Nat.le_refl _) (I1.hok.fresh (Nat.le_refl _))
theorem zk4 (h : SE X g m e f) : SIt X g m tg e (fSeq za7 f) := by
  refine PI.imp (ziY h) fun σ H R ⟨r,G,si,q⟩ => ⟨r,G,si,zaf (zae q) fun d q v G' H' w rv => ?_⟩
  obtain ⟨ds,e,q⟩ := zaC q
  cases d with
  | lst ds' =>
    cases e
    obtain ⟨a,xs,rfl,s,rs⟩ := rv.lst w.ok
    exact .inl ⟨a,rfl,⟨xs,s⟩,q _ G' H' w (zgB rv)⟩
  | tup ds' =>
    cases e
    obtain ⟨a,xs,rfl,s,rs⟩ := rv.tup w.ok
    exact .inr ⟨a,rfl,⟨xs,s⟩,q _ G' H' w (zii rv)⟩
  | _ => cases e
structure YieldsC (K : PySem.W.Frag) (J : It) (ds : List D) (G0 : GH) (H0 : Hp) : Prop where
  go : ∀ G H (i : Nat),Grow K G0 H0 G H→i < ds.length→J.go i H
  yld : ∀ G H (i : Nat) x H' d,Grow K G0 H0 G H→J.yld i H x H'→ds[i]? = some d→∃ G',Grow K G H G' H'∧RG K G' x d
  stop : ∀ G H,Grow K G0 H0 G H→J.stop ds.length H
theorem Yields.toC {K : PySem.W.Frag} {J : It} {ds : List D} {G0 : GH} {H0 : Hp} (y : Yields K J ds G0) : YieldsC K J ds G0 H0 :=
  ⟨fun G H i w hi => y.go G H i w.ge w.ok hi,fun G H i x H' d w q e => y.yld G H i x H' d w.ge w.ok q e,fun G H w => y.stop G H w.ge w.ok⟩
noncomputable def tIC (X : Cx) (g : GE) (m : List Md) (f : FI) : TI := fun σ H R => ∃ r G,SI X g m r G σ H∧fin (f r) (fun ds => ∀ J G' H',Grow X.K G H G' H'→YieldsC X.K J ds G' H'→R J H') (XW X σ G H)
noncomputable def SItC (X : Cx) (g : GE) (m : List Md) (tg iter : Expr) (f : FI) : Prop := PI X tg iter (tIC X g m f)
theorem SIt.toC {fi : FI} (h : SIt X g m tg iter fi) : SItC X g m tg iter fi := PI.imp h fun σ H R ⟨r,G,si,q⟩ => ⟨r,G,si,zaf q fun ds k J G' H' w y => k J G' H' w y.toC⟩
theorem znw {K : PySem.W.Frag} {a : Addr} {ds : List D} {G0 : GH} {H0 : Hp} (o : Own K G0 H0 a (.lst ds)) : YieldsC K (Itl K a) ds G0 H0 := by
  have at_ : ∀ G H,Grow K G0 H0 G H→∃ xs,SqL K H a xs∧RGs K G xs ds := fun G H w => by
    cases (o.mono w).ob with
    | lst r s => exact ⟨_,SqL.of r,s⟩
  refine ⟨fun G H i w hi => ?_,fun G H i x H' d w y e => ?_,fun G H w => ?_⟩
  · obtain ⟨xs,s,r⟩ := at_ G H w
    have hl := Paired.length r
    exact ⟨xs,xs[i],s,List.getElem?_eq_getElem (by omega)⟩
  · obtain ⟨xs,s,r⟩ := at_ G H w
    obtain ⟨rfl,y⟩ := y
    obtain ⟨v,e1,rv⟩ := Paired.get r e
    have := y xs s
    rw [e1] at this; cases this
    exact ⟨G,Grow.refl w.ok,rv⟩
  · obtain ⟨xs,s,r⟩ := at_ G H w
    exact ⟨xs,s,Nat.le_of_eq (Paired.length r)⟩
theorem ze8 (h : SB X g m e f) : SItC X g m tg e (fSeq za7 f) := by
  refine PI.imp (ziY h) fun σ H R ⟨r,G,si,q⟩ => ⟨r,G,si,zaf (zae q) fun d q v G' H' w rv => ?_⟩
  obtain ⟨ds,e,q⟩ := zaC q
  cases d with
  | lst ds' =>
    cases e
    rcases rv with rv | ⟨a,rfl,o⟩
    · obtain ⟨a,xs,rfl,s,rs⟩ := rv.lst w.ok
      exact .inl ⟨a,rfl,⟨xs,s⟩,q _ G' H' w (zgB rv).toC⟩
    · cases o.ob with
      | lst r s => exact .inl ⟨a,rfl,⟨_,SqL.of r⟩,q _ G' H' w (znw o)⟩
  | tup ds' =>
    cases e
    rcases rv with rv | ⟨a,rfl,o⟩
    · obtain ⟨a,xs,rfl,s,rs⟩ := rv.tup w.ok
      exact .inr ⟨a,rfl,⟨xs,s⟩,q _ G' H' w (zii rv).toC⟩
    · cases o.ob
  | _ => cases e
noncomputable def rng1 : List D→Option (List D)
  | [.int j] => if -(2 ^ 62)≤j∧j < 2 ^ 62 then some (rngD 0 j.toNat) else none
  | _ => none
noncomputable def fRng (k : List D→Option (List D)) (fl : Rho→Res (List D)) : FI := fun r => (fl r).bind fun ds => opt (k ds)
theorem zci {pn : Pos} (hg : Gl X "range") (hm : X.mg "range" = none) (ha : SAB X g m [a] fl) (hs : starEach [a] X.env = [(false,eval a X.env)] := by rfl) : SIt X g m tg (.Call (.Name "range" pn) [a] [] pos) (fRng rng1 fl) := by
  refine PI.imp (ziZ hg hm ha hs) fun σ H R ⟨r,G,si,q⟩ => ⟨r,G,si,zaf (zae q) fun ds q vs G' H' w rs => ?_⟩
  obtain ⟨zs,e,q⟩ := zaC q
  unfold rng1 at e
  split at e
  · split at e
    · rename_i j hj
      cases e
      cases rs with
      | cons r1 t => cases t; exact ⟨j,by rw [r1.int w.ok],hj.1,hj.2,q _ G' H' w znv⟩
    · cases e
  · cases e
noncomputable def forF (ft : FT) (body : FS) : List D→FS
  | [],r => .nx r
  | d::ds,r => match ft d r with
    | none => .stuck
    | some r1 => match body r1 with
      | .nx r' => forF ft body ds r'
      | .ct r' => forF ft body ds r'
      | .bk r' => .nx r'
      | o => o
noncomputable def zcb (m : List Md) (fi : FI) (ft : FT) (body : FS) : FS := fun r => onE m r (fi r) fun ds => forF ft body ds r
theorem zhS (hp : PassesOwn (model X.prog X.w) X.A X.env X.xe) (hc : X.calm = true) {ft : FT} {fi : FI} (hi : SIt X g m tg iter fi) (hg : SG X g m tg ft m) (hb : SSs X g ro m m sts s1 m)
    (hs : ∀ x,foldedSetIterable iter X.env x = pure x := by intro _; rfl) : SS X g ro mb m (.For tg iter sts [] pos) (zcb m fi ft s1) m := by
  refine ⟨rfl,PS.imp (zf4 hp hc hi hg.2 hb.2 hs) fun D σ H ⟨r,G,si,q⟩ => ⟨r,G,si,zaf (za3 si rfl q) fun ds q J G0 H0 w0 Y => ?_⟩⟩
  refine ⟨fun i n σ H => ∃ r G,SI X g m r G σ H∧Gle G0 G∧i≤ds.length∧n = ds.length - i∧oTo X g ro m mb G D (forF ft s1 (ds.drop i) r),⟨ds.length,r,G0,si.grow w0,Gle.refl G0,Nat.zero_le _,rfl,oTo.gle q w0.ge⟩,?_⟩
  rintro i n σ1 H1 ⟨r1,G1,si1,le1,hi,rfl,q1⟩
  by_cases hlt : i < ds.length
  · have hd : ds.drop i = ds[i]::ds.drop (i + 1) := List.drop_eq_getElem_cons hlt
    rw [hd] at q1
    unfold forF at q1
    refine .inr ⟨Y.go G1 H1 i le1 si1.gok hlt,fun σ' H' => ∃ r G,SI X g m r G σ' H'∧Gle G0 G∧oTo X g ro m mb G D (forF ft s1 (ds.drop (i + 1)) r),fun σ' H' ⟨r',G',si',le',q'⟩ => ⟨ds.length - (i + 1),by omega,r',G',si',le',hlt,rfl,q'⟩,fun x H' y => ?_⟩
    obtain ⟨G',w',rv⟩ := Y.yld G1 H1 i x H' ds[i] le1 si1.gok y (List.getElem?_eq_getElem hlt)
    have le' : Gle G0 G' := le1.trans w'.ge
    cases eft : ft ds[i] r1 with
    | none => simp only [eft] at q1; exact q1.elim
    | some r2 =>
      simp only [eft] at q1
      refine ⟨r1,G',ds[i],si1.grow w',rv,r2,eft,fun σ2 si2 => ⟨r2,G',si2,?_⟩⟩
      cases eb : s1 r2 with
      | nx r' => simp only [eb] at q1; exact fun σ3 G3 H3 le3 si3 => ⟨r',G3,si3,le'.trans le3,oTo.gle q1 (Gle.trans w'.ge le3)⟩
      | ct r' => simp only [eb] at q1; exact fun σ3 G3 H3 le3 si3 => ⟨r',G3,si3,le'.trans le3,oTo.gle q1 (Gle.trans w'.ge le3)⟩
      | bk r' => simp only [eb] at q1; exact fun σ3 G3 H3 le3 si3 => q1 σ3 G3 H3 (Gle.trans w'.ge le3) si3
      | rt d => simp only [eb] at q1; exact q1
      | exc x r' => simp only [eb] at q1; exact fun pins e s' σ3 G3 H3 le3 => q1 pins e s' σ3 G3 H3 (Gle.trans w'.ge le3)
      | stuck => simp only [eb] at q1; exact q1
  · have e : i = ds.length := by omega
    subst e
    rw [List.drop_length] at q1
    exact .inl ⟨Y.stop G1 H1 le1 si1.gok,q1 σ1 G1 H1 (Gle.refl _) si1⟩
noncomputable def zbB (m : List Md) : List Md := m.map fun x => if x = Md.sh then Md.sh else Md.bw
noncomputable def zh4 (m : List Md) (r : Rho) (st : L2.St) (G : GH) (H : Hp) : GE := ⟨G,H,fun i => if m[i]? = some Md.ow∨m[i]? = some Md.bw then some ((st[i]?).join,(r[i]?).join) else none⟩
theorem zcH {m : List Md} {i : Nat} {x : Md} (h : m[i]? = some x) : (zbB m)[i]? = some (if x = Md.sh then Md.sh else Md.bw) := by
  unfold zbB; rw [List.getElem?_map,h]; rfl
theorem zkW {m : List Md} {i : Nat} (h : (zbB m)[i]? = some Md.sh) : m[i]? = some Md.sh := by
  cases q : m[i]? with
  | none => unfold zbB at h; rw [List.getElem?_map,q] at h; cases h
  | some x =>
    rw [zcH q] at h
    cases x <;> first | rfl | (simp at h)
theorem zhv {m : List Md} {i : Nat} (h : (zbB m)[i]? = some Md.ow) : False := by
  cases q : m[i]? with
  | none => unfold zbB at h; rw [List.getElem?_map,q] at h; cases h
  | some x =>
    rw [zcH q] at h
    cases x <;> simp at h
theorem lockM_bw {m : List Md} {i : Nat} (h : (zbB m)[i]? = some Md.bw) : m[i]? = some Md.ow∨m[i]? = some Md.bw := by
  cases q : m[i]? with
  | none => unfold zbB at h; rw [List.getElem?_map,q] at h; cases h
  | some x =>
    rw [zcH q] at h
    cases x with
    | sh => simp at h
    | ow => exact .inl rfl
    | bw => exact .inr rfl
theorem SI.lock {r : Rho} {G : GH} {st : L2.St} {H : Hp} (s : SI X g m r G st H) : SI X (zh4 m r st G H) (zbB m) r G st H where
  gok := s.gok
  old := fun _ _ e => e
  ge := fun _ _ e => e
  gf := fun _ _ => rfl
  lm := by unfold zbB; rw [List.length_map]; exact s.lm
  lr := s.lr
  sh := fun i d h hm => s.sh i d h (zkW hm)
  ow := fun i d h hm => (zhv hm).elim
  bw := fun i d h hm => by
    rcases lockM_bw hm with z | z
    · obtain ⟨a,h1,h2,_⟩ := s.ow i d h z
      exact ⟨_,h1,.inr ⟨a,rfl,h2,h2.ob.isS⟩⟩
    · obtain ⟨v,h1,h2⟩ := s.bw i d h z
      refine ⟨v,h1,?_⟩
      rcases h2 with h2 | ⟨a,e,h2,_⟩
      · exact .inl h2
      · exact .inr ⟨a,e,h2,h2.ob.isS⟩
  dis := fun i j a d e _ _ _ hm => (zhv hm).elim
  lk := fun i o h hm => by
    have h' : (if m[i]? = some Md.ow∨m[i]? = some Md.bw then some ((st[i]?).join,(r[i]?).join) else none) = some o := h
    rw [if_pos (lockM_bw hm)] at h'
    cases h'
    have hi : i < st.length := by
      have := (List.getElem?_eq_some_iff.mp hm).1
      unfold zbB at this
      rw [List.length_map,s.lm] at this; exact this
    refine ⟨?_,fun d hd => by rw [hd]; rfl⟩
    rw [List.getElem?_eq_getElem hi]; rfl
theorem SI.unlock {r r' : Rho} {G G' : GH} {st st' : L2.St} {H H' : Hp} (s : SI X g m r G st H) (s' : SI X (zh4 m r st G H) (zbB m) r' G' st' H') : SI X g m r' G' st' H' := by
  have w : Grow X.K G H G' H' := s'.grown
  have hlk : ∀ (i : Nat),(m[i]? = some Md.ow∨m[i]? = some Md.bw)→st'[i]? = some (st[i]?).join∧∀ d,r'[i]? = some (some d)→r[i]? = some (some d) := fun i hi => by
    have hm : (zbB m)[i]? = some Md.bw := by
      rcases hi with z | z <;> rw [zcH z] <;> simp
    obtain ⟨h1,h2⟩ := s'.lk i ((st[i]?).join,(r[i]?).join) (if_pos hi) hm
    refine ⟨h1,fun d hd => ?_⟩
    have := h2 d hd
    cases q : r[i]? with
    | none => rw [q] at this; cases this
    | some o => rw [q] at this; rw [show o = some d from this]
  have hst : ∀ (i : Nat) v,(m[i]? = some Md.ow∨m[i]? = some Md.bw)→st[i]? = some (some v)→st'[i]? = some (some v) := fun i v hi h => by
    rw [(hlk i hi).1,h]; rfl
  refine ⟨s'.gok,fun a o e => s'.old a o (s.old a o e),fun a d e => s'.ge a d (s.ge a d e),fun a h => ?_,?_,s'.lr,fun i d h hm => ?_,fun i d h hm => ?_,fun i d h hm => ?_,fun i j a d e hij h1 h2 m1 m2 q1 q2 => ?_,fun i o hi hm => ?_⟩
  · have h1 : H a≠none := by
      cases e : g.h0 a with
      | none => exact absurd e h
      | some o => rw [s.old _ _ e]; simp
    rw [w.gf a h1,s.gf a h]
  · have := s'.lm
    unfold zbB at this
    rw [List.length_map] at this; exact this
  · exact s'.sh i d h (by rw [zcH hm]; simp)
  · obtain ⟨a,h1,h2,h3⟩ := s.ow i d ((hlk i (.inl hm)).2 d h) hm
    exact ⟨a,hst i _ (.inl hm) h1,h2.mono w,h3⟩
  · obtain ⟨v,h1,h2⟩ := s.bw i d ((hlk i (.inr hm)).2 d h) hm
    exact ⟨v,hst i _ (.inr hm) h1,h2.grow w⟩
  · have e1 := (hlk i (.inl m1)).2 d h1
    have e2 := (hlk j (.inl m2)).2 e h2
    obtain ⟨b,z1,_,_⟩ := s.ow i d e1 m1
    obtain ⟨c,z2,_,_⟩ := s.ow j e e2 m2
    have y1 := hst i _ (.inl m1) z1
    have y2 := hst j _ (.inl m2) z2
    rw [q1] at y1
    rw [q2] at y2
    cases y1
    cases y2
    exact s.dis i j a d e hij e1 e2 m1 m2 z1 z2
  · obtain ⟨h1,h2⟩ := s.lk i o hi hm
    refine ⟨?_,fun d hd => h2 d ((hlk i (.inr hm)).2 d hd)⟩
    rw [(hlk i (.inr hm)).1,h1]; rfl
theorem zn3 (hp : PassesOwn (model X.prog X.w) X.A X.env X.xe) (hc : X.calm = true) {ft : FT} {fi : FI} (hi : SItC X g m tg iter fi) (hg : ∀ g',SG X g' (zbB m) tg ft (zbB m)) (hb : ∀ g',SSs X g' ro (zbB m) (zbB m) sts s1 (zbB m))
    (hs : ∀ x,foldedSetIterable iter X.env x = pure x := by intro _; rfl) : SS X g ro mb m (.For tg iter sts [] pos) (zcb m fi ft s1) m := by
  have hgA : PG X tg (fun v σ H Q => ∃ g',tG X g' (zbB m) (zbB m) ft v σ H Q) := fun pins s σ H v u Q I r ⟨g',q⟩ => (hg g').2 pins s σ H v u Q I r q
  have hbA : PSs X sts (fun D σ H => ∃ g',tS X g' ro (zbB m) (zbB m) (zbB m) s1 D σ H) := fun pins s σ H D I ⟨g',q⟩ => (hb g').2 pins s σ H D I q
  refine ⟨rfl,PS.imp (zf4 hp hc hi hgA hbA hs) fun D σ H ⟨r,G,si,q⟩ => ⟨r,G,si,zaf (za3 si rfl q) fun ds q J G0 H0 w0 Y => ?_⟩⟩
  have si0 := si.grow w0
  refine ⟨fun i n σ1 H1 => ∃ r1 G1,SI X (zh4 m r σ G0 H0) (zbB m) r1 G1 σ1 H1∧i≤ds.length∧n = ds.length - i∧oTo X g ro m mb G1 D (forF ft s1 (ds.drop i) r1),⟨ds.length,r,G0,si0.lock,Nat.zero_le _,rfl,oTo.gle q w0.ge⟩,?_⟩
  rintro i n σ1 H1 ⟨r1,G1,si1,hi,rfl,q1⟩
  have wg : Grow X.K G0 H0 G1 H1 := si1.grown
  by_cases hlt : i < ds.length
  · have hd : ds.drop i = ds[i]::ds.drop (i + 1) := List.drop_eq_getElem_cons hlt
    rw [hd] at q1
    unfold forF at q1
    refine .inr ⟨Y.go G1 H1 i wg hlt,fun σ' H' => ∃ r' G',SI X (zh4 m r σ G0 H0) (zbB m) r' G' σ' H'∧oTo X g ro m mb G' D (forF ft s1 (ds.drop (i + 1)) r'),fun σ' H' ⟨r',G',si',q'⟩ => ⟨ds.length - (i + 1),by omega,r',G',si',hlt,rfl,q'⟩,fun x H' y => ?_⟩
    obtain ⟨G',w',rv⟩ := Y.yld G1 H1 i x H' ds[i] wg y (List.getElem?_eq_getElem hlt)
    cases eft : ft ds[i] r1 with
    | none => simp only [eft] at q1; exact q1.elim
    | some r2 =>
      simp only [eft] at q1
      refine ⟨zh4 m r σ G0 H0,r1,G',ds[i],si1.grow w',rv,r2,eft,fun σ2 si2 => ⟨zh4 m r σ G0 H0,r2,G',si2,?_⟩⟩
      cases eb : s1 r2 with
      | nx r' => simp only [eb] at q1; exact fun σ3 G3 H3 le3 si3 => ⟨r',G3,si3,oTo.gle q1 (Gle.trans w'.ge le3)⟩
      | ct r' => simp only [eb] at q1; exact fun σ3 G3 H3 le3 si3 => ⟨r',G3,si3,oTo.gle q1 (Gle.trans w'.ge le3)⟩
      | bk r' => simp only [eb] at q1; exact fun σ3 G3 H3 le3 si3 => q1 σ3 G3 H3 (Gle.trans w'.ge le3) (si0.unlock si3)
      | rt d =>
        simp only [eb] at q1
        intro v G2 H2 wr rv2
        refine q1 v G2 H2 (si0.grown.trans wr) ?_
        cases ro with
        | false => exact rv2
        | true =>
          rcases rv2 with ⟨a,e1,e2,e3⟩ | z
          · exact .inl ⟨a,e1,si0.grown.back e2,e3⟩
          · exact .inr z
      | exc x r' => exact fun pins e s' σ3 G3 H3 le3 _ _ ex => (show False from ex).elim
      | stuck => simp only [eb] at q1; exact q1
  · have e : i = ds.length := by omega
    subst e
    rw [List.drop_length] at q1
    exact .inl ⟨Y.stop G1 H1 wg,q1 σ1 G1 H1 (Gle.refl _) (si0.unlock si1)⟩
noncomputable def zbf (m : List Md) (p : FQ) (body : FS) : Nat→FS
  | 0,_ => .stuck
  | n + 1,r => onE m r (p r) fun c => if c = true then (match body r with
      | .nx r' => zbf m p body n r'
      | .ct r' => zbf m p body n r'
      | .bk r' => .nx r'
      | o => o) else .nx r
theorem zgF (n : Nat) (hp : PassesOwn (model X.prog X.w) X.A X.env X.xe) (hc : SQ X g m c p) (hb : SSs X g ro m m sts s1 m) : SS X g ro mb m (.While c sts [] pos) (zbf m p s1 n) m := by
  refine ⟨rfl,PS.imp (zkG hp hc hb.2) fun D σ H ⟨r,G,si,q⟩ => ?_⟩
  refine ⟨fun n σ H => ∃ r G,SI X g m r G σ H∧oTo X g ro m mb G D (zbf m p s1 n r),⟨n,r,G,si,q⟩,?_⟩
  rintro n σ1 H1 ⟨r1,G1,si1,q1⟩
  cases n with
  | zero => exact q1.elim
  | succ n =>
    unfold zbf at q1
    refine ⟨r1,G1,si1,zaf (za3 si1 rfl q1) fun c q2 G2 H2 w2 => ?_⟩
    cases c with
    | false => rw [if_neg Bool.false_ne_true] at q2 ⊢; exact q2 σ1 G2 H2 w2.ge (si1.grow w2)
    | true =>
      rw [if_pos rfl] at q2 ⊢
      refine ⟨fun σ' H' => ∃ r G,SI X g m r G σ' H'∧oTo X g ro m mb G D (zbf m p s1 n r),fun σ' H' h => ⟨n,Nat.lt_succ_self _,h⟩,r1,G2,si1.grow w2,?_⟩
      cases eb : s1 r1 with
      | nx r' => simp only [eb] at q2; exact fun σ3 G3 H3 le3 si3 => ⟨r',G3,si3,oTo.gle q2 (Gle.trans w2.ge le3)⟩
      | ct r' => simp only [eb] at q2; exact fun σ3 G3 H3 le3 si3 => ⟨r',G3,si3,oTo.gle q2 (Gle.trans w2.ge le3)⟩
      | bk r' => simp only [eb] at q2; exact fun σ3 G3 H3 le3 si3 => q2 σ3 G3 H3 (Gle.trans w2.ge le3) si3
      | rt d => simp only [eb] at q2; exact q2
      | exc x r' => simp only [eb] at q2; exact fun pins e s' σ3 G3 H3 le3 => q2 pins e s' σ3 G3 H3 (Gle.trans w2.ge le3)
      | stuck => simp only [eb] at q2; exact q2
noncomputable def asgF (m : List Md) (f : FE) (ft : FT) : FS := fun r => onE m r (f r) fun d => match ft d r with
  | some r' => .nx r'
  | none => .stuck
theorem zqj {ft : FT} (he : SE X g m e f) (hg : SG X g m tg ft m') (hs : swapsWithSole [tg] e pos.line X.env = pure false := by rfl) (hw : swappedStores [tg] e X.env = pure none := by rfl)
    (h1 : (assignEach [tg] X.env).map (·.2) = [assign tg X.env] := by rfl) : SS X g ro mb m (.Assign [tg] e pos) (asgF m f ft) m' := by
  refine ⟨hg.1,PS.imp (zlE he hg.2 hs hw h1) fun D σ H ⟨r,G,si,q⟩ => ⟨r,G,si,zaf (za3 si hg.1 q) fun d q v G' H' w rv => ?_⟩⟩
  cases e1 : ft d r with
  | none => simp only [e1] at q; exact q.elim
  | some r' =>
    simp only [e1] at q
    exact ⟨r,G',d,si.grow w,rv,r',e1,fun σ' si' => q σ' G' H' w.ge si'⟩
end
noncomputable def noX : Res D→Res D
  | .ok d => .ok d
  | _ => .stuck
@[simp] theorem noX_ok (d : D) : noX (.ok d) = .ok d := rfl
inductive ArgsOk (K : PySem.W.Frag) (G : GH) (H : Hp) : List Md→List V→List D→Prop where
  | nil : ArgsOk K G H [] [] []
  | sh {v : V} {d : D} {ms : List Md} {vs : List V} {ds : List D} : RG K G v d→ArgsOk K G H ms vs ds→ArgsOk K G H (.sh::ms) (v::vs) (d::ds)
  | bw {v : V} {d : D} {ms : List Md} {vs : List V} {ds : List D} : RB K G H v d→ArgsOk K G H ms vs ds→ArgsOk K G H (.bw::ms) (v::vs) (d::ds)
section
variable {K : PySem.W.Frag} {G G' : GH} {H H' : Hp}
theorem ArgsOk.mono : ∀ {ms : List Md} {vs : List V} {ds : List D},ArgsOk K G H ms vs ds→Grow K G H G' H'→ArgsOk K G' H' ms vs ds
  | _,_,_,.nil,_ => .nil
  | _,_,_,.sh h t,w => .sh (h.mono w.ge) (t.mono w)
  | _,_,_,.bw h t,w => .bw (h.mono w) (t.mono w)
theorem ArgsOk.len {ms : List Md} {vs : List V} {ds : List D} (h : ArgsOk K G H ms vs ds) : vs.length = ms.length∧ds.length = ms.length := by
  induction h with
  | nil => exact ⟨rfl,rfl⟩
  | sh h t ih => exact ⟨congrArg (· + 1) ih.1,congrArg (· + 1) ih.2⟩
  | bw h t ih => exact ⟨congrArg (· + 1) ih.1,congrArg (· + 1) ih.2⟩
theorem ArgsOk.app {dvs : List V} {dds : List D} (hs : Paired Scl dvs dds) : ∀ {ms : List Md} {vs : List V} {ds : List D},ArgsOk K G H ms vs ds→ArgsOk K G H (ms++List.replicate dds.length .sh) (vs++dvs) (ds++dds)
  | _,_,_,.nil => by
    induction hs with
    | nil => exact .nil
    | cons h t ih => exact .sh (.scl h) ih
  | _,_,_,.sh h t => .sh h (t.app hs)
  | _,_,_,.bw h t => .bw h (t.app hs)
theorem ArgsOk.get : ∀ {ms : List Md} {vs : List V} {ds : List D} {i : Nat} {d : D},ArgsOk K G H ms vs ds→ds[i]? = some d→∃ v,vs[i]? = some v∧((ms[i]? = some .sh∧RG K G v d)∨(ms[i]? = some .bw∧RB K G H v d))
  | _,_,_,_,_,.nil,e => by simp at e
  | _,_,_,0,_,.sh h t,e => by simp at e; subst e; exact ⟨_,rfl,.inl ⟨rfl,h⟩⟩
  | _,_,_,0,_,.bw h t,e => by simp at e; subst e; exact ⟨_,rfl,.inr ⟨rfl,h⟩⟩
  | _,_,_,i + 1,d,.sh h t,e => by
    obtain ⟨v,h1,h2⟩ := t.get (i := i) (d := d) (by simpa using e)
    exact ⟨v,by simpa using h1,by simpa using h2⟩
  | _,_,_,i + 1,d,.bw h t,e => by
    obtain ⟨v,h1,h2⟩ := t.get (i := i) (d := d) (by simpa using e)
    exact ⟨v,by simpa using h1,by simpa using h2⟩
end
noncomputable def spM (K : PySem.W.Frag) (ro : Bool) (ms : List Md) (F : List D→Res D) : Sp := fun vs H Q _ => ∃ G ds,GOk K G H∧ArgsOk K G H ms vs ds∧fin (F ds) (fun d => ∀ v G' H',Grow K G H G' H'→RV ro K H G' H' v d→Q v H') fun _ => False
noncomputable def outR (ro : Bool) : Out→Res D
  | .nx _ => if ro = true then .stuck else .ok .non
  | .rt d => .ok d
  | .exc x _ => .exc x
  | _ => .stuck
noncomputable def zar (n : Nat) (ds : List D) : Rho := ds.map some++List.replicate (n - ds.length) none
noncomputable def zej (n : Nat) (ms : List Md) : List Md := ms++List.replicate (n - ms.length) .sh
section
variable {P : Program} {w : World} {K : PySem.W.Frag} {mg : Str → Option Value} {base : Heap}
theorem zkq {X : Cx} {N : List Str} {ms : List Md} {vs : List V} {ds : List D} {G : GH} {H : Hp} (gk : GOk X.K G H) (rs : ArgsOk X.K G H ms vs ds) (hn : ms.length≤N.length) : SI X ⟨G,H,fun _ => none⟩ (zej N.length ms) (zar N.length ds) G (L2.start N vs) H := by
  obtain ⟨l1,l2⟩ := rs.len
  have e1 : (L2.start N vs).length = N.length := by unfold L2.start; rw [List.length_append,List.length_map,List.length_replicate]; omega
  have e2 : (zar N.length ds).length = N.length := by unfold zar; rw [List.length_append,List.length_map,List.length_replicate]; omega
  have e3 : (zej N.length ms).length = N.length := by unfold zej; rw [List.length_append,List.length_replicate]; omega
  have at_ : ∀ (i : Nat) d,(zar N.length ds)[i]? = some (some d)→i < ms.length∧(zej N.length ms)[i]? = ms[i]?∧∃ v,(L2.start N vs)[i]? = some (some v)∧((ms[i]? = some .sh∧RG X.K G v d)∨(ms[i]? = some .bw∧RB X.K G H v d)) := fun i d h => by
    unfold zar at h
    by_cases hi : i < ds.length
    · rw [List.getElem?_append_left (by simpa using hi),List.getElem?_map] at h
      have hd : ds[i]? = some d := by
        cases z : ds[i]? with
        | none => rw [z] at h; cases h
        | some d' => rw [z] at h; cases h; rfl
      obtain ⟨v,hv,rv⟩ := rs.get hd
      refine ⟨by omega,?_,v,?_,rv⟩
      · unfold zej
        rw [List.getElem?_append_left (by omega)]
      · unfold L2.start
        rw [List.getElem?_append_left (by rw [List.length_map]; omega),List.getElem?_map,hv]
        rfl
    · rw [List.getElem?_append_right (by simpa using hi),List.getElem?_replicate] at h
      split at h <;> cases h
  refine ⟨gk,fun _ _ e => e,fun _ _ e => e,fun _ _ => rfl,by rw [e3,e1],by rw [e1,e2],fun i d h hm => ?_,fun i d h hm => ?_,fun i d h hm => ?_,fun i j a d e _ h _ hm => ?_,fun i o h => nomatch h⟩
  · obtain ⟨_,hq,v,h1,h2⟩ := at_ i d h
    rw [hq] at hm
    rcases h2 with ⟨_,h2⟩ | ⟨h3,h2⟩
    · exact ⟨v,h1,h2⟩
    · rw [hm] at h3; cases h3
  · obtain ⟨_,hq,v,h1,h2⟩ := at_ i d h
    rw [hq] at hm
    rcases h2 with ⟨h3,h2⟩ | ⟨h3,h2⟩ <;> rw [hm] at h3 <;> cases h3
  · obtain ⟨_,hq,v,h1,h2⟩ := at_ i d h
    rw [hq] at hm
    rcases h2 with ⟨h3,h2⟩ | ⟨h3,h2⟩
    · rw [hm] at h3; cases h3
    · refine ⟨v,h1,?_⟩
      rcases h2 with h2 | ⟨a,rfl,h2⟩
      · exact .inl h2
      · exact .inr ⟨a,rfl,h2,h2.ob.isS⟩
  · obtain ⟨_,hq,v,h1,h2⟩ := at_ i d h
    rw [hq] at hm
    rcases h2 with ⟨h3,h2⟩ | ⟨h3,h2⟩ <;> rw [hm] at h3 <;> cases h3
theorem zlr {X : Cx} {ro : Bool} {fs : FS} {m' : List Md} {G : GH} {H : Hp} {r : Rho} {Q : VK} (q : fin (outR ro (fs r)) (fun d => ∀ v G' H',Grow X.K G H G' H'→RV ro X.K H G' H' v d→Q v H') fun _ => False) :
    oTo X ⟨G,H,fun _ => none⟩ ro m' [] G { nx := fun _ H' => Q .non H',rt := Q } (fs r) := by
  cases e : fs r with
  | nx r' =>
    rw [e] at q
    cases ro with
    | false => exact fun σ' G' H' _ si => q .non G' H' si.grown (.scl .non)
    | true => exact q.elim
  | rt d => rw [e] at q; exact fun v G' H' wg rv => q v G' H' wg rv
  | bk r' => rw [e] at q; exact q.elim
  | ct r' => rw [e] at q; exact q.elim
  | exc x r' => rw [e] at q; exact q.elim
  | stuck => rw [e] at q; exact q
theorem zl1 {x qual : Str} {st : Stmt} {f : Addr} {fd : FuncData} {N ps : List Str} {k : Nat} {ro : Bool} {ms : List Md} {fs : FS} {m' : List Md} (F : Fun K x qual st f fd) (S : FnScope N ps (zab st)) (hms : ms.length = ps.length)
    (hbody : ∀ (cdv : Value) (A : Around) (outer : List Env) (s : Shared) (H : Hp) (g : GE) (E : XK),Room k (A.deeper (envOfC qual (zab st) s.heap.objs.size f cdv)) →
      SSs (cxOf CX0 P w K mg base N qual (zab st) f cdv A outer s H E).nox g ro [] (zej N.length ms) (zbU st) fs m') :
    FnOk P w K mg base CX0 (k + 1) f fd ps (spM K ro ms fun ds => outR ro (fs (zar N.length ds))) := by
  refine F.ok S (fun vs H Q E ⟨G,ds,gk,rs,q⟩ => rs.len.1.trans hms) fun cdv A outer s H vs Q E hr h => ?_
  obtain ⟨G,ds,gk,rs,q⟩ := h
  have hpl : ps.length≤N.length := by have := congrArg List.length S.pre; rw [List.length_take] at this; omega
  exact ⟨_,(hbody cdv A outer s H ⟨G,H,fun _ => none⟩ E hr).2,zar N.length ds,G,zkq gk rs (by omega),zlr q⟩
end
section
variable {X : Cx} {g : GE} {m : List Md} {e : Expr} {f : FE} {es : List Expr} {fl : Rho → Res (List D)} {k : Nat} {fa : Addr} {fd : FuncData} {ps : List Str} {F : List D → Res D} {dvs : List V} {ds : List Value} {dds : List D} {x : Str} {p pos : Pos} {ms : List Md}
noncomputable def tLM (X : Cx) (g : GE) (m : List Md) (ms : List Md) (f : Rho→Res (List D)) : TA := fun σ H Q => ∃ r G,SI X g m r G σ H∧fin (f r) (fun ds => ∀ vs G' H',Grow X.K G H G' H'→ArgsOk X.K G' H' ms vs ds→Q vs H') (XW X σ G H)
noncomputable def SAM (X : Cx) (g : GE) (m : List Md) (es : List Expr) (ms : List Md) (f : Rho→Res (List D)) : Prop := PA X es (tLM X g m ms f)
theorem zaK : SAM X g m [] [] lNil := PA.imp zdT fun σ H Q ⟨r,G,si,k⟩ => k [] G H (Grow.refl si.gok) .nil
theorem m_sh (ha : SE X g m e f) (hr : SAM X g m es ms fl) (hs : starEach (e::es) X.env = (false,eval e X.env)::starEach es X.env := by rfl) : SAM X g m (e::es) (.sh::ms) (zac f fl) := by
  refine PA.imp (zbR ha hr hs) fun σ H Q ⟨r,G,si,k⟩ => ⟨r,G,si,zaf (zae k) fun d k1 v G1 H1 w1 r1 => ⟨r,G1,si.grow w1,?_⟩⟩
  exact zaI (zae k1) w1 fun ds z vs G2 H2 w2 r2 => z (v::vs) G2 H2 (w1.trans w2) (.sh (r1.mono w2.ge) r2)
theorem m_bw (ha : SB X g m e f) (hr : SAM X g m es ms fl) (hs : starEach (e::es) X.env = (false,eval e X.env)::starEach es X.env := by rfl) : SAM X g m (e::es) (.bw::ms) (zac f fl) := by
  refine PA.imp (zbR ha hr hs) fun σ H Q ⟨r,G,si,k⟩ => ⟨r,G,si,zaf (zae k) fun d k1 v G1 H1 w1 r1 => ⟨r,G1,si.grow w1,?_⟩⟩
  exact zaI (zae k1) w1 fun ds z vs G2 H2 w2 r2 => z (v::vs) G2 H2 (w1.trans w2) (.bw (r1.mono w2) r2)
noncomputable def zau (fl : Rho→Res (List D)) (dds : List D) (F : List D→Res D) : FE := fun r => (fl r).bind fun ds => noX (F (ds++dds))
theorem zgs {ro : Bool} {vs : List V} {zs : List D} {G : GH} {H : Hp} {Q : VK} (gk : GOk X.K G H) (rs : ArgsOk X.K G H ms vs zs) (hsc : Paired Scl dvs dds) (q : fin (noX (F (zs++dds))) (fun d => ∀ v G' H',Grow X.K G H G' H'→RV ro X.K H G' H' v d→Q v H') fun _ => False) :
    spM X.K ro (ms++List.replicate dds.length .sh) F (vs++dvs) H Q E0 := by
  refine ⟨G,zs++dds,gk,rs.app hsc,?_⟩
  cases e : F (zs++dds) with
  | ok d => rw [e] at q; exact q
  | exc x => rw [e] at q; exact q.elim
  | stuck => rw [e] at q; exact q.elim
theorem zgk {α : Type} {r : Res α} {q : α→Prop} {x : D→Prop} (h : fin r q x) (hr : ∀ e,r≠.exc e) : fin r q fun _ => False := by
  cases r with
  | ok a => exact h
  | exc e => exact absurd rfl (hr e)
  | stuck => exact h
theorem zlS (r : Res D) (e : D) : noX r≠.exc e := by cases r <;> simp [noX]
theorem zn5 (G1 : FnOk X.prog X.w X.K X.mg X.base CX0 k fa fd ps (spM X.K false (ms++List.replicate dds.length .sh) F)) (hr : Room k X.A) (hg : Gl X x) (hm : X.mg x = some (.ref fa)) (hk : PySem.W.keepIn X.K (.ref fa) = true) (hb : zfK X.K fd ps ds) (hd : Vals dvs ds) (hsc : Paired Scl dvs dds)
    (ha : SAM X g m (e::es) ms fl) (hdb : (x == ("__debug__" : Str)) = false := by decide) (he : starEach (e::es) X.env = (false,eval e X.env)::starEach es X.env := by rfl) (hpl : (backTo pos (starEach es X.env)).any (·.1) = false := by rfl) :
    SE X g m (.Call (.Name x p) (e::es) [] pos) (zau fl dds F) := by
  refine PE.imp (zi1 G1 hr hg hm hk hb hd zoF ha hdb he hpl) fun σ H Q ⟨r,G,si,q⟩ => ⟨r,G,si,?_⟩
  cases ez : fl r with
  | ok zs =>
    unfold zau at q
    rw [ez] at q
    intro vs G' H' w' rs
    exact zgs w'.ok rs hsc (zaf (zgk q (zlS _)) fun d k v G2 H2 w2 rv => k v G2 H2 (w'.trans w2) rv)
  | exc x => unfold zau at q; rw [ez] at q; exact q
  | stuck => unfold zau at q; rw [ez] at q; exact q
noncomputable def ownF (f : FE) : FE := fun r => (f r).bind fun d => match d with
  | .non => .stuck
  | d => .ok d
theorem zoR (G1 : FnOk X.prog X.w X.K X.mg X.base CX0 k fa fd ps (spM X.K true (ms++List.replicate dds.length .sh) F)) (hr : Room k X.A) (hg : Gl X x) (hm : X.mg x = some (.ref fa)) (hk : PySem.W.keepIn X.K (.ref fa) = true) (hb : zfK X.K fd ps ds) (hd : Vals dvs ds) (hsc : Paired Scl dvs dds)
    (ha : SAM X g m (e::es) ms fl) (hdb : (x == ("__debug__" : Str)) = false := by decide) (he : starEach (e::es) X.env = (false,eval e X.env)::starEach es X.env := by rfl) (hpl : (backTo pos (starEach es X.env)).any (·.1) = false := by rfl) :
    SO X g m (.Call (.Name x p) (e::es) [] pos) (ownF (zau fl dds F)) := by
  refine PE.imp (zi1 G1 hr hg hm hk hb hd zoF ha hdb he hpl) fun σ H Q ⟨r,G,si,q⟩ => ⟨r,G,si,?_⟩
  cases ez : fl r with
  | ok zs =>
    have q := zae q
    unfold zau at q
    rw [ez] at q
    intro vs G' H' w' rs
    refine zgs w'.ok rs hsc (zaf (zgk q (zlS _)) fun d k v G2 H2 w2 rv => ?_)
    rcases rv with ⟨a,rfl,hn,ho⟩ | ⟨rfl,rfl⟩
    · cases d with
      | non => exact k.elim
      | _ => exact k a G2 H2 (w'.trans w2) (w'.back hn) ho
    · exact k.elim
  | exc x => have q := zae q; unfold zau at q; rw [ez] at q; exact q
  | stuck => have q := zae q; unfold zau at q; rw [ez] at q; exact q
end
end DL
end
section
namespace DL
open PySem PySem.Spec PyProof.Rows L2
theorem zli {env : Env} : ∀ (l : List (Str × NameKind)) (cs : List (Str × Addr)),(∀ x∈l,x.2 = .free→∃ c,env.cells.lookup x.1 = some c)→(∀ x c,cs.lookup x = some c→env.cells.lookup x = some c) →
    ∃ cl,(forIn l cs (fun (x : Str × NameKind) (cs : List (Str × Addr)) => if (x.2 == NameKind.free) = true then (do let a ← cellOf env x.1; pure (ForInStep.yield ((x.1,a)::cs))) else pure (ForInStep.yield cs)) : Sem (List (Str × Addr))) = pure cl ∧
      (∀ x c,cl.lookup x = some c→env.cells.lookup x = some c)∧(∀ x,(x,NameKind.free)∈l→∃ c,cl.lookup x = some c)∧(∀ x c,cs.lookup x = some c→∃ c',cl.lookup x = some c') := by
  intro l
  induction l with
  | nil => intro cs _ h; exact ⟨cs,rfl,h,fun x hx => (by cases hx),fun x c h => ⟨c,h⟩⟩
  | cons y l ih =>
    intro cs hf hc
    obtain ⟨n,k⟩ := y
    by_cases hk : k = .free
    · subst hk
      obtain ⟨c,ec⟩ := hf (n,.free) List.mem_cons_self rfl
      have e1 : cellOf env n = pure c := by unfold cellOf; rw [ec]
      have hc' : ∀ x c',((n,c)::cs).lookup x = some c'→env.cells.lookup x = some c' := fun x c' h => by
        rw [List.lookup_cons] at h
        cases q : x == n with
        | true => rw [q] at h; cases h; rw [eq_of_beq q]; exact ec
        | false => rw [q] at h; exact hc x c' h
      obtain ⟨cl,e2,h1,h2,h3⟩ := ih ((n,c)::cs) (fun x hx => hf x (List.mem_cons_of_mem _ hx)) hc'
      refine ⟨cl,?_,h1,fun x hx => ?_,fun x c' h => ?_⟩
      · rw [← e2]
        rw [List.forIn_cons]
        show (cellOf env n >>= fun a => pure (ForInStep.yield ((n,a)::cs))) >>= _ = _
        rw [e1]
        rfl
      · rcases List.mem_cons.mp hx with z | z
        · cases z; exact h3 n c (by rw [List.lookup_cons]; simp)
        · exact h2 x z
      · cases q : x == n with
        | true => exact h3 x c (by rw [List.lookup_cons,q])
        | false => exact h3 x c' (by rw [List.lookup_cons,q]; exact h)
    · obtain ⟨cl,e2,h1,h2,h3⟩ := ih cs (fun x hx => hf x (List.mem_cons_of_mem _ hx)) hc
      have hb : (k == NameKind.free) = false := by simpa using hk
      refine ⟨cl,?_,h1,fun x hx => ?_,h3⟩
      · rw [← e2,List.forIn_cons]
        simp only [hb,Bool.false_eq_true,if_false]
        rfl
      · rcases List.mem_cons.mp hx with z | z
        · cases z; exact absurd rfl hk
        · exact h2 x z
theorem zic {scope : Scope} {env : Env} (hf : ∀ x∈scope.names,x.2 = .free→∃ c,env.cells.lookup x.1 = some c) :
    ∃ cl,closureFor scope env = pure cl∧(∀ x c,cl.lookup x = some c→env.cells.lookup x = some c)∧(∀ x,(x,NameKind.free)∈scope.names→∃ c,cl.lookup x = some c) := by
  obtain ⟨cl,e,h1,h2,_⟩ := zli scope.names [] hf (fun x c h => by cases h)
  refine ⟨cl,?_,h1,h2⟩
  have e0 : closureFor scope env = ((forIn scope.names ([] : List (Str × Addr)) (fun (x : Str × NameKind) (cs : List (Str × Addr)) => if (x.2 == NameKind.free) = true then (do let a ← cellOf env x.1; pure (ForInStep.yield ((x.1,a)::cs))) else pure (ForInStep.yield cs)) : Sem (List (Str × Addr))) >>= fun cs => pure cs) := rfl
  rw [e0,e]
  rfl
theorem zc6 {f : Str→NameKind→NameKind} : ∀ (l : List (Str × NameKind)) (x : Str),(l.map fun y => (y.1,f y.1 y.2)).lookup x = (l.lookup x).map (f x)
  | [],x => rfl
  | (n,k)::l,x => by
    rw [List.map_cons,List.lookup_cons,List.lookup_cons]
    cases q : x == n with
    | true => simp [eq_of_beq q]
    | false => exact zc6 l x
noncomputable def relK (env : Env) (n : Str) (k : NameKind) : NameKind := if (k == .free && env.scope.kind == .function && env.kindOf n == some .cell) = true then .cell else k
theorem zc2 (scope : Scope) (env : Env) (x : Str) : (relabel scope env).names.lookup x = (scope.names.lookup x).map (relK env x) := by
  rw [← zc6]
  unfold relabel
  congr 1
  apply List.map_congr_left
  intro y _
  obtain ⟨n,k⟩ := y
  show (if (k == NameKind.free && env.scope.kind == .function && env.kindOf n == some .cell) = true then (n,NameKind.cell) else (n,k)) = (n,relK env n k)
  unfold relK
  split <;> rfl
structure CompSc (X : Cx) (scope : Scope) (N' : List Str) (nl : Nat) (cap : List Nat) : Prop where
  kind : scope.kind = .function
  nocell : ∀ y∈scope.names,y.2≠.cell
  names : ∀ y∈scope.names,y.2 = .local→scope.names.lookup y.1 = some .local
  freeK : ∀ y∈scope.names,y.2 = .free→X.env.kindOf y.1 = some .cell∨X.env.kindOf y.1 = some .free
  len : N'.length = nl + cap.length
  capN : ∀ j,j < cap.length→∃ x,N'[nl + j]? = some x∧X.N[cap.getD j 0]? = some x∧scope.names.lookup x = some .free
noncomputable def cxC (X : Cx) (s₀ : Shared) (H₀ : Hp) (N' : List Str) (scope : Scope) (cl : List (Str × Addr)) (C : Addr) (fp : List Addr) : Cx where
  prog := X.prog
  w := X.w
  K := X.K
  mg := X.mg
  base := X.base
  A := X.A
  N := N'
  s₀ := s₀
  H₀ := H₀
  env := compEnvC scope cl C X.env
  outer := X.stack
  stack := X.stack
  ex := fp
  fn := fun _ => false
  calm := X.calm
  pn := []
  xe := fun _ _ => False
section
variable {X : Cx} {pins : List (Addr × Obj)} {σ : L2.St} {H : Hp} {s : Shared} {scope : Scope} {N' : List Str} {nl : Nat} {cap : List Nat} {cl : List (Str × Addr)} {C : Addr} {fp : List Addr}
theorem zpJ (I : Inv X pins σ H s) (sc : CompSc X scope N' nl cap) (h1 : ∀ x c,cl.lookup x = some c→X.env.cells.lookup x = some c) (h2 : ∀ x,(x,NameKind.free)∈scope.names→∃ c,cl.lookup x = some c)
    (hf : ∀ b∈fp,FpOk X pins H b∧b < s.heap.objs.size) (hC : s.heap.objs.size≤C) : (cxC X s H N' scope cl C fp).Ok where
  mod := I.ok.mod
  kind := sc.kind
  glob := I.ok.glob
  blt := I.ok.blt
  above := hC
  inj := fun x y c a b => I.ok.inj x y c (h1 x c a) (h1 y c b)
  has := fun x hk => by
    have hk' : (scope.names.lookup x).map (relK X.env x) = some .cell∨(scope.names.lookup x).map (relK X.env x) = some .free := by
      rw [← zc2]; exact hk
    cases e : scope.names.lookup x with
    | none => rw [e] at hk'; rcases hk' with z | z <;> cases z
    | some k =>
      have hm := PySem.mem_of_lookup e
      have kf : k = .free := by
        rw [e] at hk'
        have hk2 : relK X.env x k = .cell∨relK X.env x k = .free := by
          rcases hk' with z | z
          · exact .inl (Option.some.inj z)
          · exact .inr (Option.some.inj z)
        unfold relK at hk2
        split at hk2
        · rename_i hc
          simp only [Bool.and_eq_true,beq_iff_eq] at hc
          exact hc.1.1
        · rcases hk2 with z | z
          · exact absurd z (sc.nocell _ hm)
          · exact z
      subst kf
      exact h2 x hm
  cab := fun x c h => by cases h
  hd := I.ok.hd
  frames := I.ok.frames
  stk := .inl rfl
  exf := fun b hb => ⟨Nat.ne_of_lt (Nat.lt_of_lt_of_le (hf b hb).2 hC),fun x c e => (hf b hb).1.2.2.2.2.1 x c (h1 x c e)⟩
  bs := I.bs
  bsz := Nat.le_trans I.ok.bsz I.sz
  noex := fun b o e hb => by
    obtain ⟨_,_,_,hx,_⟩ := (hf b hb).1
    rcases hx with z | z
    · exact I.ok.noex b o e z
    · exact absurd (Nat.lt_of_lt_of_le (Heap.lt_size e) (Nat.le_trans I.ok.bsz z)) (Nat.lt_irrefl _)
  exfs := fun b hb hfs => by
    obtain ⟨_,q1,q2,_⟩ := (hf b hb).1
    rcases List.mem_cons.mp (I.stkSub b hfs) with z | z
    · exact q1 z
    · exact q2 z
  funs := I.stack
  frf := I.stkFree
end
noncomputable def zdh (ft : FT) (q : FQ) (fe : FE) (r0 : Rho) : List D→Res (List D)
  | [] => .ok []
  | d::ds => (opt (ft d r0)).bind fun r1 => (q r1).bind fun c => if c = true then (fe r1).bind fun v => (zdh ft q fe r0 ds).bind fun vs => .ok (v::vs) else zdh ft q fe r0 ds
noncomputable def capR (nl : Nat) (cap : List Nat) (r : Rho) : Rho := List.replicate nl none++cap.map fun i => r.getD i none
noncomputable def capM (nl : Nat) (cap : List Nat) (m : List Md) : List Md := List.replicate nl Md.sh++cap.map fun i => if m.getD i Md.sh = Md.sh then Md.sh else Md.bw
noncomputable def capS (nl : Nat) (cap : List Nat) (st : L2.St) : L2.St := List.replicate nl none++cap.map fun i => st.getD i none
theorem zeE {α : Type} {nl : Nat} {cap : List Nat} {u : α} {h : Nat→α} {i : Nat} (hi : nl≤i) : (List.replicate nl u++cap.map h)[i]? = (cap[i - nl]?).map h := by
  rw [List.getElem?_append_right (by simpa using hi),List.length_replicate,List.getElem?_map]
section
variable {X : Cx} {pins : List (Addr × Obj)} {σ : L2.St} {H H' : Hp} {s : Shared} {scope : Scope} {N' : List Str} {nl : Nat} {cap : List Nat} {cl : List (Str × Addr)} {C : Addr} {fp : List Addr} {g : GE} {G G' : GH} {m : List Md} {r : Rho}
theorem zqO (si : SI X g m r G σ H) (w : Grow X.K G H G' H') : SI (cxC X s H N' scope cl C fp) ⟨G,H,fun _ => none⟩ (capM nl cap m) (capR nl cap r) G' (capS nl cap σ) H' := by
  have lens : (capM nl cap m).length = nl + cap.length := by simp [capM]
  have lens2 : (capR nl cap r).length = nl + cap.length := by simp [capR]
  have lens3 : (capS nl cap σ).length = nl + cap.length := by simp [capS]
  have rget : ∀ (i : Nat) d,(capR nl cap r)[i]? = some (some d)→nl≤i∧∃ j,cap[i - nl]? = some j∧r[j]? = some (some d) := fun i d h => by
    by_cases hi : i < nl
    · unfold capR at h
      rw [List.getElem?_append_left (by simpa using hi),List.getElem?_replicate] at h
      split at h <;> cases h
    · refine ⟨by omega,?_⟩
      unfold capR at h
      rw [zeE (by omega)] at h
      cases e : cap[i - nl]? with
      | none => rw [e] at h; cases h
      | some j =>
        rw [e] at h
        refine ⟨j,rfl,?_⟩
        have h' : r.getD j none = some d := Option.some.inj h
        rw [List.getD_eq_getElem?_getD] at h'
        cases e2 : r[j]? with
        | none => rw [e2] at h'; cases h'
        | some o => rw [e2] at h'; rw [show o = some d from h']
  have mget : ∀ (i j : Nat) md,nl≤i→cap[i - nl]? = some j→(capM nl cap m)[i]? = some md→md = if m.getD j Md.sh = Md.sh then Md.sh else Md.bw := fun i j md hi hj h => by
    unfold capM at h
    rw [zeE hi,hj] at h
    exact (Option.some.inj h).symm
  have sget : ∀ (i j : Nat) v,nl≤i→cap[i - nl]? = some j→σ[j]? = some (some v)→(capS nl cap σ)[i]? = some (some v) := fun i j v hi hj h => by
    unfold capS
    rw [zeE hi,hj]
    show some (σ.getD j none) = _
    rw [List.getD_eq_getElem?_getD,h]
    rfl
  have mj : ∀ (j : Nat) d,r[j]? = some (some d)→m[j]? = some (m.getD j Md.sh) := fun j d h => by
    have hl : j < m.length := by
      have := (List.getElem?_eq_some_iff.mp h).1
      rw [si.lr,← si.lm] at this; exact this
    rw [List.getD_eq_getElem?_getD,List.getElem?_eq_getElem hl]
    rfl
  refine ⟨w.ok,w.he,w.ge,w.gf,by rw [lens,lens3],by rw [lens2,lens3],fun i d h hm => ?_,fun i d h hm => ?_,fun i d h hm => ?_,fun i j a d e _ h _ hm => ?_,fun i o h => nomatch h⟩
  · obtain ⟨hi,j,hj,hr⟩ := rget i d h
    have e := mget i j _ hi hj hm
    have hsh : m.getD j Md.sh = Md.sh := by
      by_cases z : m.getD j Md.sh = Md.sh
      · exact z
      · rw [if_neg z] at e; cases e
    obtain ⟨v,h1,h2⟩ := si.sh j d hr (by rw [mj j d hr,hsh])
    exact ⟨v,sget i j v hi hj h1,h2.mono w.ge⟩
  · obtain ⟨hi,j,hj,hr⟩ := rget i d h
    have e := mget i j _ hi hj hm
    split at e <;> cases e
  · obtain ⟨hi,j,hj,hr⟩ := rget i d h
    have e := mget i j _ hi hj hm
    have hsh : m.getD j Md.sh≠Md.sh := by
      intro z
      rw [if_pos z] at e; cases e
    have hmj := mj j d hr
    cases q : m.getD j Md.sh with
    | sh => exact absurd q hsh
    | ow =>
      rw [q] at hmj
      obtain ⟨a,h1,h2,_⟩ := si.ow j d hr hmj
      exact ⟨_,sget i j _ hi hj h1,.inr ⟨a,rfl,h2.mono w,h2.ob.isS⟩⟩
    | bw =>
      rw [q] at hmj
      obtain ⟨v,h1,h2⟩ := si.bw j d hr hmj
      refine ⟨v,sget i j _ hi hj h1,?_⟩
      rcases h2 with h2 | ⟨a,rfl,h2,_⟩
      · exact .inl (h2.mono w.ge)
      · exact .inr ⟨a,rfl,h2.mono w,h2.ob.isS⟩
  · obtain ⟨hi,j',hj,hr⟩ := rget i d h
    have e := mget i j' _ hi hj hm
    split at e <;> cases e
theorem zpK (I : Inv X pins σ H s) (ok : (cxC X s H N' scope cl C fp).Ok) (sc : CompSc X scope N' nl cap) (h1 : ∀ x c,cl.lookup x = some c→X.env.cells.lookup x = some c) (h2 : ∀ x,(x,NameKind.free)∈scope.names→∃ c,cl.lookup x = some c)
    (hN : X.N.Nodup) {s4 : Shared} {H4 : Hp} {mc : Str→Option Value} (hos : s4.os = s.os) (hb : AllBare s4.gens) (kp : ∀ b o,s.heap.get? b = some o→s4.heap.get? b = some o) (hns : s4.heap.Ns C mc) (hC : s.heap.objs.size≤C) (hHC : H4 C = none)
    (hH : ∀ b,H b = none→b < s.heap.objs.size→H4 b = none) (un : Un (frs X.stack) fp H H4 s.heap s4.heap) (hok : HOk X.prog X.w H4 s4.heap) : Inv (cxC X s H N' scope cl C fp) [] (capS nl cap σ) H4 s4 := by
  refine ⟨ok,hos,hb,un,⟨mc,hns,fun i x v e1 e2 e3 => ?_⟩,fun x c e => ?_,hHC,fun x c e => ?_,fun p hp => absurd (show p∈([] : List (Addr × Obj)) from hp) (by simp),hok,?_⟩
  · have hi : nl≤i := by
      by_cases z : i < nl
      · unfold capS at e2
        rw [List.getElem?_append_left (by simpa using z),List.getElem?_replicate] at e2
        split at e2 <;> cases e2
      · omega
    unfold capS at e2
    rw [zeE hi] at e2
    cases ej : cap[i - nl]? with
    | none => rw [ej] at e2; cases e2
    | some j =>
      rw [ej] at e2
      have hj : i - nl < cap.length := (List.getElem?_eq_some_iff.mp ej).1
      obtain ⟨x',q1,q2,q3⟩ := sc.capN (i - nl) hj
      have ed : cap.getD (i - nl) 0 = j := by rw [List.getD_eq_getElem?_getD,ej]; rfl
      rw [ed] at q2
      have ei : nl + (i - nl) = i := by omega
      rw [ei] at q1
      have e1' : N'[i]? = some x := e1
      rw [q1] at e1'
      have ex : x' = x := Option.some.inj e1'
      subst ex
      have hv : σ[j]? = some (some v) := by
        have z : σ.getD j none = some v := Option.some.inj e2
        rw [List.getD_eq_getElem?_getD] at z
        cases q : σ[j]? with
        | none => rw [q] at z; cases z
        | some o => rw [q] at z; rw [show o = some v from z]
      have hfree := PySem.mem_of_lookup q3
      have kX := sc.freeK _ hfree rfl
      obtain ⟨mx,hnx,hl⟩ := I.loc
      obtain ⟨u,ru,lk⟩ := hl j x' v q2 hv (.inr kX)
      refine ⟨u,ru,.inr ?_⟩
      obtain ⟨c,ec⟩ := h2 x' hfree
      have hkk : Env.kindOf (cxC X s H N' scope cl C fp).env x' = some .cell∨Env.kindOf (cxC X s H N' scope cl C fp).env x' = some .free := by
        have z : (relabel scope X.env).names.lookup x' = some (relK X.env x' .free) := by rw [zc2,q3]; rfl
        show (relabel scope X.env).names.lookup x' = _∨(relabel scope X.env).names.lookup x' = _
        rw [z]
        unfold relK
        split
        · exact .inl rfl
        · exact .inr rfl
      refine ⟨hkk,c,ec,?_⟩
      rcases lk with ⟨k,_⟩ | ⟨_,c',ec',hcell⟩
      · rcases kX with z | z <;> rw [k] at z <;> cases z
      · rw [h1 x' c ec] at ec'
        cases ec'
        obtain ⟨o,ho,hd⟩ := hcell
        exact ⟨o,kp c o ho,hd⟩
  · obtain ⟨v,o,ho,hd⟩ := I.cell x c (h1 x c e)
    exact ⟨v,o,kp c o ho,hd⟩
  · obtain ⟨v,o,ho,hd⟩ := I.cell x c (h1 x c e)
    exact hH c (I.freeC x c (h1 x c e)) (Heap.lt_size ho)
  · show (capS nl cap σ).length = N'.length
    rw [sc.len]
    simp [capS]
end
end DL
end
section
namespace DL
open PySem PySem.Spec PyProof.Rows L2
section
variable {prog : Program} {w : World} {A : Around} {R : Result → Shared → Prop} {s : Shared}
theorem znk {elt target iter : Expr} {ifs : List Expr} {scope : Scope} {pos : Pos} {it acc : Value} {env : Env} (I : Nat→Shared→Prop)
    (turn : ∀ n s,I n s→wpAny (model prog w) A (pyNext it) (fun r s1 => match r with
      | none => R (.ok .next) s1
      | some v => wpAny (model prog w) A (letOwnedTupleGo target it v) (fun _ s1' => wpAny (model prog w) A (assign target env v) (fun _ s2 =>
          wpAny (model prog w) A (forIn ifs true fun c r => if r = true then do let ok ← isTrue c env (eval c env); pure (ForInStep.yield ok) else pure (ForInStep.yield r)) (fun ok s3 =>
            if ok = true then wpAny (model prog w) A (eval elt env) (fun x s4 =>
              wpAny (model prog w) A (call (.builtin "list.append") [acc,x]) (fun _ s5 => ∃ m,m < n∧I m s5) (notedBy (model prog w) A env fun e s' => R (.error e) s') s4) (notedBy (model prog w) A env fun e s' => R (.error e) s') s3
            else ∃ m,m < n∧I m s3) (notedBy (model prog w) A env fun e s' => R (.error e) s') s2) (notedBy (model prog w) A env fun e s' => R (.error e) s') s1')
          (notedBy (model prog w) A env fun e s' => R (.error e) s') s1) (notedBy (model prog w) A env fun e s' => R (.error e) s') s)
    (n : Nat) (h : I n s) : codeAny (model prog w) A (.compLoop (.ListComp elt [⟨target,iter,ifs,0⟩] scope pos) 0 it acc env) R s := by
  refine codeAny_loop rfl I (fun n s hI => ?_) n h
  show wpAny _ A ((compTurn (.ListComp elt [⟨target,iter,ifs,0⟩] scope pos) 0 it acc env).onRaise (fun x => do noteFrame x env; theTreesLotGoes x)) _ _ s
  refine wpAny_noted ?_
  rw [compTurn_list]
  refine wpAny_bind (wpAny_standAt (wpAny_bind (wpAny_mono (turn n s hI) (fun r s1 h1 => ?_) fun _ _ h' => h')))
  cases r with
  | none => exact wpAny_pure h1
  | some v =>
    refine wpAny_bind (wpAny_mono h1 (fun _ s1' h1' => ?_) fun _ _ h' => h')
    refine wpAny_bind (wpAny_mono h1' (fun _ s2 h2 => wpAny_bind (wpAny_mono h2 (fun ok s3 h3 => ?_) fun _ _ h' => h')) fun _ _ h' => h')
    cases ok with
    | false => exact wpAny_pure ⟨rfl,h3⟩
    | true =>
      exact wpAny_bind (wpAny_bind (wpAny_mono h3 (fun x s4 h4 => wpAny_bind (wpAny_mono h4 (fun _ s5 h5 => wpAny_pure (wpAny_pure ⟨rfl,h5⟩)) fun _ _ h' => h')) fun _ _ h' => h'))
end
noncomputable def SQs (X : Cx) (g : GE) (m : List Md) (ifs : List Expr) (f : FQ) : Prop := ∀ (pins : List (Addr × Obj)) (s : Shared) (σ : L2.St) (H : Hp) (Q : Bool→Hp→Prop),Inv X pins σ H s→tQ X g m f σ H Q →
  wpAny (model X.prog X.w) X.A (forIn ifs true fun c r => if r = true then do let ok ← isTrue c X.env (eval c X.env); pure (ForInStep.yield ok) else pure (ForInStep.yield r)) (TP X pins σ Q) X.xe s
section
variable {X : Cx} {g : GE} {m : List Md} {c : Expr} {p : FQ}
theorem zdR : SQs X g m [] fun _ => .ok true := fun pins s σ H Q I ⟨r,G,si,q⟩ => wpAny_tests_nil ⟨H,I,q G H (Grow.refl si.gok)⟩
theorem ziS (h : SQ X g m c p) : SQs X g m [c] p := fun pins s σ H Q I q => wpAny_tests_one (h pins s σ H Q I q)
end
noncomputable def FtOk (ft : FT) (nl : Nat) : Prop := ∀ d r r1,ft d r = some r1→r1.length = r.length∧∀ i,nl≤i→r1[i]? = r[i]?
noncomputable def zlx (ft : FTs) (nl : Nat) : Prop := ∀ d r r1,ft d r = some r1→r1.length = r.length∧∀ i,nl≤i→r1[i]? = r[i]?
theorem zcx {i nl : Nat} (h : i < nl) : FtOk (ftN i) nl := fun d r r1 e => by
  cases e
  exact ⟨by simp,fun j hj => by rw [List.getElem?_set_ne (by omega)]⟩
theorem zla {nl : Nat} : zlx zgg nl := fun ds r r1 e => by
  cases ds with
  | nil => cases e; exact ⟨rfl,fun _ _ => rfl⟩
  | cons _ _ => cases e
theorem zgh {ft : FT} {fts : FTs} {nl : Nat} (h1 : FtOk ft nl) (h2 : zlx fts nl) : zlx (zbn ft fts) nl := fun ds r r1 e => by
  cases ds with
  | nil => cases e
  | cons d ds =>
    have e' : ((ft d r).bind fun r' => fts ds r') = some r1 := e
    cases q : ft d r with
    | none => rw [q] at e'; cases e'
    | some r2 =>
      rw [q] at e'
      obtain ⟨a1,a2⟩ := h1 d r r2 q
      obtain ⟨b1,b2⟩ := h2 ds r2 r1 e'
      exact ⟨b1.trans a1,fun i hi => (b2 i hi).trans (a2 i hi)⟩
theorem zpx {fts : FTs} {nl : Nat} (h : zlx fts nl) : FtOk (ftT fts) nl := fun d r r1 e => by
  cases d with
  | tup ds => exact h ds r r1 e
  | _ => cases e
section
variable {X : Cx} {pins : List (Addr × Obj)} {σ : L2.St} {H2 : Hp} {s2 : Shared} {scope : Scope} {N' : List Str} {nl : Nat} {cap : List Nat} {cl : List (Str × Addr)} {fp : List Addr} {g : GE} {G2 : GH} {m : List Md} {r : Rho} {elt tg iter : Expr} {ifs : List Expr} {pos : Pos}
  {J : It} {it : Addr} {tn : Nat→Heap→Prop} {ds vs : List D} {ft : FT} {q : FQ} {fe : FE} {E : Value→Shared→Prop}
theorem znl (i : Nat) : (capM nl cap m)[i]?≠some Md.ow := fun h => by
  by_cases hi : i < nl
  · unfold capM at h
    rw [List.getElem?_append_left (by simpa using hi),List.getElem?_replicate] at h
    split at h <;> cases h
  · unfold capM at h
    rw [zeE (by omega)] at h
    cases e : cap[i - nl]? with
    | none => rw [e] at h; cases h
    | some j =>
      rw [e] at h
      have h' : (if m.getD j Md.sh = Md.sh then Md.sh else Md.bw) = Md.ow := Option.some.inj h
      split at h' <;> cases h'
theorem zj6 {i : Nat} (hi : i < nl) (d : D) : (capR nl cap r)[i]?≠some (some d) := fun h => by
  unfold capR at h
  rw [List.getElem?_append_left (by simpa using hi),List.getElem?_replicate] at h
  split at h <;> cases h
theorem zgp (hN : X.N.Nodup) (hcalm : X.calm = true) (sc : CompSc X scope N' nl cap) (h1 : ∀ x c,cl.lookup x = some c→X.env.cells.lookup x = some c) (h2 : ∀ x,(x,NameKind.free)∈scope.names→∃ c,cl.lookup x = some c)
    (I2 : Inv X pins σ H2 s2) (si : SI X g m r G2 σ H2) (T : Turn X.prog X.w X.K tg J fp it tn) (st : tn 0 s2.heap) (hf : ∀ b∈fp,FpOk X pins H2 b) (Y : YieldsC X.K J ds G2 H2) (hsz : ds.length≤sizeLine)
    (hg : ∀ C,SG (cxC X s2 H2 N' scope cl C fp) ⟨G2,H2,fun _ => none⟩ (capM nl cap m) tg ft (capM nl cap m)) (hft : FtOk ft nl) (hq : ∀ C,SQs (cxC X s2 H2 N' scope cl C fp) ⟨G2,H2,fun _ => none⟩ (capM nl cap m) ifs q) (he : ∀ C,SE (cxC X s2 H2 N' scope cl C fp) ⟨G2,H2,fun _ => none⟩ (capM nl cap m) elt fe)
    (hres : zdh ft q fe (capR nl cap r) ds = .ok vs) {RR : Value→Addr→Result→Shared→Prop}
    (hRR : ∀ (p C : Addr) (s' : Shared) (H' : Hp) (G' : GH),Inv X pins σ H' s'→(∃ mm,s'.heap.Ns C mm)→H' C = none→C≠X.env.locals→X.s₀.heap.objs.size≤C→(∀ x c,X.env.cells.lookup x = some c→c≠C)→(∀ z∈X.pn++pins,z.1≠C) →
      Grow X.K G2 H2 G' H'→H2 p = none→Own X.K G' H' p (.lst vs)→RR (.ref p) C (.ok .next) s') :
    wpAny (model X.prog X.w) X.A (newList []) (fun acc s3 => wpAny (model X.prog X.w) X.A (newFunctionEnv scope X.env.globals cl [] X.env.qual none .none (some X.env)) (fun cenv s4 =>
      codeAny (model X.prog X.w) X.A (.compStart (.ListComp elt [⟨tg,iter,ifs,0⟩] scope pos) 0 (.ref it) acc { cenv with scope := relabel scope X.env }) (RR acc cenv.locals) s4) E s3) E s2 := by
  refine wpAny_newObj_type (wpAny_newFunctionEnv sc.nocell (by intro y hy; simp at hy) (fun h₁ hns₁ hsb₁ => ?_) sc.kind)
  dsimp only at hns₁ hsb₁ ⊢
  generalize hH2 : s2.heap.push { cls := .type "list",dict := none,data := .seq ([] : List Value).toArray } = HH at hns₁ hsb₁ ⊢
  have hC : HH.objs.size = s2.heap.objs.size + 1 := by rw [← hH2,Heap.size_push]
  have hDC : s2.heap.objs.size≠HH.objs.size := by rw [hC]; exact Nat.ne_of_lt (Nat.lt_succ_self _)
  have hCle : s2.heap.objs.size≤HH.objs.size := by rw [hC]; exact Nat.le_succ _
  have below : ∀ b,b < s2.heap.objs.size→b≠HH.objs.size∧b≠s2.heap.objs.size := fun b hb => ⟨by rw [hC]; exact Nat.ne_of_lt (Nat.lt_succ_of_lt hb),Nat.ne_of_lt hb⟩
  have old : ∀ b o,s2.heap.get? b = some o→h₁.get? b = some o := fun b o e => hsb₁.extBut b o (below b (Heap.lt_size e)).1 (Heap.get?_push_of_some _ (hH2 ▸ Heap.get?_push_of_some _ e))
  have hacc : h₁.get? s2.heap.objs.size = some { cls := .type "list",dict := none,data := .seq ([] : List Value).toArray } := hsb₁.extBut _ _ hDC (Heap.get?_push_of_some _ (hH2 ▸ Heap.get?_push_size _ rfl))
  have hp2 : H2 s2.heap.objs.size = none := I2.hok.fresh (Nat.le_refl _)
  have hflt : ∀ b∈fp,FpOk X pins H2 b∧b < s2.heap.objs.size := fun b hb => ⟨hf b hb,by
    obtain ⟨o,e,_⟩ := T.obj 0 s2.heap st b hb
    exact Heap.lt_size e⟩
  have ok := zpJ (fp := fp) I2 sc h1 h2 hflt hCle
  generalize hXX : cxC X s2 H2 N' scope cl HH.objs.size fp = XX at ok
  have hG2p : G2 s2.heap.objs.size = none := si.gok.isN hp2
  have w0 : Grow X.K G2 H2 G2 (upd H2 s2.heap.objs.size (.lst [])) := Grow.new si.gok hp2 _
  have hok4 : HOk X.prog X.w (upd H2 s2.heap.objs.size (.lst [])) h₁ := I2.hok.laid old (Nat.le_refl _) ⟨Nat.zero_le _,[],0,.nil,hacc⟩
  have IC : Inv XX [] (capS nl cap σ) (upd H2 s2.heap.objs.size (.lst [])) { s2 with heap := h₁,toks := s2.toks + ([] : List (Str × Value)).length } := by
    subst hXX
    refine zpK I2 ok sc h1 h2 hN rfl I2.bare old hns₁ hCle ?_ (fun b hb hlt => ?_) (Un.laid old (Nat.le_refl _) hp2) hok4
    · rw [zal (Ne.symm hDC)]; exact I2.hok.fresh hCle
    · rw [zal (below b hlt).2]; exact hb
  have SC : SI XX ⟨G2,H2,fun _ => none⟩ (capM nl cap m) (capR nl cap r) G2 (capS nl cap σ) (upd H2 s2.heap.objs.size (.lst [])) := by
    subst hXX
    exact zqO si w0
  have hst₁ : tn 0 h₁ := T.keep _ _ _ st fun b _ o e => old b o e
  have hfX : ∀ (H' : Hp),(∀ b∈fp,H' b = none)→∀ b∈fp,FpOk XX [] H' b := fun H' hn b hb => by
    clear IC SC
    subst hXX
    obtain ⟨z0,z1,z2,z3,z4,z5⟩ := hf b hb
    refine ⟨hn b hb,?_,?_,?_,?_,?_⟩
    · exact (below b (hflt b hb).2).1
    · intro hfs
      rcases List.mem_cons.mp (I2.stkSub b hfs) with z | z
      · exact z1 z
      · exact z2 z
    · exact .inl hb
    · exact fun x c e => z4 x c (h1 x c e)
    · intro p hp; exact absurd (show p∈([] : List (Addr × Obj)) from hp) (by simp)
  have eA : XX.A = X.A := Eq.rec (motive := fun z _ => z.A = X.A) rfl hXX
  have eP : XX.prog = X.prog := Eq.rec (motive := fun z _ => z.prog = X.prog) rfl hXX
  have eW : XX.w = X.w := Eq.rec (motive := fun z _ => z.w = X.w) rfl hXX
  have eK : XX.K = X.K := Eq.rec (motive := fun z _ => z.K = X.K) rfl hXX
  have eX : XX.xe = fun _ _ => False := Eq.rec (motive := fun z _ => z.xe = fun _ _ => False) rfl hXX
  have eE : XX.env = compEnvC scope cl HH.objs.size X.env := Eq.rec (motive := fun z _ => z.env = compEnvC scope cl HH.objs.size X.env) rfl hXX
  have eC : XX.calm = true := Eq.rec (motive := fun z _ => z.calm = true) hcalm hXX
  have eH : XX.H₀ = H2 := Eq.rec (motive := fun z _ => z.H₀ = H2) rfl hXX
  have hg' : PG XX tg (tG XX ⟨G2,H2,fun _ => none⟩ (capM nl cap m) (capM nl cap m) ft) := Eq.rec (motive := fun z _ => PG z tg (tG z ⟨G2,H2,fun _ => none⟩ (capM nl cap m) (capM nl cap m) ft)) (hg _).2 hXX
  have hq' : SQs XX ⟨G2,H2,fun _ => none⟩ (capM nl cap m) ifs q := Eq.rec (motive := fun z _ => SQs z ⟨G2,H2,fun _ => none⟩ (capM nl cap m) ifs q) (hq _) hXX
  have he' : SE XX ⟨G2,H2,fun _ => none⟩ (capM nl cap m) elt fe := Eq.rec (motive := fun z _ => SE z ⟨G2,H2,fun _ => none⟩ (capM nl cap m) elt fe) (he _) hXX
  have fin' : ∀ {H' : Hp} {s' : Shared} {σ' : L2.St} {G' : GH} {ws : List V},Inv XX [] σ' H' s'→Grow X.K G2 H2 G' H'→H' s2.heap.objs.size = some (.lst ws)→G' s2.heap.objs.size = none→RGs X.K G' ws vs→RR (.ref s2.heap.objs.size) HH.objs.size (.ok .next) s' := fun {H' s' σ' G' ws} J1 wg hpp hgp rs => by
    clear IC SC hfX hg' hq' he' eA eP eW eK eX eE eC eH
    subst hXX
    have un := J1.base
    refine hRR _ _ s' H' G' ?_ (let ⟨mm,hn,_⟩ := J1.loc; ⟨mm,hn⟩) J1.free (Nat.ne_of_gt (Nat.lt_of_lt_of_le I2.lt hCle)) (Nat.le_trans I2.sz hCle) (fun x c e z => ?_) (fun z hz e => ?_) wg hp2 ⟨hgp,.lst hpp rs⟩
    · refine I2.call' J1.os un J1.hok J1.bare fun b hb => ?_
      obtain ⟨z0,z1,z2,z3,z4,z5⟩ := hf b hb
      exact ⟨z3,z1,z4,z5⟩
    · obtain ⟨v,o,ho,_⟩ := I2.cell x c e
      exact absurd (Nat.lt_of_lt_of_le (Heap.lt_size ho) hCle) (by rw [z]; exact Nat.lt_irrefl _)
    · have := (I2.pin z hz).1
      exact absurd (Nat.lt_of_lt_of_le (Heap.lt_size this) hCle) (by rw [e]; exact Nat.lt_irrefl _)
  have loop : codeAny (model X.prog X.w) X.A (.compLoop (.ListComp elt [⟨tg,iter,ifs,0⟩] scope pos) 0 (.ref it) (.ref s2.heap.objs.size) (compEnvC scope cl HH.objs.size X.env)) (RR (.ref s2.heap.objs.size) HH.objs.size)
      { s2 with heap := h₁,toks := s2.toks + ([] : List (Str × Value)).length } := by
    refine znk (fun n s' => ∃ (i : Nat) (σ' : L2.St) (H' : Hp) (G' : GH) (ws : List V) (done rest : List D),Inv XX [] σ' H' s'∧SI XX ⟨G2,H2,fun _ => none⟩ (capM nl cap m) (capR nl cap r) G' σ' H'∧tn i s'.heap∧(∀ b∈fp,H' b = none)∧Grow X.K G2 H2 G' H' ∧
        H' s2.heap.objs.size = some (.lst ws)∧G' s2.heap.objs.size = none∧RGs X.K G' ws done∧zdh ft q fe (capR nl cap r) (ds.drop i) = .ok rest∧vs = done++rest∧done.length≤i∧i≤ds.length∧n = ds.length - i) ?_ ds.length
      ⟨0,_,_,G2,[],[],vs,IC,SC,hst₁,fun b hb => ?_,w0,zan,hG2p,.nil,hres,rfl,Nat.le_refl _,Nat.zero_le _,rfl⟩
    rotate_left
    · rw [zal (below b (hflt b hb).2).2]; exact (hf b hb).1
    rintro n s3 ⟨i,σ3,H3,G3,ws,done,rest,I3,S3,st3,fr3,w3,hp3,hg3,rs3,hr3,hv3,hd3,hi3,rfl⟩
    have weaken : ∀ {α : Type} {t : Sem α} {Q : α→Shared→Prop} {s' : Shared} {E' : Value→Shared→Prop},wpAny (model XX.prog XX.w) XX.A t Q XX.xe s'→wpAny (model X.prog X.w) X.A t Q E' s' := fun h => by
      rw [eP,eW,eA,eX] at h
      exact wpAny_mono h (fun _ _ z => z) fun _ _ z => z.elim
    by_cases hlt : i < ds.length
    · have hd : ds.drop i = ds[i]::ds.drop (i + 1) := List.drop_eq_getElem_cons hlt
      rw [hd] at hr3
      unfold zdh at hr3
      have it3 := T.item XX eP eW eK eC i [] s3 σ3 H3 (notedBy (model X.prog X.w) X.A (compEnvC scope cl HH.objs.size X.env) fun e s' => RR (.ref s2.heap.objs.size) HH.objs.size (.error e) s') I3 (hfX H3 fr3) st3 (Y.go G3 H3 i w3 hlt)
      rw [eA] at it3
      refine thn it3 fun rr s4 ⟨u,hr,h4⟩ => ?_
      subst hr
      refine thn h4 fun _ s5 ⟨x,H5,I5,r5,y5,st5,fr5⟩ => ?_
      obtain ⟨G5,w5,rv5⟩ := Y.yld G3 H3 i x H5 ds[i] w3 y5 (List.getElem?_eq_getElem hlt)
      have w25 := w3.trans w5
      cases eft : ft ds[i] (capR nl cap r) with
      | none => rw [eft] at hr3; cases hr3
      | some r1 =>
        rw [eft] at hr3
        simp only [opt_some,bind_ok] at hr3
        have I5' := I5.pinned (hfX H5 fr5) (T.obj _ _ st5)
        have S5 : SI XX ⟨G2,H2,fun _ => none⟩ (capM nl cap m) (capR nl cap r) G5 σ3 H5 := S3.grow (by rw [eK]; exact w5)
        have rv5' : RG XX.K G5 x ds[i] := by rw [eK]; exact rv5
        have as5 := hg' _ s5 σ3 H5 x u (fun σ6 H6 => H6 = H5∧SI XX ⟨G2,H2,fun _ => none⟩ (capM nl cap m) r1 G5 σ6 H5) I5' r5 ⟨capR nl cap r,G5,ds[i],S5,rv5',r1,eft,fun σ6 si6 => ⟨rfl,si6⟩⟩
        rw [eE] at as5
        refine thn (weaken as5) fun _ s6 ⟨σ6,H6,I6,e6,S6⟩ => ?_
        subst e6
        obtain ⟨fl1,fl2⟩ := hft _ _ _ eft
        cases eq1 : q r1 with
        | stuck => rw [eq1] at hr3; cases hr3
        | exc xx => rw [eq1] at hr3; cases hr3
        | ok b1 =>
          rw [eq1] at hr3
          simp only [bind_ok] at hr3
          have te6 := hq' _ s6 σ6 H6 (fun b H7 => b = b1∧∃ G7,Grow X.K G5 H6 G7 H7) I6 ⟨r1,G5,S6,by rw [eq1]; exact fun G7 H7 w7 => ⟨rfl,G7,by rw [eK] at w7; exact w7⟩⟩
          rw [eE] at te6
          refine thn (weaken te6) fun b s7 ⟨H7,I7,eb,G7,w7⟩ => ?_
          subst eb
          have S7 : SI XX ⟨G2,H2,fun _ => none⟩ (capM nl cap m) r1 G7 σ6 H7 := S6.grow (by rw [eK]; exact w7)
          have w27 := w25.trans w7
          have hp7 : H7 s2.heap.objs.size = some (.lst ws) := w7.he _ _ (w5.he _ _ hp3)
          have hg7 : G7 s2.heap.objs.size = none := by
            rw [w7.gf _ (by rw [w5.he _ _ hp3]; simp),w5.gf _ (by rw [hp3]; simp)]; exact hg3
          have back : ∀ {σ8 : L2.St} {H8 : Hp} {G8 : GH} {s8 : Shared},Inv XX ([]++zf5 fp s5.heap) σ8 H8 s8→Inv XX [] σ8 H8 s8∧tn (i + 1) s8.heap∧∀ b∈fp,H8 b = none := fun {σ8 H8 G8 s8} I8 => by
            refine ⟨I8.unpinned,T.keep _ _ _ st5 fun b hb o e => (I8.pin (b,o) (List.mem_append_right _ (List.mem_append_right _ (zcL hb e)))).1,fun b hb => ?_⟩
            obtain ⟨o,e,_⟩ := T.obj _ _ st5 b hb
            exact (I8.pin (b,o) (List.mem_append_right _ (List.mem_append_right _ (zcL hb e)))).2.1
          have less : ∀ {σ8 : L2.St} {H8 : Hp} {G8 : GH},SI XX ⟨G2,H2,fun _ => none⟩ (capM nl cap m) r1 G8 σ8 H8→SI XX ⟨G2,H2,fun _ => none⟩ (capM nl cap m) (capR nl cap r) G8 σ8 H8 := fun h => h.less fl1.symm fun j d hj => by
            by_cases hjn : j < nl
            · exact absurd hj (zj6 hjn d)
            · rw [fl2 j (by omega)]; exact hj
          cases b with
          | false =>
            rw [if_neg Bool.false_ne_true] at hr3 ⊢
            obtain ⟨I7',t7,f7⟩ := back (G8 := G7) I7
            exact ⟨ds.length - (i + 1),by omega,i + 1,σ6,H7,G7,ws,done,rest,I7',less S7,t7,f7,w27,hp7,hg7,rs3.mono (Gle.trans w5.ge w7.ge),hr3,hv3,by omega,hlt,rfl⟩
          | true =>
            rw [if_pos rfl] at hr3 ⊢
            cases ee1 : fe r1 with
            | stuck => rw [ee1] at hr3; cases hr3
            | exc xx => rw [ee1] at hr3; cases hr3
            | ok d1 =>
              rw [ee1] at hr3
              simp only [bind_ok] at hr3
              cases er : zdh ft q fe (capR nl cap r) (ds.drop (i + 1)) with
              | stuck => rw [er] at hr3; cases hr3
              | exc xx => rw [er] at hr3; cases hr3
              | ok rest' =>
                rw [er] at hr3
                simp only [bind_ok] at hr3
                cases hr3
                have el7 := he' _ s7 σ6 H7 (fun v H8 => ∃ G8,Grow X.K G7 H7 G8 H8∧RG X.K G8 v d1) I7 ⟨r1,G7,S7,by rw [ee1]; exact fun v G8 H8 w8 rv => ⟨G8,by rw [eK] at w8; exact w8,by rw [eK] at rv; exact rv⟩⟩
                rw [eE] at el7
                refine thn (weaken el7) fun u8 s8 ⟨v8,H8,I8,r8,G8,w8,rv8⟩ => ?_
                have hp8 : H8 s2.heap.objs.size = some (.lst ws) := w8.he _ _ hp7
                have hg8 : G8 s2.heap.objs.size = none := by rw [w8.gf _ (by rw [hp7]; simp)]; exact hg7
                have S8 : SI XX ⟨G2,H2,fun _ => none⟩ (capM nl cap m) r1 G8 σ6 H8 := S7.grow (by rw [eK]; exact w8)
                have hlen := Paired.length rs3
                have ap8 := zbA (X := XX) _ s8 σ6 H8 (.ref s2.heap.objs.size) [v8] (.ref s2.heap.objs.size) [u8] (fun v H9 => H9 = upd H8 s2.heap.objs.size (.lst (ws++[v8]))) I8 rfl (.cons r8 .nil) ⟨_,ws,v8,rfl,rfl,hp8,by omega,rfl⟩
                refine thn (weaken ap8) fun u9 s9 ⟨v9,H9,I9,r9,e9⟩ => ?_
                subst e9
                obtain ⟨I9',t9,f9⟩ := back (G8 := G8) I9
                have rsn : RGs X.K G8 (ws++[v8]) (done++[d1]) := Paired.snoc (rs3.mono (Gle.trans (Gle.trans w5.ge w7.ge) w8.ge)) rv8
                have w28 := w27.trans w8
                refine ⟨ds.length - (i + 1),by omega,i + 1,σ6,_,G8,ws++[v8],done++[d1],rest',I9',less (S8.other hg8 hp2 znl _),t9,f9,?_,zan,hg8,rsn,er,by rw [hv3,List.append_assoc]; rfl,by rw [List.length_append,List.length_singleton]; omega,hlt,rfl⟩
                refine ⟨fun b e hb => (w28.ok b e hb).mono (fun _ _ z => z) fun o z => ?_,fun b o hb => ?_,w28.ge,w28.gf⟩
                · rw [zal (by rintro rfl; rw [hg8] at hb; cases hb)]; exact z
                · rw [zal (by rintro rfl; rw [hp2] at hb; cases hb)]; exact w28.he b o hb
    · have e : i = ds.length := by omega
      subst e
      rw [List.drop_length] at hr3
      cases hr3
      rw [List.append_nil] at hv3
      subst hv3
      have dn := T.done XX eP eW eK eC ds.length [] s3 σ3 H3 (notedBy (model X.prog X.w) X.A (compEnvC scope cl HH.objs.size X.env) fun e s' => RR (.ref s2.heap.objs.size) HH.objs.size (.error e) s') I3 (hfX H3 fr3) st3 (Y.stop G3 H3 w3)
      rw [eA] at dn
      refine thn dn fun rr s4 ⟨hr,I4⟩ => ?_
      subst hr
      exact fin' I4 w3 hp3 hg3 rs3
  exact codeAny_compStart_list loop (T.self X.A 0 _ _ _ hst₁ loop)
end
end DL
end
section
namespace DL
open PySem PySem.Spec PyProof.Rows L2
noncomputable def noXL : Res (List D)→Res (List D)
  | .ok d => .ok d
  | _ => .stuck
@[simp] theorem noXL_ok (d : List D) : noXL (.ok d) = .ok d := rfl
noncomputable def zb8 (nl : Nat) (cap : List Nat) (fi : FI) (ft : FT) (q : FQ) (fe : FE) : FE := fun r => (fi r).bind fun ds => (opt (sz ds)).bind fun ds => (noXL (zdh ft q fe (capR nl cap r) ds)).bind fun vs => .ok (.lst vs)
section
variable {X : Cx} {g : GE} {m mb : List Md} {scope : Scope} {N' : List Str} {nl : Nat} {cap : List Nat} {elt tg iter : Expr} {ifs : List Expr} {pos pos' spos : Pos} {fi : FI} {ft : FT} {q : FQ} {fe : FE} {ro : Bool}
theorem zgl {r : Rho} {P : D→Prop} {x : D→Prop} (h : fin (zb8 nl cap fi ft q fe r) P x) : fin (fi r) (fun ds => ∃ vs,ds.length≤sizeLine∧zdh ft q fe (capR nl cap r) ds = .ok vs∧P (.lst vs)) x := by
  unfold zb8 at h
  refine zaf (zae h) fun ds h1 => ?_
  obtain ⟨ds',e2,h2⟩ := zaC (zae h1)
  obtain ⟨rfl,hl⟩ := zmg e2
  cases e3 : zdh ft q fe (capR nl cap r) ds' with
  | ok vs => rw [e3] at h2; exact ⟨vs,hl,rfl,h2⟩
  | exc x => rw [e3] at h2; exact h2.elim
  | stuck => rw [e3] at h2; exact h2.elim
theorem CompSc.clo {pins : List (Addr × Obj)} {σ : L2.St} {H : Hp} {s : Shared} (sc : CompSc X scope N' nl cap) (ok : X.Ok) : ∃ cl,closureFor scope X.env = pure cl∧(∀ x c,cl.lookup x = some c→X.env.cells.lookup x = some c)∧(∀ x,(x,NameKind.free)∈scope.names→∃ c,cl.lookup x = some c) :=
  zic fun y hy hf => ok.has y.1 (sc.freeK y hy hf)
theorem zdU (hN : X.N.Nodup) (hcalm : X.calm = true) (sc : CompSc X scope N' nl cap) (hi : SItC X g m tg iter fi) (hg : ∀ s0 H0 cl C fp g',SG (cxC X s0 H0 N' scope cl C fp) g' (capM nl cap m) tg ft (capM nl cap m)) (hft : FtOk ft nl)
    (hq : ∀ s0 H0 cl C fp g',SQs (cxC X s0 H0 N' scope cl C fp) g' (capM nl cap m) ifs q) (he : ∀ s0 H0 cl C fp g',SE (cxC X s0 H0 N' scope cl C fp) g' (capM nl cap m) elt fe)
    (hs : ∀ x,foldedSetIterable iter X.env x = pure x := by intro _; rfl) : SO X g m (.ListComp elt [⟨tg,iter,ifs,0⟩] scope pos) (zb8 nl cap fi ft q fe) := by
  intro pins s σ H Q I h
  obtain ⟨r,G,si,k⟩ := h
  obtain ⟨cl,hcl,h1,h2⟩ := sc.clo (pins := pins) (σ := σ) (H := H) (s := s) I.ok
  have k1 := zgl k
  rw [eval_ListComp]
  refine wpAny_comprehension_free (use := none) rfl hs hcl sc.kind sc.names (thn (hi pins s σ H (fun J H' => ∃ G' ds vs,Grow X.K G H G' H'∧YieldsC X.K J ds G' H'∧ds.length≤sizeLine∧zdh ft q fe (capR nl cap r) ds = .ok vs ∧
    (∀ a G' H',Grow X.K G H G' H'→H a = none→Own X.K G' H' a (.lst vs)→Q (.ref a) H')) I ⟨r,G,si,zaf k1 fun ds ⟨vs,z1,z2,z3⟩ J G' H' w y => ⟨G',ds,vs,w,y,z1,z2,z3⟩⟩) fun v s1 hv => thn hv fun itv s2 hv2 => ?_)
  obtain ⟨it,fp,tn,J,H2,rfl,I2,T,st,hf,G2,ds,vs,w2,Y,hsz,hres,hQ⟩ := hv2
  refine zgp (RR := fun acc C => compPost (model X.prog X.w) X.A X.xe none (EP X pins σ Q) acc C) hN hcalm sc h1 h2 I2 (si.grow w2) T st hf Y hsz (fun C => hg _ _ _ _ _ _) hft (fun C => hq _ _ _ _ _ _) (fun C => he _ _ _ _ _ _) hres ?_
  intro p C s' H' G' I' hns hC1 hC2 hC3 hC4 hC5 w' hp ho
  obtain ⟨mm,hn⟩ := hns
  refine ⟨mm,hn,fun h' hsb => ⟨.ref p,H',?_,rfl,hQ p G' H' (w2.trans w') (w2.back hp) ho⟩⟩
  exact I'.turned (it := C) (t' := s'.toks) (fun b o hb e => hsb.extBut b o hb e) hC1 hC2.symm.symm (.inr hC3) hC4 hC5
theorem zes (i : Nat) {y : Str} (hN : X.N.Nodup) (hcalm : X.calm = true) (hy : X.N[i]? = some y) (hyl : X.env.scope.names.lookup y = some .local) (sc : CompSc X scope N' nl cap) (hi : SItC X g m tg iter fi) (hg : ∀ s0 H0 cl C fp g',SG (cxC X s0 H0 N' scope cl C fp) g' (capM nl cap m) tg ft (capM nl cap m)) (hft : FtOk ft nl)
    (hq : ∀ s0 H0 cl C fp g',SQs (cxC X s0 H0 N' scope cl C fp) g' (capM nl cap m) ifs q) (he : ∀ s0 H0 cl C fp g',SE (cxC X s0 H0 N' scope cl C fp) g' (capM nl cap m) elt fe)
    (hsw : swapsWith (.ListComp elt [⟨tg,iter,ifs,0⟩] scope pos) (some (.Name y pos')) spos.line X.env = pure true := by rfl) (hs : ∀ x,foldedSetIterable iter X.env x = pure x := by intro _; rfl) :
    SS X g ro mb m (.Assign [.Name y pos'] (.ListComp elt [⟨tg,iter,ifs,0⟩] scope pos) spos) (setF m i (zb8 nl cap fi ft q fe)) (m.set i .ow) := by
  refine ⟨by simp,?_⟩
  intro pins s σ H D0 I h
  obtain ⟨r,G,si,k⟩ := h
  obtain ⟨cl,hcl,h1,h2⟩ := sc.clo (pins := pins) (σ := σ) (H := H) (s := s) I.ok
  have k1 := zgl (za3 si (m' := m.set i .ow) (by simp) k)
  rw [exec_Assign_Name_used _ _ _ _ hsw]
  refine wpAny_bind (wpAny_standAt (wpAny_bind ?_))
  show wpAny _ X.A (do let _ ← comprehension (.ListComp elt [⟨tg,iter,ifs,0⟩] scope pos) scope X.env _ (newList []) false (eval iter X.env) (some (assign (.Name y pos') X.env))) _ _ s
  refine wpAny_bind (wpAny_mono (wpAny_comprehension_free (use := some (assign (.Name y pos') X.env)) (Q := fun _ s' => SP X pins D0 .next s') rfl hs hcl sc.kind sc.names (thn (hi pins s σ H (fun J H' => ∃ G' ds vs,Grow X.K G H G' H'∧YieldsC X.K J ds G' H'∧ds.length≤sizeLine∧zdh ft q fe (capR nl cap r) ds = .ok vs ∧
    (∀ σ' G' H',Gle G G'→SI X g (m.set i .ow) (r.set i (some (.lst vs))) G' σ' H'→D0.nx σ' H')) I ⟨r,G,si,zaf k1 fun ds ⟨vs,z1,z2,z3⟩ J G' H' w y => ⟨G',ds,vs,w,y,z1,z2,z3⟩⟩) fun v s1 hv => thn hv fun itv s2 hv2 => ?_)) (fun _ s' hq => wpAny_pure (wpAny_pure hq)) fun _ _ e => e)
  obtain ⟨it,fp,tn,J,H2,rfl,I2,T,st,hf,G2,ds,vs,w2,Y,hsz,hres,hQ⟩ := hv2
  refine zgp (RR := fun acc C => compPost (model X.prog X.w) X.A X.xe (some (assign (.Name y pos') X.env)) (fun _ s' => SP X pins D0 .next s') acc C) hN hcalm sc h1 h2 I2 (si.grow w2) T st hf Y hsz (fun C => hg _ _ _ _ _ _) hft (fun C => hq _ _ _ _ _ _) (fun C => he _ _ _ _ _ _) hres ?_
  intro p C s' H' G' I' hns hC1 hC2 hC3 hC4 hC5 w' hp ho
  obtain ⟨mm,hn⟩ := hns
  show wpAny _ X.A (assign (.Name y pos') X.env (.ref p)) _ _ s'
  refine wpAny_assign_Name (zfR I' hN hy (.inl hyl) (v := .ref p) rfl (fun s'' I'' ⟨a,hsb,ha⟩ => ?_) (.inr hyl))
  have hCa : C≠a := by
    rcases ha with z | z
    · rw [z]; exact hC2
    · exact (hC4 y a z).symm
  refine ⟨mm,hn.sameBut hsb hCa,fun h' hsb' => ?_⟩
  refine ⟨_,H',I''.turned (it := C) (t' := s''.toks) (fun b o hb e => hsb'.extBut b o hb e) hC1 hC2 (.inr hC3) hC4 hC5,?_⟩
  exact hQ _ G' H' (w2.trans w').ge (si.setN (w2.trans w') i (w2.back hp) ho)
end
end DL
end
section
namespace DL
open PySem PySem.Spec PyProof.Rows L2
noncomputable def MutD (K : PySem.W.Frag) (r : V→List V→Hp→VK→Prop) (mk : D→List D→Option D) : Prop := ∀ (G : GH) (H : Hp) (a : Addr) (d : D) (vs : List V) (ds : List D) (d' : D) (Q : VK),GOk K G H→Own K G H a d→RGs K G vs ds→mk d ds = some d' →
  (∀ o',OwnO K G (upd H a o') a d'→Q .non (upd H a o'))→r (.ref a) vs H Q
noncomputable def tyB (T : String) : D→Bool
  | .lst _ => T == "list"
  | .dic _ => T == "dict"
  | _ => false
noncomputable def mutF (T : String) (m : List Md) (i : Nat) (fl : Rho→Res (List D)) (mk : D→List D→Option D) : FS := fun r => match r[i]? with
  | some (some d) => if tyB T d = true then onE m r (fl r) fun ds => (match mk d ds with
    | some d' => .nx (r.set i (some d'))
    | none => .stuck) else .stuck
  | _ => .stuck
theorem znC {K : PySem.W.Frag} {G : GH} {H : Hp} {a : Addr} {d : D} {T : String} (o : Own K G H a d) (t : tyB T d = true) : tyV K T (.ref a) H := by
  cases o.ob with
  | lst r s => exact .inl ⟨eq_of_beq t,_,SqL.of r⟩
  | dic r s => exact .inr (.inr (.inl ⟨eq_of_beq t,.inl ⟨_,.inl r⟩⟩))
section
variable {X : Cx} {g : GE} {m mb : List Md} {e a b o : Expr} {es : List Expr} {f fa fb : FE} {fl : Rho → Res (List D)} {pos pos' apos cpos : Pos} {ro : Bool} {x name : Str} {T id : String} {R : V → List V → Hp → VK → Prop} {mk : D → List D → Option D}
theorem zkV (i : Nat) (hm : m[i]? = some .ow) (hk : MutD X.K R mk) {D0 : Ends} {σ : L2.St} {H : Hp} (h : tS X g ro m m mb (mutF T m i fl mk) D0 σ H) :
    ∃ v,σ[i]? = some (some v)∧tyV X.K T v H∧tL X g m fl σ H fun xs H2 => R v xs H2 fun _ H1 => D0.nx σ H1 := by
  obtain ⟨r,G,si,k⟩ := h
  unfold mutF at k
  cases er : r[i]? with
  | none => simp only [er] at k; exact (show False from k).elim
  | some oo =>
    cases oo with
    | none => simp only [er] at k; exact (show False from k).elim
    | some d =>
      simp only [er] at k
      by_cases ht : tyB T d = true
      · rw [if_pos ht] at k
        obtain ⟨a,h1,h2,h3⟩ := si.mut hm er
        refine ⟨_,h1,znC h2 ht,r,G,si,zaf (za3 si rfl k) fun ds k2 vs G' H' w rs => ?_⟩
        cases em : mk d ds with
        | none => simp only [em] at k2; exact (show False from k2).elim
        | some d' =>
          simp only [em] at k2
          obtain ⟨a',h1',h2',h3'⟩ := (si.grow w).mut hm er
          rw [h1] at h1'; cases h1'
          exact hk G' H' a d vs ds d' _ w.ok h2' rs em fun o' ob => k2 σ G' _ w.ge (h3' o' d' ob)
      · rw [if_neg ht] at k; exact (show False from k).elim
theorem zhR (i : Nat) (hm : m[i]? = some .ow) (pa : PlainAttrs T) (slot : Slot T name id) (hty : typeOf (.builtin id) = pure (.type "method_descriptor")) (hmt : MtR X id R) (hk : MutD X.K R mk) (hN : X.N[i]? = some x) (hv : Vis X.env.scope x) (ha : SA X g m (e::es) fl)
    (hd : (x == ("__debug__" : Str)) = false := by decide) (hcd : (x == ("__classdict__" : Str)) = false := by decide)
    (hbase : attributeBase (.Name x pos') name X.env (eval (.Name x pos') X.env) = eval (.Name x pos') X.env := by rfl)
    (hfew : ((backTo cpos (starEach (e::es) X.env)).all (fun x => ! x.1) && (backToKw cpos (keywordEach [] X.env)).all (fun x => x.1.isSome) && decide ((e::es).length + ([] : List Keyword).length + (if ([] : List Keyword).isEmpty then 0 else 1) < 30)) = true := by rfl)
    (hline : (apos.endLine == cpos.line) = true := by rfl) (hst : starEach (e::es) X.env = (false,eval e X.env)::starEach es X.env := by rfl) (hplain : (backTo cpos (starEach es X.env)).any (·.1) = false := by rfl) :
    SS X g ro mb m (.Expr (.Call (.Attribute (.Name x pos') name apos) (e::es) [] cpos) pos) (mutF T m i fl mk) m :=
  ⟨rfl,PS.imp (zfn (zkM pa slot hty hmt (zdS hN hv hd hcd) ha hbase hfew hline hst hplain)) fun D0 σ H h => zkV i hm hk h⟩
noncomputable def appD : D→List D→Option D
  | .lst ds,[d] => if ds.length < sizeLine then some (.lst (ds++[d])) else none
  | _,_ => none
theorem zgy {K : PySem.W.Frag} : MutD K ziR appD := by
  intro G H a d vs ds d' Q gk ow rs e q
  unfold appD at e
  split at e
  · split at e
    · rename_i hl
      cases e
      cases ow.ob with
      | lst r s =>
        cases rs with
        | cons r1 t =>
          cases t
          have := Paired.length s
          exact ⟨a,_,_,rfl,rfl,r,by omega,q _ (.lst zan (Paired.snoc s r1))⟩
    · cases e
  · cases e
noncomputable def zm8 (x : Int) (n : Nat) : Nat := if x < 0 then (x + (n : Int)).toNat else min x.toNat n
noncomputable def insL {α : Type} (xs : List α) (x : Int) (y : α) : List α := xs.take (zm8 x xs.length)++y::xs.drop (zm8 x xs.length)
noncomputable def ziP : V→List V→Hp→VK→Prop := fun x vs H Q => ∃ l xs i y,x = .ref l∧vs = [.int i,y]∧H l = some (.lst xs)∧-(2 ^ 63)≤i∧i < 2 ^ 63∧xs.length < sizeLine∧Q .non (upd H l (.lst (insL xs i y)))
theorem zje : MtR X "list.insert" ziP := by
  intro pins s σ H x vs v us Q I rx rv h
  obtain ⟨l,xs,i,y,rfl,rfl,hH,h1,h2,hz,q⟩ := h
  cases rx
  obtain ⟨u,w',rfl,⟨t,rfl⟩,ry⟩ := znA rv
  obtain ⟨z,its,n,r,hl,e⟩ := I.lstM hH
  have hfit : ¬(! Builtin.List.listFitsIndex i) = true := by rw [fitsIndex_both h1 h2]; exact Bool.false_ne_true
  refine call_meets PySem.F.slot_list_insert ⟨_,e,rfl⟩ PySem.F.entry_list_insert (PySem.F.args_list_insert_3 _ _ _) (AutoListH.list_insert_list_int_val_1 l its.toArray n i t w' hfit (by rw [List.size_toArray]; omega)) ⟨e,?_⟩
  refine ⟨.non,_,I.lset (its' := insL its i w') hH e ?_ ?_ ?_,rfl,q⟩
  · show ((its.toArray.extract 0 (if i < 0 then (i + ((its.toArray.size : Nat) : Int)).toNat else min i.toNat its.toArray.size)).push w'++its.toArray.extract (if i < 0 then (i + ((its.toArray.size : Nat) : Int)).toNat else min i.toNat its.toArray.size)) = (insL its i w').toArray
    rw [List.size_toArray]
    unfold insL zm8
    generalize (if i < 0 then (i + ((its.length : Nat) : Int)).toNat else min i.toNat its.length) = k
    apply Array.ext'
    simp
    exact List.take_of_length_le (by rw [List.length_drop]; exact Nat.le_refl _)
  · unfold insL
    rw [hl]
    exact Vals.append (r.take _) (.cons ry (r.drop _))
  · unfold insL
    rw [List.length_append,List.length_cons,List.length_take,List.length_drop]
    omega
noncomputable def insD : D→List D→Option D
  | .lst ds,[.int i,d] => if ds.length < sizeLine∧-(2 ^ 63)≤i∧i < 2 ^ 63 then some (.lst (insL ds i d)) else none
  | _,_ => none
theorem zpk {α β : Type} {F : α→β→Prop} {l : List α} {r : List β} {x : α} {y : β} (h : Paired F l r) (i : Int) (hxy : F x y) : Paired F (insL l i x) (insL r i y) := by
  unfold insL
  rw [Paired.length h]
  exact Paired.app (Paired.tk _ h) (.cons hxy (Paired.dr _ h))
theorem zpj {K : PySem.W.Frag} : MutD K ziP insD := by
  intro G H a d vs ds d' Q gk ow rs e q
  unfold insD at e
  split at e
  · split at e
    · rename_i hl
      cases e
      cases ow.ob with
      | lst r s =>
        cases rs with
        | cons r1 t =>
          cases t with
          | cons r2 t =>
            cases t
            have := Paired.length s
            exact ⟨a,_,_,_,rfl,by rw [r1.int gk],r,hl.2.1,hl.2.2,by omega,q _ (.lst zan (zpk s _ r2))⟩
    · cases e
  · cases e
end
noncomputable def zbT : D→Bool
  | .non => true
  | .bl _ => true
  | .int _ => true
  | .str _ => true
  | _ => false
noncomputable def toV : D→V
  | .non => .non
  | .bl b => .bl b
  | .int i => .int i
  | .str x => .str x
  | _ => .non
noncomputable def eqs (a b : D) : Bool := eqV (toV a) (toV b)
@[simp] theorem eqs_int (a b : Int) : eqs (.int a) (.int b) = (a == b) := rfl
@[simp] theorem eqs_str (a b : Str) : eqs (.str a) (.str b) = (a == b) := rfl
@[simp] theorem eqs_non_int (b : Int) : eqs .non (.int b) = false := rfl
@[simp] theorem eqs_int_non (b : Int) : eqs (.int b) .non = false := rfl
section
variable {K : PySem.W.Frag} {G : GH} {H : Hp} {v : V} {d : D}
theorem RB.flat (h : RB K G H v d) (gk : GOk K G H) (hf : zbT d = true) : v = toV d∧zdF v = true := by
  cases d with
  | non => rw [h.non gk]; exact ⟨rfl,rfl⟩
  | bl b => rw [h.bl gk]; exact ⟨rfl,rfl⟩
  | int i => rw [h.int gk]; exact ⟨rfl,rfl⟩
  | str x => rw [h.str gk]; exact ⟨rfl,rfl⟩
  | _ => cases hf
theorem zpy {xs : List V} {ds : List D} (h : RGs K G xs ds) (gk : GOk K G H) (hf : ds.all zbT = true) : xs = ds.map toV∧xs.all zdF = true := by
  induction h with
  | nil => exact ⟨rfl,rfl⟩
  | cons r t ih =>
    rw [List.all_cons,Bool.and_eq_true] at hf
    obtain ⟨e1,e2⟩ := RB.flat (H := H) r.rb gk hf.1
    obtain ⟨e3,e4⟩ := ih hf.2
    exact ⟨by rw [List.map_cons,← e3,← e1],by rw [List.all_cons,e2,e4]; rfl⟩
end
noncomputable def keyD : D→Option Key
  | .int i => some (.inl i)
  | .str x => some (.inr x)
  | _ => none
noncomputable def hasK (kvs : List (Key × D)) (k : Key) : Bool := kvs.any fun kv => decide (kv.1 = k)
noncomputable def getK (kvs : List (Key × D)) (k : Key) : Option D := (kvs.find? fun kv => decide (kv.1 = k)).map (·.2)
noncomputable def inB (x c : D) : Option Bool := match c with
  | .lst ds => if zbT x = true∧ds.all zbT = true then some (ds.any fun y => eqs y x) else none
  | .tup ds => if zbT x = true∧ds.all zbT = true then some (ds.any fun y => eqs y x) else none
  | .dic kvs => (keyD x).map (hasK kvs)
  | .str y => match x with
    | .str z => some (!(Builtin.Str.occurrences y z 0 y.length 1).isEmpty)
    | _ => none
  | _ => none
noncomputable def inD (x c : D) : Option D := (inB x c).map .bl
noncomputable def ninD (x c : D) : Option D := (inB x c).map fun b => .bl (! b)
theorem zl2 {K : PySem.W.Frag} {G : GH} {k : Key} {ps : List (Key × V)} {kvs : List (Key × D)} (h : RKs K G ps kvs) (d : D) (e : getK kvs k = some d) : ∃ v,valV ps k = some v∧RG K G v d := by
  induction h with
  | nil => cases e
  | @cons p q ps kvs r t ih =>
    obtain ⟨k1,v1⟩ := p
    obtain ⟨k2,d2⟩ := q
    obtain ⟨e1,r1⟩ := r
    have e1' : k1 = k2 := e1
    subst e1'
    by_cases hk : k1 = k
    · subst hk
      have : d2 = d := by simpa [getK,List.find?_cons] using e
      subst this
      exact ⟨v1,zd5 rfl,r1⟩
    · have e' : getK kvs k = some d := by simpa [getK,List.find?_cons,hk] using e
      obtain ⟨v,h1,h2⟩ := ih e'
      exact ⟨v,by rw [zdo hk]; exact h1,h2⟩
theorem zjL {K : PySem.W.Frag} {G : GH} {k : Key} {ps : List (Key × V)} {kvs : List (Key × D)} (h : RKs K G ps kvs) (e : getK kvs k = none) : valV ps k = none := by
  induction h with
  | nil => rfl
  | @cons p q ps kvs r t ih =>
    obtain ⟨k1,v1⟩ := p
    obtain ⟨k2,d2⟩ := q
    obtain ⟨e1,r1⟩ := r
    have e1' : k1 = k2 := e1
    subst e1'
    by_cases hk : k1 = k
    · subst hk; simp [getK,List.find?_cons] at e
    · have e' : getK kvs k = none := by simpa [getK,List.find?_cons,hk] using e
      rw [zdo hk]; exact ih e'
theorem zpr (kvs : List (Key × D)) (k : Key) : hasK kvs k = (getK kvs k).isSome := by
  induction kvs with
  | nil => rfl
  | cons p r ih =>
    by_cases e : p.1 = k
    · simp [hasK,getK,List.find?_cons,e]
    · have h1 : hasK (p::r) k = hasK r k := by simp [hasK,e]
      have h2 : getK (p::r) k = getK r k := by simp [getK,List.find?_cons,e]
      rw [h1,h2,ih]
theorem zjx {K : PySem.W.Frag} {G : GH} {H : Hp} {v : V} {d : D} {k : Key} (gk : GOk K G H) (h : RB K G H v d) (e : keyD d = some k) : v = kV k := by
  cases d with
  | int i => cases e; exact h.int gk
  | str x => cases e; exact h.str gk
  | _ => cases e
section
variable {X : Cx} {g : GE} {m mb : List Md} {e a b o c : Expr} {f fa fb fc : FE} {pos pos' : Pos}
noncomputable def rInD (neg : Bool) : R2 := fun y x H Q => ∃ a o,x = .ref a∧DGet H a y o∧Q (.bl (if neg then ! o.isSome else o.isSome)) H
theorem zoN (hu : X.A.units + 1 < cLine) : OpR X (compareOp .In) (rInD false) := by
  intro pins s σ H y x u v Q I ry rx h
  obtain ⟨a,oo,rfl,hg,q⟩ := h
  cases rx
  exact d_in hu I hg ry fun s' I' => ⟨.bl _,H,I',rfl,q⟩
theorem zmI (hu : X.A.units + 1 < cLine) : OpR X (compareOp .NotIn) (rInD true) := by
  intro pins s σ H y x u v Q I ry rx h
  obtain ⟨a,oo,rfl,hg,q⟩ := h
  cases rx
  exact zng hu I hg ry fun s' I' => ⟨.bl _,H,I',rfl,q⟩
noncomputable def rInA (K : PySem.W.Frag) (neg : Bool) : R2 := fun x y H Q => rIn K neg x y H Q∨rInD neg x y H Q∨∃ i j,x = .str i∧y = .str j∧Q (.bl (if neg then !(!(Builtin.Str.occurrences j i 0 j.length 1).isEmpty) else !(Builtin.Str.occurrences j i 0 j.length 1).isEmpty)) H
theorem zlH (hu : X.A.units + 1 < cLine) : OpR X (compareOp .In) (rInA X.K false) := OpR.or zi5 (OpR.or (zoN hu) zi4)
theorem zmJ (hu : X.A.units + 1 < cLine) : OpR X (compareOp .NotIn) (rInA X.K true) := OpR.or zf8 (OpR.or (zmI hu) zf7)
theorem zjH {K : PySem.W.Frag} (neg : Bool) : OpD K (rInA K neg) (fun x c => (inB x c).map fun b => .bl (if neg then ! b else b)) := by
  intro G H v1 v2 d1 d2 d Q gk r1 r2 e q
  have seq : ∀ {xs : List V} {ds : List D} {p : Addr},RGs K G xs ds→v2 = .ref p→(SqL K H p xs∨SqT K H p xs)→zbT d1 = true→ds.all zbT = true→d = .bl (if neg then !(ds.any fun y => eqs y d1) else ds.any fun y => eqs y d1)→rInA K neg v1 v2 H Q := fun {xs ds p} rs e2 hs hf hfs ed => by
    obtain ⟨e1,f1⟩ := RB.flat r1 gk hf
    obtain ⟨e3,f3⟩ := zpy rs gk hfs
    refine .inl ⟨p,xs,e2,hs,f1,f3,q _ G H (Grow.refl gk) ?_⟩
    have : inV v1 xs = ds.any fun y => eqs y d1 := by
      unfold inV
      rw [e3,List.any_map,e1]
      rfl
    rw [this,ed]
    exact .scl (.bl _)
  cases d2 with
  | lst ds =>
    by_cases hc : zbT d1 = true∧ds.all zbT = true
    · simp only [inB,if_pos hc,Option.map_some] at e
      obtain ⟨p,xs,e2,hs,rs⟩ := r2.lst gk
      exact seq rs e2 (.inl hs) hc.1 hc.2 (Option.some.inj e).symm
    · simp only [inB,if_neg hc,Option.map_none] at e
      cases e
  | tup ds =>
    by_cases hc : zbT d1 = true∧ds.all zbT = true
    · simp only [inB,if_pos hc,Option.map_some] at e
      obtain ⟨p,xs,e2,hs,rs⟩ := r2.tup gk
      exact seq rs e2 (.inr hs) hc.1 hc.2 (Option.some.inj e).symm
    · simp only [inB,if_neg hc,Option.map_none] at e
      cases e
  | dic kvs =>
    simp only [inB] at e
    cases ek : keyD d1 with
    | none => rw [ek] at e; cases e
    | some k =>
      rw [ek] at e
      cases e
      obtain ⟨p,ps,rfl,hs,rs⟩ := r2.dic gk
      refine .inr (.inl ⟨p,valV ps k,rfl,by rw [zjx gk r1 ek]; exact .inl ⟨ps,k,hs,rfl,rfl⟩,q _ G H (Grow.refl gk) ?_⟩)
      have : (valV ps k).isSome = hasK kvs k := by
        rw [zpr]
        cases eg : getK kvs k with
        | none => rw [zjL rs eg]; rfl
        | some d => obtain ⟨v,h1,_⟩ := zl2 rs d eg; rw [h1]; rfl
      rw [this]
      exact .scl (.bl _)
  | str y =>
    cases d1 with
    | str z => cases e; exact .inr (.inr ⟨z,y,r1.str gk,r2.str gk,q _ G H (Grow.refl gk) (.scl (.bl _))⟩)
    | _ => cases e
  | _ => cases e
theorem zpl {K : PySem.W.Frag} : OpD K (rInA K false) inD := by
  have h := zjH (K := K) false
  have e : (fun x c => (inB x c).map fun b => D.bl (if false = true then ! b else b)) = inD := by
    funext x c; unfold inD; cases inB x c <;> rfl
  rw [e] at h; exact h
theorem zoT {K : PySem.W.Frag} : OpD K (rInA K true) ninD := by
  have h := zjH (K := K) true
  have e : (fun x c => (inB x c).map fun b => D.bl (if true = true then ! b else b)) = ninD := by
    funext x c; unfold ninD; cases inB x c <;> rfl
  rw [e] at h; exact h
theorem s_in (hu : X.A.units + 1 < cLine) (ha : SB X g m a fa) (hb : SB X g m b fb) (hm : behindInMarks .In b = false := by rfl) : SE X g m (.Compare a [.In] [b] pos) (f2 fa fb inD) := zkx (zlH hu) zpl ha hb hm
theorem q_in (hu : X.A.units + 1 < cLine) (ha : SB X g m a fa) (hb : SB X g m b fb) (hm : behindInMarks .In b = false := by rfl) : SQ X g m (.Compare a [.In] [b] pos) (za1 (f2 fa fb inD)) := zgJ (zlH hu) zpl ha hb hm
theorem zop (hu : X.A.units + 1 < cLine) (ha : SB X g m a fa) (hb : SB X g m b fb) (hm : behindInMarks .NotIn b = false := by rfl) : SQ X g m (.Compare a [.NotIn] [b] pos) (za1 (f2 fa fb ninD)) := zgJ (zmJ hu) zoT ha hb hm
noncomputable def isD : D→D→Option D
  | .non,.non => some (.bl true)
  | _,.non => some (.bl false)
  | _,_ => none
noncomputable def isnD : D→D→Option D
  | .non,.non => some (.bl false)
  | _,.non => some (.bl true)
  | _,_ => none
end
end DL
end
section
namespace DL
open PySem PySem.Spec PyProof.Rows L2
section
variable {X : Cx} {g : GE} {m mb : List Md} {e a b o c : Expr} {f fa fb fc : FE} {pos pos' p1 p2 : Pos} {ro : Bool} {x : Str}
noncomputable def rIxD : R2 := fun x y H Q => ∃ a v,x = .ref a∧DGet H a y (some v)∧Q v H
theorem zph (hu : X.A.units + 1 < cLine) : IxR X rIxD := by
  intro value slice pins s σ H x y v u Q I rx ry h hs
  obtain ⟨a,w,rfl,hg,q⟩ := h
  cases rx
  exact tail_any (zgY I hg) PySem.F.slot_dict_getitem.lookup (zjY hu I hg ry fun w' s' I' rw' => ⟨w,H,I',rw',q⟩) hs
noncomputable def ixA : D→D→Option D
  | .dic kvs,k => (keyD k).bind (getK kvs)
  | c,k => ixD c k
theorem zpi {K : PySem.W.Frag} : OpD K (fun x y H Q => rIxD x y H Q∨rIx K x y H Q) ixA := by
  intro G H v1 v2 d1 d2 d Q gk r1 r2 e q
  cases d1 with
  | dic kvs =>
    obtain ⟨a,ps,rfl,hs,rs⟩ := r1.dic gk
    have e' : (keyD d2).bind (getK kvs) = some d := e
    cases ek : keyD d2 with
    | none => rw [ek] at e'; cases e'
    | some k =>
      rw [ek] at e'
      obtain ⟨v,h1,h2⟩ := zl2 rs d e'
      refine .inl ⟨a,v,rfl,?_,q v G H (Grow.refl gk) h2⟩
      rw [zjx gk r2 ek,← h1]
      exact .inl ⟨ps,k,hs,rfl,rfl⟩
  | lst ds => exact .inr (zm6 G H v1 v2 _ d2 d Q gk r1 r2 e q)
  | tup ds => exact .inr (zm6 G H v1 v2 _ d2 d Q gk r1 r2 e q)
  | str ds => exact .inr (zm6 G H v1 v2 _ d2 d Q gk r1 r2 e q)
  | _ => cases e
theorem zaH (hu : X.A.units + 1 < cLine) (ha : SB X g m a fa) (hb : SB X g m b fb) (hs : zg7 b := by intro _ _; rfl) : SE X g m (.Subscript a b pos) (f2 fa fb ixA) := zmn zpi (zoC (IxR.or (zph hu) zpg) ha hb hs)
theorem zjb : SO X g m (.Dict [] [] pos) fun _ => .ok (.dic []) :=
  PE.imp zkL fun σ H Q ⟨r,G,si,q⟩ p hp => q p G _ (Grow.new si.gok hp _) hp ⟨si.gok.isN hp,.dic zan .nil⟩
noncomputable def putD (kvs : List (Key × D)) (k : Key) (d : D) : List (Key × D) := if (kvs.any fun kv => decide (kv.1 = k)) = true then kvs.map fun kv => if kv.1 = k then (kv.1,d) else kv else kvs++[(k,d)]
theorem zlu {K : PySem.W.Frag} {G : GH} {k : Key} {ps : List (Key × V)} {kvs : List (Key × D)} (h : RKs K G ps kvs) : (ps.any fun kv => decide (kv.1 = k)) = kvs.any fun kv => decide (kv.1 = k) := by
  induction h with
  | nil => rfl
  | cons r t ih => rw [List.any_cons,List.any_cons,ih,r.1]
theorem zqp {K : PySem.W.Frag} {G : GH} {ps : List (Key × V)} {kvs : List (Key × D)} {k : Key} {v : V} {d : D} (r : RKs K G ps kvs) (h : RG K G v d) : RKs K G (putK ps k v) (putD kvs k d) := by
  unfold putK putD
  rw [zlu r]
  by_cases hc : (kvs.any fun kv => decide (kv.1 = k)) = true
  · rw [if_pos hc,if_pos hc]
    clear hc
    induction r with
    | nil => exact .nil
    | @cons p q ps kvs r t ih =>
      refine .cons ?_ ih
      obtain ⟨p1,p2⟩ := p
      obtain ⟨q1,q2⟩ := q
      have e : p1 = q1 := r.1
      subst e
      by_cases hk : p1 = k
      · simp only [hk,if_true,true_and]; exact h
      · simp only [hk,if_false,true_and]; exact r.2
  · rw [if_neg hc,if_neg hc]
    exact Paired.snoc r ⟨rfl,h⟩
noncomputable def stoD : D→D→D→Option D
  | .lst ds,.int k,v => (ixN ds.length k).map fun j => .lst (ds.set j v)
  | .dic kvs,k,v => (keyD k).bind fun k => if kvs.length < sizeLine then some (.dic (putD kvs k v)) else none
  | _,_,_ => none
noncomputable def zoj : V→V→V→Hp→(Hp→Prop)→Prop := fun o i v H Q => ∃ p H',o = .ref p∧DPut H p i v H'∧Q H'
theorem zmk (hu : X.A.units + 1 < cLine) : PSet X zoj := by
  intro pins s σ H o i v ov iv u Q I ro ri rv h
  obtain ⟨p,H',rfl,hp,q⟩ := h
  cases ro
  exact zjX hu I hp ri rv fun s' I' => ⟨H',I',q⟩
theorem PSet.or {t t' : TSet} (h : PSet X t) (h' : PSet X t') : PSet X (fun o i v H Q => t o i v H Q∨t' o i v H Q) := by
  intro pins s σ H o i v ov iv u Q I ro ri rv q
  rcases q with q | q
  · exact h pins s σ H o i v ov iv u Q I ro ri rv q
  · exact h' pins s σ H o i v ov iv u Q I ro ri rv q
theorem znM {K : PySem.W.Frag} {G : GH} {H : Hp} {a : Addr} {d k v d' : D} {kv vv : V} {Q : Hp→Prop} (gk : GOk K G H) (ow : Own K G H a d) (rk : RB K G H kv k) (rv : RG K G vv v) (e : stoD d k v = some d') (q : ∀ o',OwnO K G (upd H a o') a d'→Q (upd H a o')) :
    zoi (.ref a) kv vv H Q∨zoj (.ref a) kv vv H Q := by
  cases ow.ob with
  | @lst xs ds r s =>
    cases k with
    | int k =>
      have e' : (ixN ds.length k).map (fun j => D.lst (ds.set j v)) = some d' := e
      cases ej : ixN ds.length k with
      | none => rw [ej] at e'; cases e'
      | some j =>
        rw [ej] at e'
        cases e'
        exact .inl ⟨a,xs,k,j,rfl,rk.int gk,r,by rw [Paired.length s]; exact ej,q _ (.lst zan (Paired.st rv j s))⟩
    | _ => cases e
  | @dic ps kvs r s =>
    have e' : (keyD k).bind (fun k => if kvs.length < sizeLine then some (D.dic (putD kvs k v)) else none) = some d' := e
    cases ek : keyD k with
    | none => rw [ek] at e'; cases e'
    | some k' =>
      rw [ek] at e'
      have e2 : (if kvs.length < sizeLine then some (D.dic (putD kvs k' v)) else none) = some d' := e'
      by_cases hl : kvs.length < sizeLine
      · rw [if_pos hl] at e2
        cases e2
        have := Paired.length s
        refine .inr ⟨a,_,rfl,?_,q _ (.dic zan (zqp s rv))⟩
        rw [zjx gk rk ek]
        exact DPut.k r (by omega)
      · rw [if_neg hl] at e2; cases e2
noncomputable def putF (m : List Md) (i : Nat) (fk fv : FE) : FS := fun r => onE m r (fv r) fun v => match r[i]? with
  | some (some d) => onE m r (fk r) fun k => (match stoD d k v with
    | some d' => .nx (r.set i (some d'))
    | none => .stuck)
  | _ => .stuck
theorem zhQ (i : Nat) (hu : X.A.units + 1 < cLine) (hm : m[i]? = some .ow) (hN : X.N[i]? = some x) (hv : Vis X.env.scope x) (hk : SB X g m b fb) (he : SE X g m e f)
    (hd : (x == ("__debug__" : Str)) = false := by decide) (hcd : (x == ("__classdict__" : Str)) = false := by decide)
    (ha : ∀ v,assign (.Subscript (.Name x p1) b p2) X.env v = (do
      let ov ← holding [v] (eval (.Name x p1) X.env)
      let iv ← holding [v,ov] (eval b X.env)
      standAt p2
      holding [v,ov,iv] (setItem ov iv v)
      release [v,ov,iv] []) := by intro _; rfl)
    (hs : swapsWithSole [.Subscript (.Name x p1) b p2] e pos.line X.env = pure false := by rfl) (hw : swappedStores [.Subscript (.Name x p1) b p2] e X.env = pure none := by rfl)
    (h1 : (assignEach [.Subscript (.Name x p1) b p2] X.env).map (·.2) = [assign (.Subscript (.Name x p1) b p2) X.env] := by rfl) :
    SS X g ro mb m (.Assign [.Subscript (.Name x p1) b p2] e pos) (putF m i fb f) m := by
  refine ⟨rfl,PS.imp (zlE he (zox (zdS hN hv hd hcd) hk (PSet.or zku (zmk hu)) ha) hs hw h1) fun D0 σ H ⟨r,G,si,k⟩ => ⟨r,G,si,?_⟩⟩
  refine zaf (za3 si rfl k) fun v k1 vv G1 H1 w1 rv => ?_
  cases er : r[i]? with
  | none => simp only [er] at k1; exact (show False from k1).elim
  | some oo =>
    cases oo with
    | none => simp only [er] at k1; exact (show False from k1).elim
    | some d =>
      simp only [er] at k1
      obtain ⟨a,h1,h2,h3⟩ := (si.grow w1).mut hm er
      refine ⟨_,h1,r,G1,si.grow w1,?_⟩
      refine zaf (za3 (m := m) (si.grow w1) rfl (oTo.gle k1 w1.ge)) fun kk k2 kv G2 H2 w2 rk => ?_
      cases es : stoD d kk v with
      | none => simp only [es] at k2; exact (show False from k2).elim
      | some d' =>
        simp only [es] at k2
        obtain ⟨a',h1',h2',h3'⟩ := ((si.grow w1).grow w2).mut hm er
        rw [h1] at h1'; cases h1'
        exact znM w2.ok h2' rk (rv.mono w2.ge) es fun o' ob => k2 σ G2 _ w2.ge (h3' o' d' ob)
end
mutual
noncomputable def toPy : D→PyData
  | .non => .none
  | .bl b => .bool b
  | .int i => .int i
  | .str x => .str x
  | .tup ds => .tuple (zbg ds)
  | .lst ds => .list (zbg ds)
  | .dic _ => .none
  | .obj _ _ => .none
noncomputable def zbg : List D→List PyData
  | [] => []
  | d::ds => toPy d::zbg ds
end
noncomputable def Shp : Nat→D→Prop
  | _,.non => True
  | _,.bl _ => True
  | _,.int _ => True
  | _,.str x => PyData.strOk x = true
  | 0,.tup _ => False
  | 0,.lst _ => False
  | k + 1,.tup ds => ∀ d∈ds,Shp k d
  | k + 1,.lst ds => ∀ d∈ds,Shp k d
  | _,.dic _ => False
  | _,.obj _ _ => False
theorem zdB {k : Nat} {ds : List D} : Shp (k + 1) (.lst ds)↔∀ d∈ds,Shp k d := by simp only [Shp]
theorem zbO {k : Nat} {ds : List D} : Shp (k + 1) (.tup ds)↔∀ d∈ds,Shp k d := by simp only [Shp]
noncomputable def eqb (a b : D) : Bool := PyData.eqv (toPy a) (toPy b)
section
variable {X : Cx} {pins : List (Addr × Obj)} {σ : L2.St} {H : Hp} {s : Shared} {G : GH}
theorem zf3 {k : Nat} (ih : ∀ (d : D) (v : V) (u : Value),Shp k d→RG X.K G v d→L2.RelV v u→∃ as,Reads s.heap u (toPy d) as) (ds : List D) (vs : List V) (us : List Value) (h : ∀ d∈ds,Shp k d) (r : RGs X.K G vs ds) (q : Vals vs us) : ∃ as,ReadsAll s.heap us (zbg ds) as := by
  induction r generalizing us with
  | nil => cases q; exact ⟨[],.nil⟩
  | cons r t ih' =>
    cases q with
    | cons r' t' =>
      obtain ⟨a1,h1⟩ := ih _ _ _ (h _ List.mem_cons_self) r r'
      obtain ⟨a2,h2⟩ := ih' _ (fun x hx => h x (List.mem_cons_of_mem _ hx)) t'
      exact ⟨a1++a2,.cons h1 h2⟩
theorem zb1 (I : Inv X pins σ H s) (gk : GOk X.K G H) : ∀ (k : Nat) (d : D) (v : V) (u : Value),Shp k d→RB X.K G H v d→L2.RelV v u→∃ as,Reads s.heap u (toPy d) as := by
  intro k
  induction k with
  | zero =>
    intro d v u hs r ru
    cases d with
    | non => rw [r.non gk] at ru; cases ru; exact ⟨_,.none⟩
    | bl b => rw [r.bl gk] at ru; cases ru; exact ⟨_,.bool b⟩
    | int i => rw [r.int gk] at ru; obtain ⟨t,rfl⟩ := ru; exact ⟨_,.int i t⟩
    | str x => rw [r.str gk] at ru; obtain ⟨t,rfl⟩ := ru; exact ⟨_,.str x t⟩
    | tup _ => unfold Shp at hs; exact hs.elim
    | lst _ => unfold Shp at hs; exact hs.elim
    | dic _ => unfold Shp at hs; exact hs.elim
    | obj _ _ => unfold Shp at hs; exact hs.elim
  | succ k ih =>
    intro d v u hs r ru
    cases d with
    | non => rw [r.non gk] at ru; cases ru; exact ⟨_,.none⟩
    | bl b => rw [r.bl gk] at ru; cases ru; exact ⟨_,.bool b⟩
    | int i => rw [r.int gk] at ru; obtain ⟨t,rfl⟩ := ru; exact ⟨_,.int i t⟩
    | str x => rw [r.str gk] at ru; obtain ⟨t,rfl⟩ := ru; exact ⟨_,.str x t⟩
    | tup ds =>
      obtain ⟨a,xs,rfl,sq,rs⟩ := r.tup gk
      cases ru
      obtain ⟨its,rv,pl,_⟩ := I.tuple sq
      obtain ⟨o,ho,hc,n,hd⟩ := pl
      obtain ⟨as,h⟩ := zf3 (k := k) (fun d v u h1 h2 h3 => ih d v u h1 h2.rb h3) ds xs its (zbO.mp hs) rs rv
      refine ⟨as,?_⟩
      unfold toPy
      exact .tuple ho hc hd (by simpa using h)
    | lst ds =>
      obtain ⟨a,xs,rfl,sq,rs⟩ := r.lst gk
      cases ru
      obtain ⟨its,rv,pl,_⟩ := I.list sq
      obtain ⟨o,ho,hc,n,hd⟩ := pl.isList
      obtain ⟨as,h⟩ := zf3 (k := k) (fun d v u h1 h2 h3 => ih d v u h1 h2.rb h3) ds xs its (zdB.mp hs) rs rv
      refine ⟨a::as,?_⟩
      unfold toPy
      exact .list ho hc hd (by simpa using h)
    | dic _ => unfold Shp at hs; exact hs.elim
    | obj _ _ => unfold Shp at hs; exact hs.elim
theorem zeq {k : Nat} (ih : ∀ d,Shp k d→PyData.canLay0 (toPy d) = true∧PyData.depth (toPy d)≤k) : ∀ ds : List D,(∀ d∈ds,Shp k d)→PyData.canLayAll0 (zbg ds) = true∧PyData.depthAll (zbg ds)≤k
  | [],_ => by unfold zbg PyData.canLayAll0 PyData.depthAll; exact ⟨rfl,Nat.zero_le _⟩
  | d::ds,h => by
    obtain ⟨a1,a2⟩ := ih d (h d List.mem_cons_self)
    obtain ⟨b1,b2⟩ := zeq ih ds fun x hx => h x (List.mem_cons_of_mem _ hx)
    unfold zbg PyData.canLayAll0 PyData.depthAll
    rw [a1,b1]
    exact ⟨rfl,Nat.max_le.mpr ⟨a2,b2⟩⟩
theorem zfV : ∀ (k : Nat) (d : D),Shp k d→PyData.canLay0 (toPy d) = true∧PyData.depth (toPy d)≤k := by
  intro k
  induction k with
  | zero =>
    intro d hs
    cases d with
    | non => unfold toPy PyData.canLay0 PyData.depth; exact ⟨rfl,Nat.zero_le _⟩
    | bl b => unfold toPy PyData.canLay0 PyData.depth; exact ⟨rfl,Nat.zero_le _⟩
    | int i => unfold toPy PyData.canLay0 PyData.depth; exact ⟨rfl,Nat.zero_le _⟩
    | str x => unfold Shp at hs; unfold toPy PyData.canLay0 PyData.depth; exact ⟨hs,Nat.zero_le _⟩
    | tup _ => unfold Shp at hs; exact hs.elim
    | lst _ => unfold Shp at hs; exact hs.elim
    | dic _ => unfold Shp at hs; exact hs.elim
    | obj _ _ => unfold Shp at hs; exact hs.elim
  | succ k ih =>
    intro d hs
    cases d with
    | non => unfold toPy PyData.canLay0 PyData.depth; exact ⟨rfl,Nat.zero_le _⟩
    | bl b => unfold toPy PyData.canLay0 PyData.depth; exact ⟨rfl,Nat.zero_le _⟩
    | int i => unfold toPy PyData.canLay0 PyData.depth; exact ⟨rfl,Nat.zero_le _⟩
    | str x => unfold Shp at hs; unfold toPy PyData.canLay0 PyData.depth; exact ⟨hs,Nat.zero_le _⟩
    | tup ds =>
      obtain ⟨b1,b2⟩ := zeq ih ds (zbO.mp hs)
      unfold toPy PyData.canLay0 PyData.depth
      exact ⟨b1,Nat.succ_le_succ b2⟩
    | lst ds =>
      obtain ⟨b1,b2⟩ := zeq ih ds (zdB.mp hs)
      unfold toPy PyData.canLay0 PyData.depth
      exact ⟨b1,Nat.succ_le_succ b2⟩
    | dic _ => unfold Shp at hs; exact hs.elim
    | obj _ _ => unfold Shp at hs; exact hs.elim
theorem zdr {d : D} (h : Shp 60 d) : SeqAt.shaped (toPy d) = true := by
  obtain ⟨a,b⟩ := zfV 60 d h
  unfold SeqAt.shaped
  rw [a,decide_eq_true (Nat.le_trans b (by decide))]
  rfl
end
section
variable {X : Cx} {g : GE} {m mb : List Md} {e a b o c : Expr} {f fa fb fc : FE} {pos pos' : Pos}
noncomputable def zhP (a b : D) : Bool := zbT a && zbT b && scal (toV a) (toV b)
open Classical in
noncomputable def eqB (a b : D) : Option Bool := if zhP a b = true then some (eqs a b) else if Shp 60 a∧Shp 60 b then some (eqb a b) else none
noncomputable def eqD (a b : D) : Option D := (eqB a b).map .bl
noncomputable def neD (a b : D) : Option D := (eqB a b).map fun c => .bl (! c)
theorem zfA {a b : D} (h : zhP a b = false) (h1 : Shp 60 a) (h2 : Shp 60 b) : eqB a b = some (eqb a b) := by
  unfold eqB
  rw [if_neg (by rw [h]; exact Bool.false_ne_true),if_pos ⟨h1,h2⟩]
theorem zld {a b : D} (h : zhP a b = true) : eqB a b = some (eqs a b) := by
  unfold eqB
  rw [if_pos h]
@[simp] theorem eqB_int (a b : Int) : eqB (.int a) (.int b) = some (a == b) := zld rfl
theorem zhm {a b : D} (h : scal (toV a) (toV b) = true) (fa : zbT a = true) (fb : zbT b = true) : decide (toV a = toV b) = eqs a b := by
  cases a <;> cases b <;> first
    | exact absurd (show false = true from fa) Bool.false_ne_true
    | exact absurd (show false = true from fb) Bool.false_ne_true
    | exact absurd (show false = true from h) Bool.false_ne_true
    | exact zg1
    | exact zjV
    | exact zg0
    | rfl
    | simp [toV,eqs,eqV]
noncomputable def zfm (K : PySem.W.Frag) (neg : Bool) : R2 := fun x y H Q => ∃ (G : GH) (d1 d2 : D),GOk K G H∧RB K G H x d1∧RB K G H y d2∧Shp 60 d1∧Shp 60 d2∧Q (.bl (if neg then ! eqb d1 d2 else eqb d1 d2)) H
theorem zf9 (hu : X.A.units + 64 < cLine) : OpR X (compareOp .Eq) (zfm X.K false) := by
  intro pins s σ H x y v u Q I rx ry h
  obtain ⟨G,d1,d2,gk,r1,r2,s1,s2,q⟩ := h
  obtain ⟨as,h1⟩ := zb1 I gk 60 d1 x v s1 r1 rx
  obtain ⟨bs,h2⟩ := zb1 I gk 60 d2 y u s2 r2 ry
  exact SeqAt.compareEq_shaped h1 h2 (zdr s1) (zdr s2) hu ⟨.bl _,H,I,rfl,q⟩
theorem zi3 (hu : X.A.units + 64 < cLine) : OpR X (compareOp .NotEq) (zfm X.K true) := by
  intro pins s σ H x y v u Q I rx ry h
  obtain ⟨G,d1,d2,gk,r1,r2,s1,s2,q⟩ := h
  obtain ⟨as,h1⟩ := zb1 I gk 60 d1 x v s1 r1 rx
  obtain ⟨bs,h2⟩ := zb1 I gk 60 d2 y u s2 r2 ry
  exact SeqAt.compareNe_shaped h1 h2 (zdr s1) (zdr s2) hu ⟨.bl _,H,I,rfl,q⟩
theorem eq_cases {a b : D} {c : Bool} (h : eqB a b = some c) : (zhP a b = true∧c = eqs a b)∨(Shp 60 a∧Shp 60 b∧c = eqb a b) := by
  unfold eqB at h
  split at h
  · rename_i hs; cases h; exact .inl ⟨hs,rfl⟩
  · split at h
    · rename_i hs; cases h; exact .inr ⟨hs.1,hs.2,rfl⟩
    · cases h
theorem zpD {K : PySem.W.Frag} : OpD K (fun x y H Q => rEq x y H Q∨zfm K false x y H Q) eqD := by
  intro G H v1 v2 d1 d2 d Q gk r1 r2 e q
  unfold eqD at e
  cases ec : eqB d1 d2 with
  | none => rw [ec] at e; cases e
  | some c =>
    rw [ec] at e
    cases e
    rcases eq_cases ec with ⟨hs,rfl⟩ | ⟨s1,s2,rfl⟩
    · unfold zhP at hs
      rw [Bool.and_eq_true,Bool.and_eq_true] at hs
      obtain ⟨e1,_⟩ := RB.flat r1 gk hs.1.1
      obtain ⟨e2,_⟩ := RB.flat r2 gk hs.1.2
      refine .inl ⟨by rw [e1,e2]; exact hs.2,?_⟩
      rw [e1,e2,zhm hs.2 hs.1.1 hs.1.2]
      exact q _ G H (Grow.refl gk) (.scl (.bl _))
    · exact .inr ⟨G,d1,d2,gk,r1,r2,s1,s2,q _ G H (Grow.refl gk) (.scl (.bl _))⟩
theorem zqx {K : PySem.W.Frag} : OpD K (fun x y H Q => rNe x y H Q∨zfm K true x y H Q) neD := by
  intro G H v1 v2 d1 d2 d Q gk r1 r2 e q
  unfold neD at e
  cases ec : eqB d1 d2 with
  | none => rw [ec] at e; cases e
  | some c =>
    rw [ec] at e
    cases e
    rcases eq_cases ec with ⟨hs,rfl⟩ | ⟨s1,s2,rfl⟩
    · unfold zhP at hs
      rw [Bool.and_eq_true,Bool.and_eq_true] at hs
      obtain ⟨e1,_⟩ := RB.flat r1 gk hs.1.1
      obtain ⟨e2,_⟩ := RB.flat r2 gk hs.1.2
      refine .inl ⟨by rw [e1,e2]; exact hs.2,?_⟩
      rw [e1,e2,zhm hs.2 hs.1.1 hs.1.2]
      exact q _ G H (Grow.refl gk) (.scl (.bl _))
    · exact .inr ⟨G,d1,d2,gk,r1,r2,s1,s2,q _ G H (Grow.refl gk) (.scl (.bl _))⟩
theorem s_eq (hu : X.A.units + 64 < cLine) (ha : SB X g m a fa) (hb : SB X g m b fb) : SE X g m (.Compare a [.Eq] [b] pos) (f2 fa fb eqD) := zkx (OpR.or zoO (zf9 hu)) zpD ha hb (ze2 _)
theorem q_eq (hu : X.A.units + 64 < cLine) (ha : SB X g m a fa) (hb : SB X g m b fb) : SQ X g m (.Compare a [.Eq] [b] pos) (za1 (f2 fa fb eqD)) := zgJ (OpR.or zoO (zf9 hu)) zpD ha hb (ze2 _)
theorem q_ne (hu : X.A.units + 64 < cLine) (ha : SB X g m a fa) (hb : SB X g m b fb) : SQ X g m (.Compare a [.NotEq] [b] pos) (za1 (f2 fa fb neD)) := zgJ (OpR.or zqs (zi3 hu)) zqx ha hb (ze2 _)
noncomputable def zom (K : PySem.W.Frag) : R2 := fun x y H Q => ∃ l b xs zs,x = .ref l∧y = .ref b∧SqL K H l xs∧SqL K H b zs∧xs.length + zs.length≤sizeLine∧∀ p,H p = none→Q (.ref p) (upd H p (.lst (xs++zs)))
theorem zmN : OpR X (binaryOp .Add) (zom X.K) := by
  intro pins s σ H x y v u Q I rx ry h
  obtain ⟨l,b,xs,zs,rfl,rfl,hH,hB,hz,q⟩ := h
  cases rx
  cases ry
  obtain ⟨its,r,pl,_⟩ := I.list hH
  obtain ⟨its2,r2,pl2,_⟩ := I.list hB
  have l1 := r.length
  have l2 := r2.length
  obtain ⟨⟨cls,dd,data,sl⟩,ho,hc,n,hd⟩ := pl.isList
  obtain ⟨⟨cls2,dd2,data2,sl2⟩,ho2,hc2,n2,hd2⟩ := pl2.isList
  simp only at hc hd hc2 hd2
  subst hc hd hc2 hd2
  have e : its.toArray++its2.toArray = (its++its2).toArray := by simp
  refine concat_meets ⟨_,ho,rfl⟩ ⟨_,ho2,rfl⟩ noFill_list_add seq_list_add PySem.F.slot_list_add PySem.F.entry_list_add (PySem.F.args_list_add_2 _ _) (list_addW _ _ its.toArray its2.toArray n n2 dd dd2 sl sl2 (by simp; omega)) ⟨ho,ho2,?_⟩
  rw [e]
  exact ⟨.ref _,_,I.lnew (t' := s.toks) (r.append r2) (by rw [List.length_append]; omega),rfl,q _ I.fresh⟩
noncomputable def addA : D→D→Option D
  | .int a,.int b => some (.int (a + b))
  | .str a,.str b => if a.length + b.length≤sizeLine then some (.str (a++b)) else none
  | .lst a,.lst b => if a.length + b.length≤sizeLine then some (.lst (a++b)) else none
  | .tup (x::a),.tup b => if (x::a).length + b.length≤sizeLine then some (.tup (x::a++b)) else none
  | _,_ => none
theorem znr {K : PySem.W.Frag} : OpD K (fun x y H Q => (∃ i j,x = .int i∧y = .int j∧Q (.int (i + j)) H)∨(∃ i j,x = .str i∧y = .str j∧i.length + j.length≤sizeLine∧Q (.str (i++j)) H)∨zom K x y H Q∨zol K x y H Q) addA := by
  intro G H v1 v2 d1 d2 d Q gk r1 r2 e q
  unfold addA at e
  split at e
  · cases e
    exact .inl ⟨_,_,r1.int gk,r2.int gk,q _ G H (Grow.refl gk) (.scl (.int _))⟩
  · split at e
    · rename_i hl
      cases e
      exact .inr (.inl ⟨_,_,r1.str gk,r2.str gk,hl,q _ G H (Grow.refl gk) (.scl (.str _))⟩)
    · cases e
  · split at e
    · rename_i hl
      cases e
      obtain ⟨a,xs,rfl,s1,t1⟩ := r1.lst gk
      obtain ⟨b,ys,rfl,s2,t2⟩ := r2.lst gk
      have l1 := Paired.length t1
      have l2 := Paired.length t2
      exact .inr (.inr (.inl ⟨a,b,xs,ys,rfl,rfl,s1,s2,by omega,fun p hp => q _ _ _ (Grow.newF gk hp (.lst (.inl zan) (Paired.app t1 t2))) (.ref zas)⟩))
    · cases e
  · split at e
    · rename_i x0 a0 b0 hl
      cases e
      rcases r1 with r1 | ⟨a',_,oo⟩
      · obtain ⟨a,xs,rfl,s1,t1⟩ := r1.tup gk
        obtain ⟨b,ys,rfl,s2,t2⟩ := r2.tup gk
        have l1 := Paired.length t1
        have l2 := Paired.length t2
        refine .inr (.inr (.inr ⟨a,b,xs,ys,rfl,rfl,s1,s2,?_,by omega,fun hy => ?_,fun _ p hp => q _ _ _ (Grow.newF gk hp (.tup (.inl zan) (Paired.app t1 t2))) (.ref zas)⟩))
        · rintro rfl
          cases t1
        · subst hy
          cases t2
          refine q _ G H (Grow.refl gk) ?_
          rw [List.append_nil]
          exact r1
      · cases oo.ob
    · cases e
  · cases e
theorem zbQ (ha : SB X g m a fa) (hb : SB X g m b fb) : SE X g m (.BinOp a .Add b pos) (f2 fa fb addA) := zfZ (OpR.or zoP (OpR.or zh1 (OpR.or zmN zmM))) znr ha hb
end
end DL
end
section
namespace DL
open PySem PySem.Spec PyProof.Rows L2
structure DefAt (K : PySem.W.Frag) (mg : Str→Option Value) (x : Str) (st : Stmt) : Prop where
  ex : ∃ f fd,mg x = some (.ref f)∧Fun K x x st f fd
structure Callee (P : Program) (w : World) (K : PySem.W.Frag) (mg : Str→Option Value) (base : Heap) (x : Str) (ps : List Str) (ds : List Value) (k : Nat) (ro : Bool) (ms : List Md) (F : List D→Res D) : Prop where
  ex : ∃ f fd,mg x = some (.ref f)∧PySem.W.keepIn K (.ref f) = true∧zfK K fd ps ds∧FnOk P w K mg base CX0 k f fd ps (spM K ro ms F)
section
variable {P : Program} {w : World} {K : PySem.W.Frag} {mg : Str → Option Value} {base : Heap}
theorem zaL {x : Str} {st : Stmt} {N ps : List Str} {k : Nat} {ro : Bool} {ms : List Md} {fs : FS} {m' : List Md} (A : DefAt K mg x st) (S : FnScope N ps (zab st)) (hms : ms.length = ps.length)
    (hb : ∀ (kV doc pm : Value) (an : Option Addr) (cdv ct : Value) (us : List Value),us.length = ps.length→bindArgs (PySem.W.fnOf x x (zcI st) (zbU st) (zab st) .none kV doc pm an cdv ct) ⟨us,[]⟩ = pure (ps.zip us))
    (hbody : ∀ (f : Addr) (cdv : Value) (A : Around) (outer : List Env) (s : Shared) (H : Hp) (g : GE) (E : XK),Room k (A.deeper (envOfC x (zab st) s.heap.objs.size f cdv)) →
      SSs (cxOf CX0 P w K mg base N x (zab st) f cdv A outer s H E).nox g ro [] (zej N.length ms) (zbU st) fs m') :
    Callee P w K mg base x ps [] (k + 1) ro ms fun ds => outR ro (fs (zar N.length ds)) := by
  obtain ⟨f,fd,h1,F⟩ := A.ex
  exact ⟨f,fd,h1,F.kp,F.binds hb,zl1 F S hms (hbody f)⟩
structure DefAtD (K : PySem.W.Frag) (mg : Str→Option Value) (x : Str) (st : Stmt) (dds : List Value) : Prop where
  ex : ∃ (f T : Addr) (o : Obj) (n : Nat) (oc : Value) (od : Option Addr) (kV doc pm : Value) (an : Option Addr) (cdv ct : Value) (osl : Array (Option Value)),
    mg x = some (.ref f)∧K.lookup T = some o∧o.data = .seq dds.toArray n∧K.lookup f = some ⟨oc,od,.func (PySem.W.fnOf x x (zcI st) (zbU st) (zab st) (.ref T) kV doc pm an cdv ct),osl⟩∧PySem.W.codeIn K cdv x = true∧PySem.W.keepIn K (.ref f) = true
end
section
variable {X : Cx} {g : GE} {m : List Md} {e : Expr} {es : List Expr} {fl : Rho → Res (List D)} {k : Nat} {ps : List Str} {F : List D → Res D} {dvs : List V} {ds : List Value} {dds : List D} {x : Str} {p pos : Pos} {i : Nat} {ms ms' : List Md}
theorem zat (c : Callee X.prog X.w X.K X.mg X.base x ps ds k false ms' F) (hr : Room k X.A) (ha : SAM X g m (e::es) ms fl) (hms : ms' = ms++List.replicate dds.length .sh := by rfl) (hg : Gl X x := by rfl) (hd : Vals dvs ds := by exact .nil) (hsc : Paired Scl dvs dds := by exact .nil)
    (hdb : (x == ("__debug__" : Str)) = false := by decide) (he : starEach (e::es) X.env = (false,eval e X.env)::starEach es X.env := by rfl) (hpl : (backTo pos (starEach es X.env)).any (·.1) = false := by rfl) :
    SE X g m (.Call (.Name x p) (e::es) [] pos) (zau fl dds F) := by
  subst hms
  obtain ⟨f,fd,h1,h2,h3,h4⟩ := c.ex
  exact zn5 h4 hr hg h1 h2 h3 hd hsc ha hdb he hpl
theorem zni (c : Callee X.prog X.w X.K X.mg X.base x ps ds k true ms' F) (hr : Room k X.A) (ha : SAM X g m (e::es) ms fl) (hms : ms' = ms++List.replicate dds.length .sh := by rfl) (hg : Gl X x := by rfl) (hd : Vals dvs ds := by exact .nil) (hsc : Paired Scl dvs dds := by exact .nil)
    (hdb : (x == ("__debug__" : Str)) = false := by decide) (he : starEach (e::es) X.env = (false,eval e X.env)::starEach es X.env := by rfl) (hpl : (backTo pos (starEach es X.env)).any (·.1) = false := by rfl) :
    SO X g m (.Call (.Name x p) (e::es) [] pos) (ownF (zau fl dds F)) := by
  subst hms
  obtain ⟨f,fd,h1,h2,h3,h4⟩ := c.ex
  exact zoR h4 hr hg h1 h2 h3 hd hsc ha hdb he hpl
theorem v_ (i : Nat) (hm : m[i]? = some .sh := by rfl) (hN : X.N[i]? = some x := by rfl) (hv : Vis X.env.scope x := by first | exact Or.inl rfl | exact Or.inr (Or.inl rfl) | exact Or.inr (Or.inr rfl)) (hd : (x == ("__debug__" : Str)) = false := by decide) (hcd : (x == ("__classdict__" : Str)) = false := by decide) :
    SE X g m (.Name x p) fun r => getV r i := zqd i hm hN hv hd hcd
theorem vb_ (i : Nat) (hm : i < m.length := by decide) (hN : X.N[i]? = some x := by rfl) (hv : Vis X.env.scope x := by first | exact Or.inl rfl | exact Or.inr (Or.inl rfl) | exact Or.inr (Or.inr rfl)) (hd : (x == ("__debug__" : Str)) = false := by decide) (hcd : (x == ("__classdict__" : Str)) = false := by decide) :
    SB X g m (.Name x p) fun r => getV r i := znU i hm hN hv hd hcd
end
end DL
end
section
namespace DL
open PySem PySem.Spec PyProof.Rows L2
noncomputable def zj3 (osc : Scope) (ON : List Str) (sc : Scope) (N' : List Str) (nl : Nat) (cap : List Nat) : Bool :=
  decide (sc.kind = .function) && sc.names.all (fun y => decide (y.2≠.cell)) && sc.names.all (fun y => decide (y.2≠.local) || decide (sc.names.lookup y.1 = some .local)) &&
  sc.names.all (fun y => decide (y.2≠.free) || (decide (osc.names.lookup y.1 = some .cell) || decide (osc.names.lookup y.1 = some .free))) && decide (N'.length = nl + cap.length) &&
  (List.range cap.length).all fun j => match N'[nl + j]?,ON[cap.getD j 0]? with
    | some x,some y => decide (x = y) && decide (sc.names.lookup x = some .free)
    | _,_ => false
theorem zaX {X : Cx} {osc : Scope} {ON : List Str} {sc : Scope} {N' : List Str} {nl : Nat} {cap : List Nat} (h1 : X.env.scope = osc) (h2 : X.N = ON) (h : zj3 osc ON sc N' nl cap = true) : CompSc X sc N' nl cap := by
  subst h1 h2
  unfold zj3 at h
  simp only [Bool.and_eq_true,List.all_eq_true,decide_eq_true_eq,Bool.or_eq_true] at h
  obtain ⟨⟨⟨⟨⟨a1,a2⟩,a3⟩,a4⟩,a5⟩,a6⟩ := h
  refine ⟨a1,a2,fun y hy hl => (a3 y hy).resolve_left fun z => z hl,fun y hy hf => (a4 y hy).resolve_left fun z => z hf,a5,fun j hj => ?_⟩
  have h6 := a6 j (List.mem_range.mpr hj)
  cases e1 : N'[nl + j]? with
  | none => rw [e1] at h6; cases h6
  | some x =>
    cases e2 : X.N[cap.getD j 0]? with
    | none => rw [e1,e2] at h6; cases h6
    | some y =>
      rw [e1,e2] at h6
      simp only [Bool.and_eq_true,decide_eq_true_eq] at h6
      exact ⟨x,rfl,by rw [h6.1],h6.2⟩
section
variable {X : Cx} {g : GE} {m mb : List Md} {e a b c : Expr} {f fa fb fc : FE} {pos pos' : Pos}
end
end DL
end
section
namespace DL
open PySem PySem.Spec PyProof.Rows L2
theorem zqV {K : PySem.W.Frag} {h : Heap} {mg : Str→Option Value} {x : Str} {st : Stmt} (KX : K.In h) (G : h.Ns mainGlobals mg) {f : Addr} {oc : Value} {od an : Option Addr} {osl : Array (Option Value)} {kV doc pm cdv ct : Value} (a : PySem.W.nsIn K mainGlobals x = some (some (.ref f)))
    (l : K.lookup f = some ⟨oc,od,.func (PySem.W.fnOf x x (zcI st) (zbU st) (zab st) .none kV doc pm an cdv ct),osl⟩) (c : PySem.W.codeIn K cdv x = true) (k : PySem.W.keepIn K (.ref f) = true) : DefAt K mg x st :=
  ⟨f,_,PySem.W.mg_of KX G a,zpw l c k⟩
theorem zqU {P : Program} {w : World} {K : PySem.W.Frag} {mg : Str→Option Value} {x p : Str} {st : Stmt} {k : Nat} {F : List D→Res D} {fa : Addr} (hfa : mg x = some (.ref fa)) (A : DefAt K mg x st)
    (hb : ∀ (kV doc pm : Value) (an : Option Addr) (cdv ct : Value) (us : List Value),us.length = [p].length→bindArgs (PySem.W.fnOf x x (zcI st) (zbU st) (zab st) .none kV doc pm an cdv ct) ⟨us,[]⟩ = pure ([p].zip us))
    (C : ∀ (f : Addr) (fd : FuncData),Fun K x x st f fd→∀ base : Heap,FnOk P w K mg base CX0 k f fd [p] (spM K false [.sh] F)) :
    ∃ fd : FuncData,(∀ (s : Shared) (u : Value),BindsTo s fd ⟨[u],[]⟩ [(p,u)])∧∀ base : Heap,K.In base→base.Ns mainGlobals mg→FnOk P w K mg base CX0 k fa fd [p] (spM K false [.sh] F) := by
  obtain ⟨f,fd,h1,Fn⟩ := A.ex
  rw [hfa] at h1
  cases h1
  refine ⟨fd,fun s u => ?_,fun base _ _ => C fa fd Fn base⟩
  obtain ⟨oc,od,kV,doc,pm,an,cdv,ct,osl,rfl,lk,hcd⟩ := Fn.ex
  exact .of_eq (hb kV doc pm an cdv ct [u] rfl)
theorem zqW {l : PySem.W.OpenLaw} {k : Nat} {q : Program} {loose : List Str} {XP : (Str→Option Value)→Heap→Prop} {YP : World→Heap→Prop} {d : DefRec} {K : Params→PySem.W.Frag} {x : Str} {F : List D→Res D} (hn : l.most = some 63) (hdf : d.params.defaults = []) (hr : Room k callerA)
    (hY : ∀ (w : World) (h : Heap),YP w h→(K w.params).In h) (hF : ∀ ns : List Int,ns.length≤63→F [.lst (ns.map .int)] = .ok (.bl true))
    (C : ∀ (w : World) (mg : Str→Option Value) (fa : Addr) (h : Heap),(K w.params).In h→h.Ns mainGlobals mg→mg d.name = some (.ref fa) →
      ∃ fd : FuncData,(∀ (s : Shared) (u : Value),BindsTo s fd ⟨[u],[]⟩ [(x,u)])∧∀ base : Heap,(K w.params).In base→base.Ns mainGlobals mg→FnOk l.prog w (K w.params) mg base CX0 k fa fd [x] (spM (K w.params) false [.sh] F)) :
    PySem.W.WalkO q loose XP YP l.row.toRowW d [] (fun f vs => PySem.call f vs) := by
  refine L2.walk_of (n := 63) (k := k) (x := x) (CX := fun _ => CX0) (sp := fun w => spM (K w.params) false [.sh] F) hn (by decide) hdf hr hY C (fun w H a ns hl hO hS => ?_) fun _ _ _ _ _ z => z
  have intsP : ∀ (l : List Int),Paired Scl (l.map V.int) (l.map D.int) := fun l => by
    induction l with
    | nil => exact .nil
    | cons i l ih => exact .cons (.int i) ih
  rcases hS with hS | hS
  · refine ⟨fun b => if b = a then some (.lst (ns.map D.int)) else none,[.lst (ns.map .int)],fun b d' hb => ?_,.sh (.ref (if_pos rfl)) .nil,?_⟩
    · by_cases e : b = a
      · subst e
        have hb' : some (D.lst (ns.map D.int)) = some d' := (if_pos rfl).symm.trans hb
        cases hb'
        exact .lst hS (Paired.mono (fun _ _ z => .scl z) (intsP ns))
      · have hb' : (none : Option D) = some d' := (if_neg e).symm.trans hb
        cases hb'
    · rw [hF ns hl]
      intro v G' H' w' rv
      exact rv.bl w'.ok
  · refine ⟨fun _ => none,[.lst (ns.map .int)],fun b d' hb => (by cases hb),.sh (.kc (.lst (.inr hS) (intsP ns))) .nil,?_⟩
    rw [hF ns hl]
    intro v G' H' w' rv
    exact rv.bl w'.ok
end DL
end
section
namespace DL
open PySem PySem.Spec PyProof.Rows L2
open AutoSeq1 (wpAny_loadPart')
section
variable {prog : Program} {w : World} {A : Around} {E : Value → Shared → Prop} {s : Shared}
theorem zdD {it t : Addr} {i : Nat} {items} {x : Value} {Q : Value→Shared→Prop} (hit : s.heap.IsTupleIter it t i) (ht : s.heap.IsTuple t items) (hx : items[i]? = some x)
    (hQ : ∀ h',h'.IsTupleIter it t (i + 1)→Heap.SameBut it s.heap h'→Q x { s with heap := h' }) : wpAny (model prog w) A (Builtin.SmallTypes.nextOf (.ref it)) Q E s := by
  obtain ⟨o,ho,hc,hd⟩ := id hit
  obtain ⟨ol,hol,_,nl,hdl⟩ := ht
  unfold Builtin.SmallTypes.nextOf
  refine wpAny_bind (wpAny_callSpecial?_slot (name := Str.ofString "__next__") hit.typeIs F.slot_tuple_iterator_next
    (wpAny_call_entry F.slot_tuple_iterator_next hit.typeIs F.entry_tuple_iterator_next ?_ (F.args_tuple_iterator_next_1 _)))
  show wpAny _ _ (field (.ref it) 0 >>= _) _ _ s
  refine wpAny_bind (wpAny_field ho hd (x := .ref t) rfl ?_)
  show wpAny _ _ (if (Value.ref t == Value.none) = true then _ else _) _ _ s
  rw [if_neg (show ¬ ((Value.ref t == Value.none) = true) from Bool.false_ne_true)]
  show wpAny _ _ (field (.ref it) 1 >>= _) _ _ s
  refine wpAny_bind (wpAny_field ho hd (x := .int i 0) rfl ?_)
  show wpAny _ _ (seqItems? (.ref t) >>= _) _ _ s
  refine wpAny_bind (wpAny_seqItems hol hdl ?_)
  simp only [Int.toNat_natCast,hx]
  refine wpAny_bind (wpAny_setField ho hd (by simp) (wpAny_pure ⟨x,rfl,wpAny_pure (hQ _ ?_ (Heap.SameBut.update ..))⟩))
  exact ⟨_,Heap.get?_update_self _ ho (Obj.isFreed_of_fields (Obj.data_mapFields hd _)),(Obj.cls_mapFields ..).trans hc,by
    rw [Obj.data_mapFields hd]; simp [rawInt]⟩
theorem zd3 {it t : Addr} {i : Nat} {items} {Q : Value→Shared→Prop} (hh : A.handled = none) (hit : s.heap.IsTupleIter it t i) (ht : s.heap.IsTuple t items) (hx : items[i]? = none)
    (hE : ∀ h' e,Heap.ExtBut it s.heap h'→(∃ o,h'.get? e = some o∧o.cls = .type "StopIteration")→E (.ref e) { s with heap := h' }) : wpAny (model prog w) A (Builtin.SmallTypes.nextOf (.ref it)) Q E s := by
  obtain ⟨o,ho,hc,hd⟩ := id hit
  obtain ⟨ol,hol,_,nl,hdl⟩ := ht
  unfold Builtin.SmallTypes.nextOf
  refine wpAny_bind (wpAny_callSpecial?_slot (name := Str.ofString "__next__") hit.typeIs F.slot_tuple_iterator_next
    (wpAny_call_entry F.slot_tuple_iterator_next hit.typeIs F.entry_tuple_iterator_next ?_ (F.args_tuple_iterator_next_1 _)))
  show wpAny _ _ (field (.ref it) 0 >>= _) _ _ s
  refine wpAny_bind (wpAny_field ho hd (x := .ref t) rfl ?_)
  show wpAny _ _ (if (Value.ref t == Value.none) = true then _ else _) _ _ s
  rw [if_neg (show ¬ ((Value.ref t == Value.none) = true) from Bool.false_ne_true)]
  show wpAny _ _ (field (.ref it) 1 >>= _) _ _ s
  refine wpAny_bind (wpAny_field ho hd (x := .int i 0) rfl ?_)
  show wpAny _ _ (seqItems? (.ref t) >>= _) _ _ s
  refine wpAny_bind (wpAny_seqItems hol hdl ?_)
  simp only [Int.toNat_natCast,hx]
  refine wpAny_bind (wpAny_rule (wpAny_bind (wpAny_setField ho hd (by simp) ?_)))
  show wpAny _ _ (newExc (.type "StopIteration") [] >>= _) _ _ _
  refine wpAny_bind ?_
  simp only [newExc,newTuple]
  refine wpAny_bind (wpAny_newObj_type ?_ (by size_fits))
  refine wpAny_bind (m := firstArgMember _ _) (wpAny_of_eq (a := Value.none) (by first | rfl | (simp only [firstArgMember]; rfl)) ?_)
  refine wpAny_newObj_type ?_ (by size_fits)
  simp only [raiseNew]
  refine wpAny_bind (wpAny_handled ?_)
  first | rw [show A.in1.handled = none from hh] | rw [hh]
  refine wpAny_bind (wpAny_pure (wpAny_throw ?_))
  exact hE _ _ (((Heap.SameBut.update ..).extBut.push _).push _) ⟨_,Heap.get?_push_size _ rfl,rfl⟩
end
theorem zpH {prog : Program} {w : World} {A : Around} (hh : A.handled = none) (it l : Addr) (hne : l≠it) (items : Array Value) :
    Draws prog w A it [it,l] items.size (fun i v => items[i]? = some v) (fun i h => h.IsTupleIter it l i∧h.IsTuple l items) where
  live := fun _ _ st => let ⟨o,ho,_⟩ := st.1; ⟨o,ho⟩
  frame := fun _ _ _ st hk => ⟨let ⟨o,ho,r⟩ := st.1; ⟨o,hk it (by simp) o ho,r⟩,let ⟨o,ho,r⟩ := st.2; ⟨o,hk l (by simp) o ho,r⟩⟩
  item := fun i s Q E hi st hQ => by
    refine zdD st.1 st.2 (x := items[i]) (by simp [hi]) fun h' hit' hs' => ?_
    exact hQ _ h' s.toks (by simp [hi]) ⟨hit',st.2.extBut hs'.extBut hne⟩ hs'
  done := fun s Q E st hE => zd3 hh st.1 st.2 (by simp) hE
section
variable {prog : Program} {w : World} {A : Around} {E : Value → Shared → Prop} {s : Shared}
end
theorem zk1 {X : Cx} {pins : List (Addr × Obj)} {σ : L2.St} {H : Hp} {s : Shared} {h' : Heap} {ch : List Addr} {T : Addr} {o : HO} {t' : Nat} (I : Inv X pins σ H s)
    (hch : ∀ b∈ch,FpOk X pins H b) (k : ∀ b ob,b∉ch→s.heap.get? b = some ob→h'.get? b = some ob) (hT : s.heap.objs.size≤T) (new : za8 X.prog X.w (upd H T o) h' T o) : Inv X pins σ (upd H T o) { s with heap := h',toks := t' } := by
  have hTn : H T = none := I.hok.fresh hT
  have trk : ∀ b u,H b = some u→b∉ch := fun b u e hb => by rw [(hch b hb).1] at e; cases e
  have neT : ∀ b ob,s.heap.get? b = some ob→b≠T := fun b ob e => Nat.ne_of_lt (Nat.lt_of_lt_of_le (Heap.lt_size e) hT)
  have keepU : ∀ b u,H b = some u→upd H T o b = some u := fun b u e => by rw [zal (zbc e hTn)]; exact e
  refine I.step (g' := s.gens) (d' := s.drawn) (ch := ch) (fun b hb => ?_) (fun b ob _ _ hc e _ => k b ob hc e) (fun b ob _ _ hc e _ => ⟨ob.slots,k b ob hc e⟩) (fun b ob hc e n => by rw [zal (neT b ob e)]; exact n)
    (fun b ob hc e => ⟨ob,k b ob hc e⟩) (fun b xs e => keepU b _ e) (fun b ob u e => keepU b _ e) (fun b ps e => ⟨#[],by rw [keepU b _ e]; simp⟩) (fun m hm => ?_) (fun b u e => ?_) I.bare
  · obtain ⟨z0,z1,z2,z3,z4,z5⟩ := hch b hb
    exact ⟨z3,z1,z4,z5⟩
  · obtain ⟨ob,es,ep,ho,r⟩ := hm
    exact ⟨ob,es,ep,k _ ob (fun hb => (hch _ hb).2.1 rfl) ho,r⟩
  · by_cases hb : b = T
    · subst hb
      rw [zan] at e
      cases e
      exact new
    · rw [zal hb] at e
      refine (I.hok b u e).stay (fun c v hc q => k c v ?_ q) (fun c q => keepU c _ q) fun c xs q => keepU c _ q
      rcases hc with z | z
      · rw [z]; exact trk b u e
      · exact trk c _ z
end DL
end
section
namespace DL
open PySem PySem.Spec PyProof.Rows L2
noncomputable def tyN : D→Option String
  | .non => some "NoneType"
  | .bl _ => some "bool"
  | .int _ => some "int"
  | .str _ => some "str"
  | .tup _ => some "tuple"
  | .lst _ => some "list"
  | .dic _ => some "dict"
  | .obj _ _ => none
noncomputable def subT (t T : String) : Bool := t == T || (t == "bool" && T == "int")
noncomputable def isiD (T : String) (d : D) : Option D := (tyN d).map fun t => .bl (subT t T)
noncomputable def TyD (K : PySem.W.Frag) (x : V) (H : Hp) (t : String) : Prop := match x with
  | .non => t = "NoneType"
  | .bl _ => t = "bool"
  | .int _ => t = "int"
  | .str _ => t = "str"
  | .ref p => (t = "list"∧∃ xs,SqL K H p xs)∨(t = "tuple"∧∃ xs,SqT K H p xs)∨(t = "dict"∧∃ kvs,Rd H p (.dK kvs))
  | _ => False
theorem znF {K : PySem.W.Frag} {G : GH} {H : Hp} {v : V} {d : D} {t : String} (gk : GOk K G H) (h : RB K G H v d) (e : tyN d = some t) : TyD K v H t := by
  cases d with
  | non => cases e; rw [h.non gk]; rfl
  | bl b => cases e; rw [h.bl gk]; rfl
  | int i => cases e; rw [h.int gk]; rfl
  | str x => cases e; rw [h.str gk]; rfl
  | tup ds => cases e; obtain ⟨a,xs,rfl,s,r⟩ := h.tup gk; exact .inr (.inl ⟨rfl,xs,s⟩)
  | lst ds => cases e; obtain ⟨a,xs,rfl,s,r⟩ := h.lst gk; exact .inl ⟨rfl,xs,s⟩
  | dic ds => cases e; obtain ⟨a,xs,rfl,s,r⟩ := h.dic gk; exact .inr (.inr ⟨rfl,xs,s⟩)
  | obj _ _ => cases e
section
variable {X : Cx} {g : GE} {m : List Md} {e a : Expr} {f : FE} {pos p p2 : Pos}
theorem zlo : zdn X (.builtin "isinstance") (fun xs H Q => ∃ x t T b,xs = [x,.ty T]∧TyD X.K x H t∧PySem.W.kitOne X.K (.type t) (.type T) = some b∧Q (.bl b) H) := by
  intro pins s σ H xs us Q I r h
  obtain ⟨x,t,T,b,rfl,ty,e,q⟩ := h
  obtain ⟨u,w',rfl,rx,ry⟩ := znA r
  cases ry
  have fin : ∀ tk,EP X pins σ Q (.bool b) { s with toks := tk } := fun tk => ⟨.bl b,H,I.tok tk,rfl,q⟩
  cases x with
  | non => cases rx; cases (show t = "NoneType" from ty); exact PySem.W.kia_one PySem.W.kitx_none I.kIn True.intro e (fun z => nomatch z) fin
  | bl y => cases rx; cases (show t = "bool" from ty); exact PySem.W.kia_one PySem.W.kitx_bool I.kIn True.intro e (fun z => nomatch z) fin
  | int i => obtain ⟨t,rfl⟩ := rx; cases ty; exact PySem.W.kia_one PySem.W.kitx_int I.kIn True.intro e (fun z => nomatch z) fin
  | str i => obtain ⟨t,rfl⟩ := rx; cases ty; exact PySem.W.kia_one PySem.W.kitx_str I.kIn True.intro e (fun z => nomatch z) fin
  | ref p =>
    cases rx
    rcases ty with ⟨rfl,xs,hq⟩ | ⟨rfl,xs,hq⟩ | ⟨rfl,kvs,hq⟩
    · obtain ⟨its,_,pl,_⟩ := I.list hq
      obtain ⟨o,ho,hc,_⟩ := pl.isList
      exact PySem.W.kia_one PySem.W.kitx_list I.kIn ⟨o,ho,hc⟩ e (fun z => nomatch z) fin
    · obtain ⟨its,_,pl,_⟩ := I.tuple hq
      obtain ⟨o,ho,hc,_⟩ := pl
      exact PySem.W.kia_one PySem.W.kitx_tuple I.kIn ⟨o,ho,hc⟩ e (fun z => nomatch z) fin
    · obtain ⟨_,_,vs,_,pp⟩ := (show za8 X.prog X.w H s.heap p (.dK kvs) from hq.ok I.hok)
      obtain ⟨o,es,ep,h1,h2,_⟩ := pp
      exact PySem.W.kia_one PySem.W.kitx_dict I.kIn ⟨o,h1,h2.1⟩ e (fun z => nomatch z) fin
  | _ => exact (show False from ty).elim
theorem zn1 (x : Str) (T : String) (hv : bootBuiltins x = some (.type T)) (hk : ∀ (d : D) (t : String),tyN d = some t→PySem.W.kitOne X.K (.type t) (.type T) = some (subT t T)) (hg : Gl X "isinstance") (hm : X.mg "isinstance" = none) (hgT : Gl X x) (hmT : X.mg x = none) (he : SB X g m e f)
    (hn : x≠"__name__" := by decide) (hd : (x == ("__debug__" : Str)) = false := by decide) (hs1 : starEach [e,.Name x p2] X.env = (false,eval e X.env)::starEach [.Name x p2] X.env := by rfl) (hs2 : starEach [.Name x p2] X.env = (false,eval (.Name x p2) X.env)::starEach [] X.env := by rfl)
    (hpl : (backTo pos (starEach [.Name x p2] X.env)).any (·.1) = false := by rfl) :
    SE X g m (.Call (.Name "isinstance" p) [e,.Name x p2] [] pos) (f1 f (isiD T)) := by
  refine PE.imp (zdt zlo hg hm (by first | exact PyProof.Rows.boot_isinstance | rfl) (zbR he (zbR (zmF (v := .ty T) hgT hmT hv rfl hn hd) zdT hs2) hs1) (by decide) (by decide) hs1 hpl) fun σ H Q ⟨r,G,si,q⟩ => ⟨r,G,si,zaf (zae q) fun d q1 v G1 H1 w1 r1 => ?_⟩
  obtain ⟨d',e',q2⟩ := zaC q1
  unfold isiD at e'
  cases et : tyN d with
  | none => rw [et] at e'; cases e'
  | some t =>
    rw [et] at e'
    cases e'
    exact ⟨v,t,T,_,rfl,znF w1.ok r1 et,hk d t et,q2 _ G1 H1 w1 (.scl (.bl _))⟩
end
theorem zfQ {d : D} {t : String} (h : tyN d = some t) {P : String→Prop} (h1 : P "NoneType") (h2 : P "bool") (h3 : P "int") (h4 : P "str") (h5 : P "tuple") (h6 : P "list") (h7 : P "dict") : P t := by
  cases d <;> cases h <;> assumption
theorem zm5 (K : PySem.W.Frag) (d : D) (t : String) (h : tyN d = some t) : PySem.W.kitOne K (.type t) (.type "int") = some (subT t "int") := zfQ (P := fun t => PySem.W.kitOne K (.type t) (.type "int") = some (subT t "int")) h (by kernel_rfl) (by kernel_rfl) (by kernel_rfl) (by kernel_rfl) (by kernel_rfl) (by kernel_rfl) (by kernel_rfl)
theorem zk0 (K : PySem.W.Frag) (d : D) (t : String) (h : tyN d = some t) : PySem.W.kitOne K (.type t) (.type "bool") = some (subT t "bool") := zfQ (P := fun t => PySem.W.kitOne K (.type t) (.type "bool") = some (subT t "bool")) h (by kernel_rfl) (by kernel_rfl) (by kernel_rfl) (by kernel_rfl) (by kernel_rfl) (by kernel_rfl) (by kernel_rfl)
section
variable {X : Cx} {g : GE} {m : List Md} {e a b : Expr} {f fa : FE} {pos p pos2 p2 : Pos} {es : List Expr} {fl : Rho → Res (List D)}
end
end DL
end
section
namespace DL
open PySem PySem.Spec PyProof.Rows L2
noncomputable def MtD (K : PySem.W.Frag) (r : V→List V→Hp→VK→Prop) (k : D→List D→Option D) : Prop := ∀ (G : GH) (H : Hp) (v : V) (d : D) (vs : List V) (ds : List D) (d' : D) (Q : VK),GOk K G H→RB K G H v d→Paired (RB K G H) vs ds→k d ds = some d' →
  (∀ v' G' H',Grow K G H G' H'→RG K G' v' d'→Q v' H')→r v vs H Q
noncomputable def tyM (T : String) : D→Bool
  | .lst _ => T == "list"
  | .tup _ => T == "tuple"
  | .dic _ => T == "dict"
  | .str _ => T == "str"
  | .int _ => T == "int"
  | _ => false
theorem znE {K : PySem.W.Frag} {G : GH} {H : Hp} {v : V} {d : D} {T : String} (gk : GOk K G H) (h : RB K G H v d) (t : tyM T d = true) : tyV K T v H := by
  cases d with
  | lst ds => obtain ⟨a,xs,rfl,s,r⟩ := h.lst gk; exact .inl ⟨eq_of_beq t,xs,s⟩
  | tup ds =>
    have e : T = "tuple" := eq_of_beq t
    rcases h with h | ⟨a,rfl,o⟩
    · cases h with
      | scl s => cases s
      | ref q =>
        cases gk _ _ q with
        | tup r s => exact .inr (.inl ⟨e,.inr ⟨_,r⟩⟩)
      | kc k =>
        cases k with
        | tup r s z => exact .inr (.inl ⟨e,.inl z⟩)
    · cases o.ob
  | dic ds => obtain ⟨a,xs,rfl,s,r⟩ := h.dic gk; exact .inr (.inr (.inl ⟨eq_of_beq t,.inl ⟨xs,s⟩⟩))
  | str x => rw [h.str gk]; exact eq_of_beq t
  | int x => rw [h.int gk]; exact eq_of_beq t
  | _ => cases t
noncomputable def fM (T : String) (fo : FE) (fl : Rho→Res (List D)) (k : D→List D→Option D) : FE := fun r => (fo r).bind fun d => if tyM T d = true then (fl r).bind fun ds => opt (k d ds) else .stuck
section
variable {X : Cx} {g : GE} {m mb : List Md} {e a b o : Expr} {es : List Expr} {f fa fb fo : FE} {fl : Rho → Res (List D)} {pos pos' apos cpos : Pos} {ro : Bool} {x name : Str} {T id : String} {R : V → List V → Hp → VK → Prop} {k : D → List D → Option D}
theorem s_bm (pa : PlainAttrs T) (slot : Slot T name id) (hty : typeOf (.builtin id) = pure (.type "method_descriptor")) (hmt : MtR X id R) (hk : MtD X.K R k) (ho : SB X g m o fo) (ha : SAB X g m (e::es) fl)
    (hbase : attributeBase o name X.env (eval o X.env) = eval o X.env := by rfl)
    (hfew : ((backTo cpos (starEach (e::es) X.env)).all (fun x => ! x.1) && (backToKw cpos (keywordEach [] X.env)).all (fun x => x.1.isSome) && decide ((e::es).length + ([] : List Keyword).length + (if ([] : List Keyword).isEmpty then 0 else 1) < 30)) = true := by rfl)
    (hline : (apos.endLine == cpos.line) = true := by rfl) (hst : starEach (e::es) X.env = (false,eval e X.env)::starEach es X.env := by rfl) (hplain : (backTo cpos (starEach es X.env)).any (·.1) = false := by rfl) :
    SE X g m (.Call (.Attribute o name apos) (e::es) [] cpos) (fM T fo fl k) := by
  refine PE.imp (zkM pa slot hty hmt ho ha hbase hfew hline hst hplain) fun σ H Q ⟨r,G,si,q⟩ => ⟨r,G,si,zaf (zae q) fun d q1 v G1 H1 w1 r1 => ?_⟩
  by_cases ht : tyM T d = true
  · rw [if_pos ht] at q1
    refine ⟨znE w1.ok r1 ht,r,G1,si.grow w1,zaI (zae q1) w1 fun ds q2 vs G2 H2 w2 rs => ?_⟩
    obtain ⟨d',e',q3⟩ := zaC q2
    exact hk G2 H2 v d vs ds d' Q w2.ok (r1.mono w2) rs e' fun v' G' H' w' z => q3 v' G' H' ((w1.trans w2).trans w') z
  · rw [if_neg ht] at q1; exact q1.elim
noncomputable def zp1 : D→Option D
  | .dic kvs => some (.lst (kvs.map (·.2)))
  | _ => none
end
end DL
end
section
namespace DL
open PySem PySem.Spec PyProof.Rows L2
section
variable {X : Cx} {g : GE} {m : List Md} {e a : Expr} {f : FE} {pos p pos2 : Pos} {elts : List Expr} {kk : Nat}
end
end DL
end
section
namespace DL
open PySem PySem.Spec PyProof.Rows L2
inductive TupI (h : Heap) : Value→List Int→Prop where
  | mk {a : Addr} {items : Array Value} {ns : List Int} : IsTup h a items→IntsAre items.toList ns→TupI h (.ref a) ns
inductive TupsI (h : Heap) : List Value→List (List Int)→Prop where
  | nil : TupsI h [] []
  | cons {p : Value} {k : List Int} {ps : List Value} {ks : List (List Int)} : TupI h p k→TupsI h ps ks→TupsI h (p::ps) (k::ks)
theorem TupsI.length {h : Heap} : ∀ {ps : List Value} {ks : List (List Int)},TupsI h ps ks→ps.length = ks.length
  | _,_,.nil => rfl
  | _,_,.cons _ t => congrArg (· + 1) t.length
section
variable {prog : Program} {w : World} {A : Around} {s : Shared}
inductive TupR (h : Heap) : Value→List (List Int)→Prop where
  | mk {a : Addr} {items : List Value} {ks : List (List Int)} : IsTup h a items.toArray→TupsI h items ks→ks≠[]→TupR h (.ref a) ks
end
end DL
end
section
namespace DL
open PySem PySem.Spec PyProof.Rows L2
noncomputable def zdw : List D→Option (List Int)
  | [] => some []
  | .int i::ds => (zdw ds).map (i::·)
  | _ => none
theorem zlt {K : PySem.W.Frag} {G : GH} {H : Hp} (gk : GOk K G H) {ds : List D} {xs : List V} {ns : List Int} (h : RGs K G xs ds) (e : zdw ds = some ns) : xs = ns.map V.int := by
  induction h generalizing ns with
  | nil => cases e; rfl
  | @cons x d xs ds r t ih =>
    cases d with
    | int i =>
      have e' : (zdw ds).map (i::·) = some ns := e
      cases q : zdw ds with
      | none => rw [q] at e'; cases e'
      | some ms =>
        rw [q] at e'
        cases e'
        rw [r.int gk,ih q]; rfl
    | _ => cases e
section
variable {X : Cx} {g : GE} {m : List Md} {e a : Expr} {f : FE} {pos p pos2 p2 : Pos}
end
end DL
end
section
namespace DL
open PySem PySem.Spec PyProof.Rows L2
theorem za8.isS {P : Program} {w : World} {H : Hp} {h : Heap} {a : Addr} {o : HO} (x : za8 P w H h a o) : h.get? a≠none := by
  have s : ∀ {u : Obj},h.get? a = some u→h.get? a≠none := fun e z => by rw [z] at e; cases e
  cases o with
  | lst xs => obtain ⟨_,_,_,_,e⟩ := x; exact s e
  | tup xs => obtain ⟨_,_,_,⟨_,e,_⟩,_⟩ := x; exact s e
  | dK kvs => obtain ⟨_,_,_,_,o,_,_,e,_⟩ := x; exact s e
  | dT kvs => obtain ⟨_,_,_,_,o,_,_,e,_⟩ := x; exact s e
  | set S n => obtain ⟨o,_,_,_,e,_⟩ := x; exact s e
  | ins C dx fs => obtain ⟨_,_,_,e,_⟩ := x; exact s e
  | own y => obtain ⟨_,e⟩ := x; exact s e
  | xd fs => obtain ⟨_,⟨_,_,_,e,_⟩,_⟩ := x; exact s e
  | rng lo hi => obtain ⟨_,_,_,e⟩ := x; exact s e
  | frz ob u => obtain ⟨e,_⟩ := x; exact s e
  | tbl ps => exact s (show h.get? a = some _ from x)
  | met f y => exact s (show h.get? a = some _ from x)
  | ext φ => obtain ⟨_,⟨_,e⟩,_⟩ := x; exact s e
section
variable {X : Cx} {pins : List (Addr × Obj)} {σ : L2.St} {H : Hp} {s : Shared}
theorem Inv.laidN {D : Addr} {ys : List V} {its : List Value} {c : Nat} {h' : Heap} (I : Inv X pins σ H s) (hD : s.heap.get? D = none) (hDL : D≠X.env.locals) (k : ∀ b o,b≠X.env.locals→s.heap.get? b = some o→h'.get? b = some o)
    (hns : ∀ m,s.heap.Ns X.env.locals m→h'.Ns X.env.locals m) (ho : h'.get? D = some { cls := .type "list",data := .seq its.toArray c }) (rv : Vals ys its) (hz : ys.length≤sizeLine) (t' : Nat) :
    Inv X pins σ (upd H D (.lst ys)) { s with heap := h',toks := t' } := by
  have hHD : H D = none := by
    cases q : H D with
    | none => rfl
    | some u =>
      exact absurd hD (za8.isS (I.hok D u q))
  have neD : ∀ b o,s.heap.get? b = some o→b≠D := fun b o e z => by rw [z,hD] at e; cases e
  have keepU : ∀ b u,H b = some u→upd H D (.lst ys) b = some u := fun b u e => by rw [zal (zbc e hHD)]; exact e
  have trkL : ∀ b u,H b = some u→b≠X.env.locals := fun b u e z => by rw [z,I.free] at e; cases e
  refine I.step (g' := s.gens) (d' := s.drawn) (ch := []) (fun b hb => absurd hb (by simp)) (fun b ob hL _ _ e _ => k b ob hL e) (fun b ob hL _ _ e _ => ⟨ob.slots,k b ob hL e⟩) (fun b ob _ e n => by rw [zal (neD b ob e)]; exact n)
    (fun b ob _ e => ?_) (fun b xs e => keepU b _ e) (fun b ob u e => keepU b _ e) (fun b ps e => ⟨#[],by rw [keepU b _ e]; simp⟩) hns (fun b u e => ?_) I.bare
  · by_cases hb : b = X.env.locals
    · subst hb
      obtain ⟨m,hn,_⟩ := I.loc
      obtain ⟨o,_,_,ho',_⟩ := hns m hn
      exact ⟨o,ho'⟩
    · exact ⟨ob,k b ob hb e⟩
  · by_cases hb : b = D
    · subst hb
      rw [zan] at e
      cases e
      exact ⟨hz,its,c,rv,ho⟩
    · rw [zal hb] at e
      refine (I.hok b u e).stay (fun cc v hc q => k cc v ?_ q) (fun cc q => keepU cc _ q) fun cc xs q => keepU cc _ q
      rcases hc with z | z
      · rw [z]; exact trkL b u e
      · exact trkL cc _ z
theorem zmV {h : Heap} {L : Addr} {m m' : Str→Option Value} (a : h.Ns L m) (b : h.Ns L m') : m = m' := by
  obtain ⟨o,es,ep,e,d,_,f⟩ := a
  obtain ⟨o',es',ep',e',d',_,f'⟩ := b
  rw [e] at e'; cases e'
  rw [d] at d'; cases d'
  funext x
  rw [← f,← f']
end
end DL
end
section
namespace DL
open PySem PySem.Spec PyProof.Rows L2
section
variable {K : PySem.W.Frag} {G : GH} {H : Hp}
end
section
variable {X : Cx} {g : GE} {m : List Md} {a : Expr} {fl : Rho → Res (List D)} {pos p : Pos} {k : Nat}
end
end DL
end
section
namespace DL
open PySem PyProof.Rows PySem.SeqAt PySem.MeetsSeq PySem.MeetsSeq2 PySem.MeetsSeq3 L2
open PySem.AutoSeq1 (wpAny_loadPart')
end DL
end
section
namespace DL
open PySem PyProof.Rows L2
section
variable {prog : Program} {w : World} {A : Around} {E : Value → Shared → Prop} {s : Shared}
end
end DL
end
section
namespace DL
open PySem PySem.Spec PyProof.Rows L2
section
variable {X : Cx} {pins : List (Addr × Obj)} {σ : L2.St} {H : Hp} {s : Shared}
end
section
variable {K : PySem.W.Frag} {G : GH} {H : Hp}
end
section
variable {X : Cx} {g : GE} {m : List Md} {a : Expr} {fl : Rho → Res (List D)} {pos p : Pos} {k : Nat}
end
end DL
end
section
namespace DL
open PySem PySem.Spec PyProof.Rows L2
section
variable {X : Cx} {pins : List (Addr × Obj)} {σ : L2.St} {H : Hp} {s : Shared}
theorem Inv.keptN {h' : Heap} (I : Inv X pins σ H s) (k : ∀ b o,b≠X.env.locals→s.heap.get? b = some o→h'.get? b = some o)
    (hns : ∀ m,s.heap.Ns X.env.locals m→h'.Ns X.env.locals m) (t' : Nat) : Inv X pins σ H { s with heap := h',toks := t' } := by
  have trkL : ∀ b u,H b = some u→b≠X.env.locals := fun b u e z => by rw [z,I.free] at e; cases e
  refine I.step (g' := s.gens) (d' := s.drawn) (ch := []) (fun b hb => absurd hb (by simp)) (fun b ob hL _ _ e _ => k b ob hL e) (fun b ob hL _ _ e _ => ⟨ob.slots,k b ob hL e⟩) (fun b ob _ e n => n)
    (fun b ob _ e => ?_) (fun b xs e => e) (fun b ob u e => e) (fun b ps e => ⟨#[],by rw [e]; simp⟩) hns (fun b u e => ?_) I.bare
  · by_cases hb : b = X.env.locals
    · subst hb
      obtain ⟨m,hn,_⟩ := I.loc
      obtain ⟨o,_,_,ho',_⟩ := hns m hn
      exact ⟨o,ho'⟩
    · exact ⟨ob,k b ob hb e⟩
  · refine (I.hok b u e).stay (fun cc v hc q => k cc v ?_ q) (fun cc q => q) fun cc xs q => q
    rcases hc with z | z
    · rw [z]; exact trkL b u e
    · exact trkL cc _ z
end
section
variable {X : Cx} {g : GE} {m : List Md} {e a b : Expr} {es : List Expr} {fl : Rho → Res (List D)} {fa fb : FE} {pos p : Pos}
end
end DL
end
section
namespace DL
open PySem PyProof.Rows L2
open PySem.AutoSeq1 (wpAny_loadPart')
section
variable {X : Cx}
end
end DL
end
section
namespace DL
open PySem PyProof.Rows PySem.W
section
variable {n : Nat} {c : Nat → Nat → Bool} (as : ∀ i j, c i j = true → c j i = false) (tr : ∀ i j k, c j i = false → c k j = false → c k i = false)
noncomputable def Le (c : Nat→Nat→Bool) (i j : Nat) : Prop := c j i = false
noncomputable def Eqv (c : Nat→Nat→Bool) (i j : Nat) : Prop := Le c i j∧Le c j i
include tr in
theorem Eqv.trans {i j k : Nat} (h1 : Eqv c i j) (h2 : Eqv c j k) : Eqv c i k := ⟨tr _ _ _ h1.1 h2.1,tr _ _ _ h2.2 h1.2⟩
theorem Eqv.symm {i j : Nat} (h : Eqv c i j) : Eqv c j i := ⟨h.2,h.1⟩
include as tr in
include tr in
include as tr in
include as tr in
include as tr in
include as tr in
include as tr in
include as tr in
include as tr in
include as tr in
include as tr in
end
end DL
end
section
namespace DL
section
variable {α : Type} {lt : α → α → Bool} {d : α}
end
end DL
end
section
namespace DL
open PySem PySem.Spec PyProof.Rows L2
section
variable {X : Cx} {pins : List (Addr × Obj)} {σ : L2.St} {H : Hp} {s : Shared}
end
section
variable {X : Cx} {g : GE} {m : List Md} {a : Expr} {fl : Rho → Res (List D)} {pos p : Pos} {k : Nat}
end
end DL
end
section
namespace DL
open PySem PySem.Spec PyProof.Rows L2
section
variable {X : Cx} {pins : List (Addr × Obj)} {σ : L2.St} {H : Hp} {s : Shared}
theorem zkd (bs : List Bool) : ((List.range bs.length).all fun i => bs.getD i true) = bs.all id := by
  rw [Bool.eq_iff_iff,List.all_eq_true,List.all_eq_true]
  constructor
  · intro h b hb
    obtain ⟨i,hi,rfl⟩ := List.getElem_of_mem hb
    have := h i (List.mem_range.mpr hi)
    simpa [List.getD_eq_getElem?_getD,hi] using this
  · intro h i hi
    have hi := List.mem_range.mp hi
    have := h bs[i] (List.getElem_mem _)
    simpa [List.getD_eq_getElem?_getD,hi] using this
theorem zhM (hc : X.calm = true) (I : Inv X pins σ H s) {p : Addr} {bs : List Bool} (hq : SqL X.K H p (bs.map V.bl)) {A : Around} (hA : A.handled = none) {E : Value→Shared→Prop} {Q : Value→Shared→Prop}
    (h : ∀ I fp wr n P St tr it s₂,it = Value.ref I→Walks X.prog X.w A I fp wr n P St→St 0 s₂.heap→TruthOf X.prog X.w A P tr→n = bs.length→(∀ i,tr i = bs.getD i true) →
      (∀ (h' : Heap) (tk : Nat),(∀ (b : Addr) (o : Obj),¬b∈wr→s₂.heap.get? b = some o→h'.get? b = some o)→Inv X pins σ H { heap := h',gens := s₂.gens,drawn := s₂.drawn,toks := tk,os := s₂.os })→Q it s₂) :
    wpAny (model X.prog X.w) A (pyIter (.ref p)) Q E s := by
  obtain ⟨its,rv,pl,hz⟩ := I.list hq
  have hl := rv.length
  rw [List.length_map] at hl
  refine PySem.Flt.iter_list_ pl.isList fun s₂ e2 hi hlt hne => ?_
  refine h s.heap.objs.size [s.heap.objs.size,p] [s.heap.objs.size] its.toArray.size _ _ (fun i => bs.getD i true) _ s₂ rfl (Walks.list hA _ p hne its.toArray) hi ?_ (by rw [List.size_toArray,hl]) (fun i => rfl) fun h' tk k => ?_
  · intro i v s' Q' E' hv hq'
    have hv' : its[i]? = some v := by simpa using hv
    have hi : i < its.length := (List.getElem?_eq_some_iff.mp hv').1
    have hki : i < (bs.map V.bl).length := by rw [List.length_map]; omega
    obtain ⟨u,h1,h3⟩ := rv.get (i := i) (x := (bs.map V.bl)[i]) (List.getElem?_eq_getElem hki)
    rw [hv'] at h1
    cases h1
    rw [List.getElem_map] at h3
    have h3' : v = Value.bool bs[i] := h3
    subst h3'
    have e : bs.getD i true = bs[i] := by
      have hb : i < bs.length := by omega
      simp [List.getD_eq_getElem?_getD,hb]
    have hq2 : Q' (bs.getD i true) s' := hq'
    rw [e] at hq2
    exact wpAny_pure hq2
  · subst e2
    have ne : ∀ b o,s.heap.get? b = some o→¬ b∈[s.heap.objs.size] := fun b o e z => by
      have := List.mem_singleton.mp z
      subst this
      exact absurd (Heap.lt_size e) (Nat.lt_irrefl _)
    exact Inv.keptN I (fun b o _ e => k b o (ne b o e) (Heap.get?_push_of_some _ e)) (fun m ⟨o,es,ep,e,z⟩ => ⟨o,es,ep,k _ _ (ne _ _ e) (Heap.get?_push_of_some _ e),z⟩) tk
theorem zlp (hc : X.calm = true) : zdn X (.builtin "all") (fun xs H Q => ∃ (p : Addr) (bs : List Bool),xs = [.ref p]∧SqL X.K H p (bs.map V.bl)∧Q (.bl (bs.all id)) H) := by
  intro pins s σ H xs us Q I r h
  obtain ⟨p,bs,rfl,hq,q⟩ := h
  obtain ⟨u,rfl,rx⟩ := zfP r
  cases rx
  refine call_all_walk (zhM hc I hq (show X.A.in1.handled = none from I.ok.hd hc) fun J fp wr n P St tr it s₂ e1 e2 e3 e4 e5 e6 e7 => ⟨J,fp,wr,n,P,St,tr,e1,e2,e3,e4,fun h' tk k => ?_⟩)
  have et : tr = fun i => bs.getD i true := funext e6
  rw [e5,et,zkd]
  exact ⟨.bl (bs.all id),H,e7 h' tk k,rfl,q⟩
end
noncomputable def zfD : List D→Option (List Bool)
  | [] => some []
  | .bl b::ds => (zfD ds).map (b::·)
  | _ => none
theorem znq {K : PySem.W.Frag} {G : GH} {H : Hp} (gk : GOk K G H) {ds : List D} {xs : List V} {bs : List Bool} (h : RGs K G xs ds) (e : zfD ds = some bs) : xs = bs.map V.bl := by
  induction h generalizing bs with
  | nil => cases e; rfl
  | @cons x d xs ds r t ih =>
    cases d with
    | bl b =>
      have e' : (zfD ds).map (b::·) = some bs := e
      cases e1 : zfD ds with
      | none => rw [e1] at e'; cases e'
      | some bs' =>
        rw [e1] at e'; cases e'
        rw [ih e1,List.map_cons,(RG.rb (H := H) r).bl gk]
    | _ => cases e
noncomputable def allD : List D→Option D
  | [.lst ds] => (zfD ds).map fun bs => .bl (bs.all id)
  | _ => none
theorem zpO {K : PySem.W.Frag} : zif K (fun xs H Q => ∃ (p : Addr) (bs : List Bool),xs = [.ref p]∧SqL K H p (bs.map V.bl)∧Q (.bl (bs.all id)) H) allD := by
  intro G H vs ds d Q gk rs e q
  unfold allD at e
  split at e
  · rename_i zs
    cases ek : zfD zs with
    | none => rw [ek] at e; cases e
    | some bs =>
      rw [ek] at e; cases e
      cases rs with
      | cons r1 t =>
        cases t
        obtain ⟨b,xs,rfl,s,r⟩ := r1.lst gk
        have ex := znq gk r ek
        subst ex
        exact ⟨b,bs,rfl,s,q _ G H (Grow.refl gk) (.scl (.bl _))⟩
  · cases e
section
variable {X : Cx} {g : GE} {m : List Md} {e : Expr} {es : List Expr} {fl : Rho → Res (List D)} {pos p : Pos}
theorem zn7 (hc : X.calm = true) (hg : Gl X "all") (hm : X.mg "all" = none) (ha : SAB X g m (e::es) fl) (he : starEach (e::es) X.env = (false,eval e X.env)::starEach es X.env := by rfl) (hpl : (backTo pos (starEach es X.env)).any (·.1) = false := by rfl) :
    SE X g m (.Call (.Name "all" p) (e::es) [] pos) (fC fl allD) := s_cb zpO (zdt (zlp hc) hg hm PyProof.Rows.boot_all ha (by decide) (by decide) he hpl)
end
end DL
end
section
namespace DL
open PySem PySem.Spec PyProof.Rows L2
section
variable {X : Cx} {pins : List (Addr × Obj)} {σ : L2.St} {H : Hp} {s : Shared}
end
section
variable {X : Cx} {g : GE} {m : List Md} {e : Expr} {es : List Expr} {fl : Rho → Res (List D)} {pos p : Pos}
end
end DL
end
section
namespace DL
open PySem PySem.Spec PyProof.Rows L2
noncomputable def zhb (h0 H : Hp) : Prop := ∀ a o,h0 a = some o→H a = some o
structure YieldsB (K : PySem.W.Frag) (h0 : Hp) (J : It) (ds : List D) (G0 : GH) : Prop where
  go : ∀ G H (i : Nat),Gle G0 G→GOk K G H→zhb h0 H→i < ds.length→J.go i H
  yld : ∀ G H (i : Nat) x H' d,Gle G0 G→GOk K G H→zhb h0 H→J.yld i H x H'→ds[i]? = some d→∃ G',Grow K G H G' H'∧RG K G' x d
  stop : ∀ G H,Gle G0 G→GOk K G H→zhb h0 H→J.stop ds.length H
theorem Yields.toH {K : PySem.W.Frag} {h0 : Hp} {J : It} {ds : List D} {G0 : GH} (y : Yields K J ds G0) : YieldsB K h0 J ds G0 :=
  ⟨fun G H i w gk _ hi => y.go G H i w gk hi,fun G H i x H' d w gk _ q e => y.yld G H i x H' d w gk q e,fun G H w gk _ => y.stop G H w gk⟩
noncomputable def tIB (X : Cx) (g : GE) (m : List Md) (f : FI) : TI := fun σ H R => ∃ r G,SI X g m r G σ H∧fin (f r) (fun ds => ∀ J G' H',Grow X.K G H G' H'→YieldsB X.K g.h0 J ds G'→R J H') (XW X σ G H)
noncomputable def SItB (X : Cx) (g : GE) (m : List Md) (tg iter : Expr) (f : FI) : Prop := PI X tg iter (tIB X g m f)
noncomputable def tBw (X : Cx) (g : GE) (m : List Md) (f : FE) : TE := fun σ H Q => ∃ r G,SI X g m r G σ H∧fin (f r) (fun d => ∀ v G' H',Grow X.K G H G' H'→Bw X.K g.h0 G' H' v d→Q v H') (XW X σ G H)
noncomputable def SBw (X : Cx) (g : GE) (m : List Md) (e : Expr) (f : FE) : Prop := PE X e (tBw X g m f)
section
variable {X : Cx} {g : GE} {m m' mb : List Md} {tg e a iter : Expr} {f : FE} {pos p pos2 : Pos} {ro : Bool} {sts : List Stmt} {s1 : FS} {elts : List Expr} {kk : Nat}
theorem vw_ (i : Nat) {x : Str} (hm : m[i]? = some .bw := by rfl) (hN : X.N[i]? = some x := by rfl) (hv : Vis X.env.scope x := by first | exact Or.inl rfl | exact Or.inr (Or.inl rfl) | exact Or.inr (Or.inr rfl)) (hd : (x == ("__debug__" : Str)) = false := by decide) (hcd : (x == ("__classdict__" : Str)) = false := by decide) :
    SBw X g m (.Name x pos) fun r => getV r i := by
  refine PE.imp (zdS hN hv hd hcd) fun σ H Q ⟨r,G,si,q⟩ => ?_
  obtain ⟨d,e,k⟩ := zed q
  obtain ⟨v,e1,e2⟩ := si.bw i d e hm
  exact ⟨v,e1,k _ G H (Grow.refl si.gok) e2⟩
theorem zmG {K : PySem.W.Frag} {h0 : Hp} {G0 G : GH} {H0 H : Hp} {a : Addr} {ds : List D} (o : Own K G0 H0 a (.lst ds)) (h : h0 a≠none) (o0 : zhb h0 H0) (le : Gle G0 G) (o1 : zhb h0 H) : ∃ xs,SqL K H a xs∧RGs K G xs ds := by
  cases e : h0 a with
  | none => exact absurd e h
  | some u =>
    have h1 := o0 a u e
    have h2 := o1 a u e
    cases o.ob with
    | lst r s =>
      rw [h1] at r
      cases r
      exact ⟨_,SqL.of h2,RGs.mono s le⟩
theorem zny {K : PySem.W.Frag} {h0 : Hp} {ds : List D} {G0 : GH} {a : Addr} (h : ∀ G H,Gle G0 G→GOk K G H→zhb h0 H→∃ xs,SqL K H a xs∧RGs K G xs ds) : YieldsB K h0 (Itl K a) ds G0 := by
  refine ⟨fun G H i w gk o hi => ?_,fun G H i x H' d w gk o y e => ?_,fun G H w gk o => ?_⟩
  · obtain ⟨xs,s,r⟩ := h G H w gk o
    have hl := Paired.length r
    exact ⟨xs,xs[i],s,List.getElem?_eq_getElem (by omega)⟩
  · obtain ⟨xs,s,r⟩ := h G H w gk o
    obtain ⟨rfl,y⟩ := y
    obtain ⟨v,e1,rv⟩ := Paired.get r e
    have := y xs s
    rw [e1] at this; cases this
    exact ⟨G,Grow.refl gk,rv⟩
  · obtain ⟨xs,s,r⟩ := h G H w gk o
    exact ⟨xs,s,Nat.le_of_eq (Paired.length r)⟩
theorem SI.oldIn {r : Rho} {G : GH} {st : L2.St} {H : Hp} (s : SI X g m r G st H) : zhb g.h0 H := s.old
theorem zhx (h : SBw X g m e f) : SItB X g m tg e (fSeq za7 f) := by
  refine PI.imp (ziY h) fun σ H R ⟨r,G,si,q⟩ => ⟨r,G,si,zaf (zae q) fun d q v G' H' w rv => ?_⟩
  obtain ⟨ds,e,q⟩ := zaC q
  cases d with
  | lst ds' =>
    cases e
    rcases rv with rv | ⟨a,rfl,o,ho⟩
    · obtain ⟨a,xs,rfl,s,rs⟩ := rv.lst w.ok
      exact .inl ⟨a,rfl,⟨xs,s⟩,q _ G' H' w (zgB rv).toH⟩
    · cases o.ob with
      | lst r s => exact .inl ⟨a,rfl,⟨_,SqL.of r⟩,q _ G' H' w (zny fun G2 H2 le _ o2 => zmG o ho (si.grow w).oldIn le o2)⟩
  | tup ds' =>
    cases e
    rcases rv with rv | ⟨a,rfl,o,ho⟩
    · obtain ⟨a,xs,rfl,s,rs⟩ := rv.tup w.ok
      exact .inr ⟨a,rfl,⟨xs,s⟩,q _ G' H' w (zii rv).toH⟩
    · cases o.ob
  | _ => cases e
theorem zhn (hp : PassesOwn (model X.prog X.w) X.A X.env X.xe) (hc : X.calm = true) {ft : FT} {fi : FI} (hi : SItB X g m tg iter fi) (hg : SG X g m tg ft m) (hb : SSs X g ro m m sts s1 m)
    (hs : ∀ x,foldedSetIterable iter X.env x = pure x := by intro _; rfl) : SS X g ro mb m (.For tg iter sts [] pos) (zcb m fi ft s1) m := by
  refine ⟨rfl,PS.imp (zf4 hp hc hi hg.2 hb.2 hs) fun D σ H ⟨r,G,si,q⟩ => ⟨r,G,si,zaf (za3 si rfl q) fun ds q J G0 H0 w0 Y => ?_⟩⟩
  refine ⟨fun i n σ H => ∃ r G,SI X g m r G σ H∧Gle G0 G∧i≤ds.length∧n = ds.length - i∧oTo X g ro m mb G D (forF ft s1 (ds.drop i) r),⟨ds.length,r,G0,si.grow w0,Gle.refl G0,Nat.zero_le _,rfl,oTo.gle q w0.ge⟩,?_⟩
  rintro i n σ1 H1 ⟨r1,G1,si1,le1,hi,rfl,q1⟩
  by_cases hlt : i < ds.length
  · have hd : ds.drop i = ds[i]::ds.drop (i + 1) := List.drop_eq_getElem_cons hlt
    rw [hd] at q1
    unfold forF at q1
    refine .inr ⟨Y.go G1 H1 i le1 si1.gok si1.oldIn hlt,fun σ' H' => ∃ r G,SI X g m r G σ' H'∧Gle G0 G∧oTo X g ro m mb G D (forF ft s1 (ds.drop (i + 1)) r),fun σ' H' ⟨r',G',si',le',q'⟩ => ⟨ds.length - (i + 1),by omega,r',G',si',le',hlt,rfl,q'⟩,fun x H' y => ?_⟩
    obtain ⟨G',w',rv⟩ := Y.yld G1 H1 i x H' ds[i] le1 si1.gok si1.oldIn y (List.getElem?_eq_getElem hlt)
    have le' : Gle G0 G' := le1.trans w'.ge
    cases eft : ft ds[i] r1 with
    | none => simp only [eft] at q1; exact q1.elim
    | some r2 =>
      simp only [eft] at q1
      refine ⟨r1,G',ds[i],si1.grow w',rv,r2,eft,fun σ2 si2 => ⟨r2,G',si2,?_⟩⟩
      cases eb : s1 r2 with
      | nx r' => simp only [eb] at q1; exact fun σ3 G3 H3 le3 si3 => ⟨r',G3,si3,le'.trans le3,oTo.gle q1 (Gle.trans w'.ge le3)⟩
      | ct r' => simp only [eb] at q1; exact fun σ3 G3 H3 le3 si3 => ⟨r',G3,si3,le'.trans le3,oTo.gle q1 (Gle.trans w'.ge le3)⟩
      | bk r' => simp only [eb] at q1; exact fun σ3 G3 H3 le3 si3 => q1 σ3 G3 H3 (Gle.trans w'.ge le3) si3
      | rt d => simp only [eb] at q1; exact q1
      | exc x r' => simp only [eb] at q1; exact fun pins e s' σ3 G3 H3 le3 => q1 pins e s' σ3 G3 H3 (Gle.trans w'.ge le3)
      | stuck => simp only [eb] at q1; exact q1
  · have e : i = ds.length := by omega
    subst e
    rw [List.drop_length] at q1
    exact .inl ⟨Y.stop G1 H1 le1 si1.gok si1.oldIn,q1 σ1 G1 H1 (Gle.refl _) si1⟩
end
end DL
end
section
namespace DL
open PySem PySem.Spec PyProof.Rows L2
open HT (sIx)
section
variable {prog : Program} {w : World} {A : Around} {E : Value → Shared → Prop} {s : Shared}
theorem zfv {t sl : Addr} {items : Array Value} {vl vu : Value} {lo hi : Option Int} {Q : Value→Shared→Prop} (ht : IsTup s.heap t items) (hs : s.heap.IsSliceOf sl vl vu .none) (pl : IsPart vl lo) (pu : IsPart vu hi)
    (hw : sIx items.size 0 lo = 0∧sIx items.size items.size hi = items.size) (h : Q (.ref t) s) : wpAny (model prog w) A (getItem (.ref t) (.ref sl)) Q E s := by
  obtain ⟨os,hos,hcs,hds⟩ := id hs
  have hTs : s.TypeIs (.ref sl) "slice" := ⟨os,hos,hcs⟩
  unfold getItem
  try with_reducible refine wpAny_holding ?_
  first | refine wpAny_bind (wpAny_pure ?_) | skip
  refine wpAny_bind (wpAny_sequenceKey ht.typeIs (by decide) (wpAny_bind (wpAny_callSpecial?_slot (name := Str.ofString "__getitem__") ht.typeIs PyProof.Rows.slot_tuple_getitem (wpAny_call_entry PyProof.Rows.slot_tuple_getitem ht.typeIs PyProof.Rows.entry_tuple_getitem ?_ (PyProof.Rows.args_tuple_getitem _ _)))))
  show wpAny _ _ (Builtin.Tuple.tupleItemsOf (.ref t) >>= _) _ _ s
  refine wpAny_bind (PyProof.Rows.tupleItemsOf_ ht (wpAny_bind (wpAny_typeOf hTs ?_)))
  rw [if_pos (by decide)]
  refine wpAny_bind (HT.sliceApplied_gen hs pl pu ?_)
  rw [hw.1,hw.2]
  show wpAny _ _ (if (((0 : Nat) : Int) == 0 && (1 : Int) == 1 && (items.size - 0) == items.size) = true then _ else _) _ _ s
  rw [if_pos (by simp)]
  show wpAny _ _ (Builtin.Tuple.tupleIsExact (.ref t) >>= _) _ _ s
  unfold Builtin.Tuple.tupleIsExact
  refine wpAny_bind (wpAny_bind (wpAny_typeOf ht.typeIs (wpAny_pure ?_)))
  rw [if_pos (by decide)]
  refine wpAny_bind (wpAny_rule ?_)
  show wpAny _ _ (ret (.ref t)) _ _ s
  exact wpAny_pure ⟨_,rfl,wpAny_pure h⟩
end
noncomputable def rSlW (K : PySem.W.Frag) : V→Option Int→Option Int→Hp→VK→Prop := fun x lo hi H Q => ∃ a xs,x = .ref a∧SqT K H a xs∧(sIx xs.length 0 lo = 0∧sIx xs.length xs.length hi = xs.length)∧Q (.ref a) H
theorem zks {X : Cx} : SlR X (rSlW X.K) := by
  intro pins s σ H x v vl vu lo hi sl Q I rx hs pl pu h
  obtain ⟨a,xs,rfl,hx,hw,q⟩ := h
  cases rx
  obtain ⟨its,r,ht,hz⟩ := I.tuple hx
  have hlen : its.toArray.size = xs.length := by rw [List.size_toArray]; exact r.length.symm
  exact ⟨"tuple",_,PyProof.Rows.slot_tuple_getitem.lookup,ht.typeIs,zfv ht hs pl pu (by rw [hlen]; exact hw) ⟨.ref a,H,I,rfl,q⟩⟩
noncomputable def slA (d : D) (lo hi : Option Int) : Option D := match d with
  | .tup ds => some (.tup (cutL ds lo hi))
  | .lst ds => some (.lst (cutL ds lo hi))
  | _ => none
noncomputable def fSlA (fa : FE) (fl fh : FP) : FE := fun r => (fa r).bind fun d => (fl r).bind fun lo => (fh r).bind fun hi => opt (slA d lo hi)
section
variable {X : Cx} {g : GE} {m : List Md} {e : Expr} {f fa : FE} {pos p2 : Pos}
theorem zmj {R : V→Option Int→Option Int→Hp→Prop} {fl fh : FP} {r : Rho} {G : GH} {σ : L2.St} {H : Hp} {q : D→Prop} (si : SI X g m r G σ H) (h : fin (fSlA fa fl fh r) q (XW X σ G H))
    (hk : ∀ d lo hi v G2 H2 d',Grow X.K G H G2 H2→RB X.K G2 H2 v d→slA d lo hi = some d'→q d'→R v lo hi H2) :
    tB X g m fa σ H fun x H1 => tP X g m fl σ H1 fun l H2 => tP X g m fh σ H2 fun u H3 => R x l u H3 := by
  refine ⟨r,G,si,zaf (zae h) fun d h1 v G1 H1 w1 r1 => ⟨r,G1,si.grow w1,zaI (zae h1) w1 fun lo h2 G2 H2 w2 => ⟨r,G2,(si.grow w1).grow w2,?_⟩⟩⟩
  refine zaI (zae h2) (w1.trans w2) fun hi h3 G3 H3 w3 => ?_
  obtain ⟨d',e,h4⟩ := zaC h3
  exact hk d lo hi v G3 H3 d' ((w1.trans w2).trans w3) ((r1.mono w2).mono w3) e h4
theorem zjZ {α : Type} {ds : List α} {lo hi : Option Int} (h : sIx ds.length 0 lo = 0∧sIx ds.length ds.length hi = ds.length) : cutL ds lo hi = ds := by
  unfold cutL
  rw [h.1,h.2]; simp
theorem zqe {lo hi : Option Expr} {fl fh : FP} (he : SB X g m e f) (hl : SP1 X g m lo fl) (hu : SP1 X g m hi fh) : SE X g m (.Subscript e (.Slice lo hi none p2) pos) (fSlA f fl fh) := by
  refine PE.imp (zhp (SlR.or zks (SlR.or ziC zlB)) he hl hu) fun σ H Q ⟨r,G,si,q⟩ => ?_
  refine zmj si q fun d lo hi v G2 H2 d' w r1 e q2 => ?_
  cases d with
  | tup ds =>
    cases e
    rcases r1 with r1 | ⟨a',_,oo⟩
    · obtain ⟨a,xs,rfl,s,r⟩ := r1.tup w.ok
      by_cases hw : sIx ds.length 0 lo = 0∧sIx ds.length ds.length hi = ds.length
      · refine .inl ⟨a,xs,rfl,s,by rw [Paired.length r]; exact hw,?_⟩
        rw [zjZ hw] at q2
        exact q2 _ G2 H2 w r1
      · rw [← Paired.length r] at hw
        refine .inr (.inr ⟨a,xs,rfl,s,hw,fun p hp => ?_⟩)
        exact q2 _ _ _ (w.trans (Grow.newF w.ok hp (.tup (.inl zan) (zlh r lo hi)))) (.ref zas)
    · cases oo.ob
  | lst ds =>
    cases e
    obtain ⟨a,xs,rfl,s,r⟩ := r1.lst w.ok
    exact .inr (.inl ⟨a,xs,rfl,s,fun p hp => q2 _ _ _ (w.trans (Grow.newF w.ok hp (.lst (.inl zan) (zlh r lo hi)))) (.ref zas)⟩)
  | _ => cases e
end
end DL
end
section
namespace DL
open PySem PySem.Spec PyProof.Rows L2
open AutoSeq1 (wpAny_loadPart')
structure ZA (zp ti to u1 u2 : Addr) (f1 f2 : List Addr) : Prop where
  a1 : ti≠zp
  a2 : to≠zp
  a3 : u1≠zp
  a4 : u2≠zp
  a5 : to≠u1
  a6 : to≠u2
  a7 : u1≠u2
  a8 : ti≠to∧ti≠u1∧ti≠u2
  b1 : zp∉f1∧to∉f1∧u2∉f1
  b2 : zp∉f2∧to∉f2∧u1∉f2
theorem _root_.PySem.Draws.at' {prog : Program} {w : World} {A : Around} {it : Addr} {fp : List Addr} {n : Nat} {P : Nat→Value→Prop} {St : Nat→Heap→Prop} (D : Draws prog w A it fp n P St) {i : Nat} {h h' : Heap} {c : Addr} (st : St i h) (e : Heap.ExtBut c h h') (hc : c∉fp) : St i h' :=
  D.frame i h h' st fun b hb o q => e b o (by rintro rfl; exact hc hb) q
section
variable {prog : Program} {w : World} {A : Around} {E : Value → Shared → Prop} {s : Shared} {zp ti to u1 u2 : Addr} {f1 f2 : List Addr} {n1 n2 : Nat} {P1 P2 : Nat → Value → Prop} {St1 St2 : Nat → Heap → Prop} {p q : Value}
theorem zih {i : Nat} {Q : Value→Shared→Prop} (Z : ZA zp ti to u1 u2 f1 f2) (D1 : Draws prog w A u1 f1 n1 P1 St1) (D2 : Draws prog w A u2 f2 n2 P2 St2) (hz : IsZip s.heap zp ti to .none) (hi : IsPair s.heap ti (.ref u1) (.ref u2)) (ho : IsPair s.heap to p q)
    (s1 : St1 i s.heap) (s2 : St2 i s.heap) (l1 : i < n1) (l2 : i < n2)
    (hQ : ∀ x y h' tk,P1 i x→P2 i y→IsZip h' zp ti to (rawInt s.heap.objs.size)→IsPair h' to x y→St1 (i + 1) h'→St2 (i + 1) h'→IsPair h' s.heap.objs.size x y→h'.objs.size = s.heap.objs.size + 1 →
      (∀ c o,c≠zp→c≠to→c≠u1→c≠u2→s.heap.get? c = some o→h'.get? c = some o)→Q (.ref s.heap.objs.size) { s with heap := h',toks := tk }) :
    wpAny (model prog w) A (Builtin.«zip.__next__» ⟨[.ref zp],[]⟩) (fun fin s' => ∃ v,fin = .done (.ret v)∧Q v s') E s := by
  show wpAny _ _ (field (.ref zp) 2 >>= _) _ _ _
  refine wpAny_bind (wpAny_field hz rfl (x := .bool false) rfl ?_)
  show wpAny _ _ (field (.ref zp) 3 >>= _) _ _ _
  refine wpAny_bind (wpAny_field hz rfl (x := .ref ti) rfl (wpAny_bind (wpAny_seqItems hi rfl ?_)))
  show wpAny _ _ (Builtin.SmallTypes.ownedTupleIsFree (.ref zp) >>= _) _ _ _
  refine wpAny_bind ?_
  unfold Builtin.SmallTypes.ownedTupleIsFree
  refine wpAny_bind (wpAny_field hz rfl (x := .none) rfl (wpAny_pure ?_))
  simp only [if_true]
  refine wpAny_bind (wpAny_rule (wpAny_bind (wpAny_field hz rfl (x := .ref to) rfl (wpAny_bind (wpAny_setField_rec hz (by simp) fun g1 hz1 k1 => ?_)))))
  replace hz1 : IsZip g1 zp ti to .ellipsis := hz1
  refine wpAny_bind ?_
  simp only [List.zipIdx_cons,List.zipIdx_nil,List.forIn_cons,List.forIn_nil]
  refine wpAny_bind (wpAny_bind (wpAny_onRaise ?_))
  show wpAny _ _ (Builtin.SmallTypes.nextOf (.ref u1) >>= _) _ _ _
  refine wpAny_bind (D1.item i _ _ _ l1 (D1.at' s1 k1.extBut Z.b1.1) fun x g2 t2 px st1 k2 => wpAny_pure ?_)
  have ho2 : IsPair g2 to p q := k2.extBut _ _ Z.a5 (k1.extBut _ _ Z.a2 ho)
  refine wpAny_bind (wpAny_seqItems ho2 rfl (wpAny_bind (wpAny_updateSeq_pair ho2 fun g3 ho3 k3 => ?_)))
  replace ho3 : IsPair g3 to x q := ho3
  refine wpAny_bind (wpAny_letGo (wpAny_pure ?_))
  refine wpAny_bind (wpAny_bind (wpAny_onRaise ?_))
  show wpAny _ _ (Builtin.SmallTypes.nextOf (.ref u2) >>= _) _ _ _
  refine wpAny_bind (D2.item i _ _ _ l2 (D2.at' (D2.at' (D2.at' s2 k1.extBut Z.b2.1) k2.extBut Z.b2.2.2) k3.extBut Z.b2.2.1) fun y g4 t4 py st2 k4 => wpAny_pure ?_)
  have ho4 : IsPair g4 to x q := k4.extBut _ _ Z.a6 ho3
  refine wpAny_bind (wpAny_seqItems ho4 rfl (wpAny_bind (wpAny_updateSeq_pair ho4 fun g5 ho5 k5 => ?_)))
  replace ho5 : IsPair g5 to x y := ho5
  refine wpAny_bind (wpAny_letGo (wpAny_pure (wpAny_pure ?_)))
  refine wpAny_bind (wpAny_seqItems ho5 rfl (wpAny_bind (wpAny_newTuple ?_)))
  have hsz : g5.objs.size = s.heap.objs.size := by rw [k5.1,k4.1,k3.1,k2.1,k1.1]
  have hz5 : IsZip g5 zp ti to .ellipsis := k5.extBut _ _ Z.a2.symm (k4.extBut _ _ Z.a4.symm (k3.extBut _ _ Z.a2.symm (k2.extBut _ _ Z.a3.symm hz1)))
  have st15 : St1 (i + 1) g5 := D1.at' (D1.at' (D1.at' st1 k3.extBut Z.b1.2.1) k4.extBut Z.b1.2.2) k5.extBut Z.b1.2.1
  have st25 : St2 (i + 1) g5 := D2.at' st2 k5.extBut Z.b2.2.1
  have hzlt : zp < g5.objs.size := Heap.lt_size hz5
  show wpAny _ _ (Builtin.SmallTypes.ownedTupleHandOut (.ref zp) (.ref g5.objs.size) >>= _) _ _ _
  refine wpAny_bind ?_
  unfold Builtin.SmallTypes.ownedTupleHandOut
  have hz6 : IsZip (g5.push { cls := .type "tuple",data := .seq #[x,y] }) zp ti to .ellipsis := Heap.get?_push_of_some _ hz5
  refine wpAny_bind (wpAny_setField_rec hz6 (by simp) fun g7 hz7 k7 => ?_)
  replace hz7 : IsZip g7 zp ti to (rawInt g5.objs.size) := hz7
  refine wpAny_setField_rec hz7 (by simp) fun g8 hz8 k8 => ?_
  replace hz8 : IsZip g8 zp ti to (rawInt g5.objs.size) := hz8
  have up : ∀ c o,c≠zp→g5.get? c = some o→g8.get? c = some o := fun c o c1 e => k8.extBut _ _ c1 (k7.extBut _ _ c1 (Heap.get?_push_of_some _ e))
  have hT8 : IsPair g8 g5.objs.size x y := k8.extBut _ _ (Nat.ne_of_gt hzlt) (k7.extBut _ _ (Nat.ne_of_gt hzlt) (Heap.get?_push_size _ rfl))
  have sz8 : g8.objs.size = g5.objs.size + 1 := by rw [k8.1,k7.1,Heap.size_push]
  rw [hsz] at hz8 hT8 sz8
  refine wpAny_pure ⟨_,rfl,?_⟩
  show Q (.ref g5.objs.size) _
  rw [hsz]
  refine hQ x y g8 _ px py hz8 (up _ _ Z.a2 ho5) (D1.frame _ _ _ st15 fun b hb o e => up b o (by rintro rfl; exact Z.b1.1 hb) e) (D2.frame _ _ _ st25 fun b hb o e => up b o (by rintro rfl; exact Z.b2.1 hb) e) hT8 sz8 fun c o c1 c2 c3 c4 e => up c o c1 ?_
  exact k5.extBut _ _ c2 (k4.extBut _ _ c4 (k3.extBut _ _ c2 (k2.extBut _ _ c3 (k1.extBut _ _ c1 e))))
theorem zko {i : Nat} {Q : Fin→Shared→Prop} (Z : ZA zp ti to u1 u2 f1 f2) (D1 : Draws prog w A u1 f1 n1 P1 St1) (D2 : Draws prog w A u2 f2 n2 P2 St2) (hz : IsZip s.heap zp ti to .none) (hi : IsPair s.heap ti (.ref u1) (.ref u2)) (ho : IsPair s.heap to p q)
    (s1 : St1 i s.heap) (s2 : St2 i s.heap) (hend : i = n1∨(i < n1∧i = n2))
    (hE : ∀ h' e tk,(∀ c o,c≠zp→c≠to→c≠u1→c≠u2→s.heap.get? c = some o→h'.get? c = some o)→(∃ o,h'.get? e = some o∧o.cls = .type "StopIteration")→E (.ref e) { s with heap := h',toks := tk }) :
    wpAny (model prog w) A (Builtin.«zip.__next__» ⟨[.ref zp],[]⟩) Q E s := by
  show wpAny _ _ (field (.ref zp) 2 >>= _) _ _ _
  refine wpAny_bind (wpAny_field hz rfl (x := .bool false) rfl ?_)
  show wpAny _ _ (field (.ref zp) 3 >>= _) _ _ _
  refine wpAny_bind (wpAny_field hz rfl (x := .ref ti) rfl (wpAny_bind (wpAny_seqItems hi rfl ?_)))
  show wpAny _ _ (Builtin.SmallTypes.ownedTupleIsFree (.ref zp) >>= _) _ _ _
  refine wpAny_bind ?_
  unfold Builtin.SmallTypes.ownedTupleIsFree
  refine wpAny_bind (wpAny_field hz rfl (x := .none) rfl (wpAny_pure ?_))
  simp only [if_true]
  refine wpAny_bind (wpAny_rule (wpAny_bind (wpAny_field hz rfl (x := .ref to) rfl (wpAny_bind (wpAny_setField_rec hz (by simp) fun g1 hz1 k1 => ?_)))))
  replace hz1 : IsZip g1 zp ti to .ellipsis := hz1
  refine wpAny_bind ?_
  simp only [List.zipIdx_cons,List.zipIdx_nil,List.forIn_cons,List.forIn_nil]
  refine wpAny_bind (wpAny_bind (wpAny_onRaise ?_))
  show wpAny _ _ (Builtin.SmallTypes.nextOf (.ref u1) >>= _) _ _ _
  rcases hend with hend | ⟨hlt,hend⟩
  · subst hend
    refine wpAny_bind (D1.done _ _ _ (D1.at' s1 k1.extBut Z.b1.1) fun g2 e k2 he => ?_)
    obtain ⟨oe,hoe,hce⟩ := he
    have hz2 : IsZip g2 zp ti to .ellipsis := k2 _ _ Z.a3.symm hz1
    have hez : e≠zp := fun x => by subst x; rw [hz2] at hoe; cases hoe; simp at hce
    exact wpAny_setField_rec hz2 (by simp) fun g3 _ k3 => hE g3 e _ (fun c o c1 _ c3 _ x => k3.extBut _ _ c1 (k2 _ _ c3 (k1.extBut _ _ c1 x))) ⟨oe,k3.extBut _ _ hez hoe,hce⟩
  · subst hend
    refine wpAny_bind (D1.item _ _ _ _ hlt (D1.at' s1 k1.extBut Z.b1.1) fun x g2 t2 px st1 k2 => wpAny_pure ?_)
    have ho2 : IsPair g2 to p q := k2.extBut _ _ Z.a5 (k1.extBut _ _ Z.a2 ho)
    refine wpAny_bind (wpAny_seqItems ho2 rfl (wpAny_bind (wpAny_updateSeq_pair ho2 fun g3 ho3 k3 => ?_)))
    refine wpAny_bind (wpAny_letGo (wpAny_pure ?_))
    refine wpAny_bind (wpAny_bind (wpAny_onRaise ?_))
    show wpAny _ _ (Builtin.SmallTypes.nextOf (.ref u2) >>= _) _ _ _
    refine wpAny_bind (D2.done _ _ _ (D2.at' (D2.at' (D2.at' s2 k1.extBut Z.b2.1) k2.extBut Z.b2.2.2) k3.extBut Z.b2.2.1) fun g4 e k4 he => ?_)
    obtain ⟨oe,hoe,hce⟩ := he
    have hz4 : IsZip g4 zp ti to .ellipsis := k4 _ _ Z.a4.symm (k3.extBut _ _ Z.a2.symm (k2.extBut _ _ Z.a3.symm hz1))
    have hez : e≠zp := fun x => by subst x; rw [hz4] at hoe; cases hoe; simp at hce
    exact wpAny_setField_rec hz4 (by simp) fun g5 _ k5 => hE g5 e _ (fun c o c1 c2 c3 c4 x => k5.extBut _ _ c1 (k4 _ _ c4 (k3.extBut _ _ c2 (k2.extBut _ _ c3 (k1.extBut _ _ c1 x))))) ⟨oe,k5.extBut _ _ hez hoe,hce⟩
theorem zgK {i : Nat} {Q : Option Value→Shared→Prop} (Z : ZA zp ti to u1 u2 f1 f2) (D1 : Draws prog w A.in1 u1 f1 n1 P1 St1) (D2 : Draws prog w A.in1 u2 f2 n2 P2 St2) (hz : IsZip s.heap zp ti to .none) (hi : IsPair s.heap ti (.ref u1) (.ref u2)) (ho : IsPair s.heap to p q)
    (s1 : St1 i s.heap) (s2 : St2 i s.heap) (l1 : i < n1) (l2 : i < n2)
    (hQ : ∀ x y h' tk,P1 i x→P2 i y→IsZip h' zp ti to (rawInt s.heap.objs.size)→IsPair h' to x y→St1 (i + 1) h'→St2 (i + 1) h'→IsPair h' s.heap.objs.size x y→h'.objs.size = s.heap.objs.size + 1 →
      (∀ c o,c≠zp→c≠to→c≠u1→c≠u2→s.heap.get? c = some o→h'.get? c = some o)→Q (some (.ref s.heap.objs.size)) { s with heap := h',toks := tk }) :
    wpAny (model prog w) A (pyNext (.ref zp)) Q E s := by
  have hT : s.TypeIs (.ref zp) "zip" := ⟨_,hz,rfl⟩
  unfold pyNext
  exact wpAny_bind (wpAny_attempt (wpAny_callSpecial?_slot (name := Str.ofString "__next__") hT F.slot_zip_next (wpAny_call_entry F.slot_zip_next hT F.entry_zip_next
      (zih Z D1 D2 hz hi ho s1 s2 l1 l2 fun x y h' tk b1 b2 b3 b4 b5 b6 b7 b8 b9 => wpAny_pure (hQ x y h' tk b1 b2 b3 b4 b5 b6 b7 b8 b9)) (F.args_zip_next_1 _))))
theorem zeQ {i : Nat} {Q : Option Value→Shared→Prop} (Z : ZA zp ti to u1 u2 f1 f2) (D1 : Draws prog w A.in1 u1 f1 n1 P1 St1) (D2 : Draws prog w A.in1 u2 f2 n2 P2 St2) (hz : IsZip s.heap zp ti to .none) (hi : IsPair s.heap ti (.ref u1) (.ref u2)) (ho : IsPair s.heap to p q)
    (s1 : St1 i s.heap) (s2 : St2 i s.heap) (hend : i = n1∨(i < n1∧i = n2)) (hQ : ∀ h' tk,(∀ c o,c≠zp→c≠to→c≠u1→c≠u2→s.heap.get? c = some o→h'.get? c = some o)→Q none { s with heap := h',toks := tk }) :
    wpAny (model prog w) A (pyNext (.ref zp)) Q E s := by
  have hT : s.TypeIs (.ref zp) "zip" := ⟨_,hz,rfl⟩
  unfold pyNext
  refine wpAny_bind (wpAny_attempt (wpAny_callSpecial?_slot (name := Str.ofString "__next__") hT F.slot_zip_next (wpAny_call_entry F.slot_zip_next hT F.entry_zip_next (zko Z D1 D2 hz hi ho s1 s2 hend fun h' e tk hk he => ?_) (F.args_zip_next_1 _))))
  obtain ⟨o,ho,hc⟩ := he
  exact wpAny_bind (wpAny_isInstance (T := "StopIteration") (b := true) ⟨o,ho,hc⟩ isSubtype_stop (wpAny_pure (hQ _ _ hk)))
end
noncomputable abbrev itO (c : String) (l : Addr) : Obj := { cls := .type c,data := .fields #[.ref l,.int 0 0] }
noncomputable abbrev zg2 (h : Heap) (c1 c2 : String) (l1 l2 : Addr) : Heap := (h.push (itO c1 l1)).push (itO c2 l2)
noncomputable abbrev zg3 (h : Heap) (c1 c2 : String) (l1 l2 : Addr) : Heap := (zg2 h c1 c2 l1 l2).push { cls := .type "tuple",data := .seq #[.ref h.objs.size,.ref (h.push (itO c1 l1)).objs.size] }
noncomputable abbrev zg4 (h : Heap) (c1 c2 : String) (l1 l2 : Addr) : Heap := (zg3 h c1 c2 l1 l2).push { cls := .type "tuple",data := .seq #[.none,.none] }
noncomputable abbrev zg5 (h : Heap) (c1 c2 : String) (l1 l2 : Addr) : Heap := (zg4 h c1 c2 l1 l2).push { cls := .type "zip",data := .fields #[.none,.bool false,.bool false,.ref (zg2 h c1 c2 l1 l2).objs.size,.ref (zg3 h c1 c2 l1 l2).objs.size] }
theorem zhf {h : Heap} {a : Addr} {xs : Array Value} (x : h.IsTuple a xs) (o : Obj) : (h.push o).IsTuple a xs := let ⟨u,hu,r⟩ := x; ⟨u,Heap.get?_push_of_some _ hu,r⟩
theorem zjj (l1 l2 : Addr) (xs ys : Array Value) : Meets (Builtin.«zip.__new__» ⟨[.type "zip",.ref l1,.ref l2],[]⟩) (fun _ R s => s.heap.IsList l1 xs∧s.heap.IsList l2 ys ∧
      R (.ok (.ret (.ref (zg4 s.heap "list_iterator" "list_iterator" l1 l2).objs.size))) { s with heap := zg5 s.heap "list_iterator" "list_iterator" l1 l2 }) :=
  .of_wp fun prog w A R s h => by
    obtain ⟨hp,gg,dd,tk,os⟩ := s; obtain ⟨q1,q2,h⟩ := h
    have hsub := sub_zip
    have e1 : Heap.IsList (Shared.heap ⟨hp,gg,dd,tk,os⟩) l1 xs := q1
    have e2 : Heap.IsList (Shared.heap ⟨hp.push (itO "list_iterator" l1),gg,dd,tk,os⟩) l2 ys := Heap.IsList.push q2 _
    wp_walk using wpAny_pyIter_list e1,wpAny_pyIter_list e2
    exact ⟨_,rfl,h⟩
theorem zjh (l1 l2 : Addr) (xs ys : Array Value) : Meets (Builtin.«zip.__new__» ⟨[.type "zip",.ref l1,.ref l2],[]⟩) (fun _ R s => s.heap.IsTuple l1 xs∧s.heap.IsList l2 ys ∧
      R (.ok (.ret (.ref (zg4 s.heap "tuple_iterator" "list_iterator" l1 l2).objs.size))) { s with heap := zg5 s.heap "tuple_iterator" "list_iterator" l1 l2 }) :=
  .of_wp fun prog w A R s h => by
    obtain ⟨hp,gg,dd,tk,os⟩ := s; obtain ⟨q1,q2,h⟩ := h
    have hsub := sub_zip
    have e1 : Heap.IsTuple (Shared.heap ⟨hp,gg,dd,tk,os⟩) l1 xs := q1
    have e2 : Heap.IsList (Shared.heap ⟨hp.push (itO "tuple_iterator" l1),gg,dd,tk,os⟩) l2 ys := Heap.IsList.push q2 _
    wp_walk using wpAny_pyIter_tuple e1,wpAny_pyIter_list e2
    exact ⟨_,rfl,h⟩
theorem zjg (l1 l2 : Addr) (xs ys : Array Value) : Meets (Builtin.«zip.__new__» ⟨[.type "zip",.ref l1,.ref l2],[]⟩) (fun _ R s => s.heap.IsTuple l1 xs∧s.heap.IsTuple l2 ys ∧
      R (.ok (.ret (.ref (zg4 s.heap "tuple_iterator" "tuple_iterator" l1 l2).objs.size))) { s with heap := zg5 s.heap "tuple_iterator" "tuple_iterator" l1 l2 }) :=
  .of_wp fun prog w A R s h => by
    obtain ⟨hp,gg,dd,tk,os⟩ := s; obtain ⟨q1,q2,h⟩ := h
    have hsub := sub_zip
    have e1 : Heap.IsTuple (Shared.heap ⟨hp,gg,dd,tk,os⟩) l1 xs := q1
    have e2 : Heap.IsTuple (Shared.heap ⟨hp.push (itO "tuple_iterator" l1),gg,dd,tk,os⟩) l2 ys := zhf q2 _
    wp_walk using wpAny_pyIter_tuple e1,wpAny_pyIter_tuple e2
    exact ⟨_,rfl,h⟩
theorem zji (l1 l2 : Addr) (xs ys : Array Value) : Meets (Builtin.«zip.__new__» ⟨[.type "zip",.ref l1,.ref l2],[]⟩) (fun _ R s => s.heap.IsList l1 xs∧s.heap.IsTuple l2 ys ∧
      R (.ok (.ret (.ref (zg4 s.heap "list_iterator" "tuple_iterator" l1 l2).objs.size))) { s with heap := zg5 s.heap "list_iterator" "tuple_iterator" l1 l2 }) :=
  .of_wp fun prog w A R s h => by
    obtain ⟨hp,gg,dd,tk,os⟩ := s; obtain ⟨q1,q2,h⟩ := h
    have hsub := sub_zip
    have e1 : Heap.IsList (Shared.heap ⟨hp,gg,dd,tk,os⟩) l1 xs := q1
    have e2 : Heap.IsTuple (Shared.heap ⟨hp.push (itO "list_iterator" l1),gg,dd,tk,os⟩) l2 ys := zhf q2 _
    wp_walk using wpAny_pyIter_list e1,wpAny_pyIter_tuple e2
    exact ⟨_,rfl,h⟩
section
variable {prog : Program} {w : World} {A : Around} {E : Value → Shared → Prop} {s : Shared}
noncomputable def Made (s : Shared) (c1 c2 : String) (l1 l2 : Addr) (Q : Value→Shared→Prop) : Prop :=
  ∀ h',IsZip h' (s.heap.objs.size + 4) (s.heap.objs.size + 2) (s.heap.objs.size + 3) .none→IsPair h' (s.heap.objs.size + 2) (.ref s.heap.objs.size) (.ref (s.heap.objs.size + 1)) →
      IsPair h' (s.heap.objs.size + 3) .none .none→h'.get? s.heap.objs.size = some (itO c1 l1)→h'.get? (s.heap.objs.size + 1) = some (itO c2 l2) →
      (∀ c o,s.heap.get? c = some o→h'.get? c = some o)→Q (.ref (s.heap.objs.size + 4)) { s with heap := h' }
theorem zfs {c1 c2 : String} {l1 l2 : Addr} {Q : Value→Shared→Prop} (h : Made s c1 c2 l1 l2 Q) : (∃ o,(zg5 s.heap c1 c2 l1 l2).get? (zg4 s.heap c1 c2 l1 l2).objs.size = some o∧o.cls = .type "zip")∧Q (.ref (zg4 s.heap c1 c2 l1 l2).objs.size) { s with heap := zg5 s.heap c1 c2 l1 l2 } := by
  have z1 : (s.heap.push (itO c1 l1)).objs.size = s.heap.objs.size + 1 := Heap.size_push ..
  have z2 : (zg2 s.heap c1 c2 l1 l2).objs.size = s.heap.objs.size + 2 := by rw [Heap.size_push,z1]
  have z3 : (zg3 s.heap c1 c2 l1 l2).objs.size = s.heap.objs.size + 3 := by rw [Heap.size_push,z2]
  have z4 : (zg4 s.heap c1 c2 l1 l2).objs.size = s.heap.objs.size + 4 := by rw [Heap.size_push,z3]
  have g5 : (zg5 s.heap c1 c2 l1 l2).get? (zg4 s.heap c1 c2 l1 l2).objs.size = some _ := Heap.get?_push_size _ rfl
  have g4 : (zg5 s.heap c1 c2 l1 l2).get? (zg3 s.heap c1 c2 l1 l2).objs.size = some _ := Heap.get?_push_of_some _ (Heap.get?_push_size _ rfl)
  have g3 : (zg5 s.heap c1 c2 l1 l2).get? (zg2 s.heap c1 c2 l1 l2).objs.size = some _ := Heap.get?_push_of_some _ (Heap.get?_push_of_some _ (Heap.get?_push_size _ rfl))
  have g2 : (zg5 s.heap c1 c2 l1 l2).get? (s.heap.push (itO c1 l1)).objs.size = some (itO c2 l2) := Heap.get?_push_of_some _ (Heap.get?_push_of_some _ (Heap.get?_push_of_some _ (Heap.get?_push_size _ rfl)))
  have g1 : (zg5 s.heap c1 c2 l1 l2).get? s.heap.objs.size = some (itO c1 l1) := Heap.get?_push_of_some _ (Heap.get?_push_of_some _ (Heap.get?_push_of_some _ (Heap.get?_push_of_some _ (Heap.get?_push_size _ rfl))))
  rw [z2,z3,z4] at g5
  rw [z1,z2] at g3
  rw [z3] at g4
  rw [z1] at g2
  rw [z4]
  exact ⟨⟨_,g5,rfl⟩,h _ g5 g3 g4 g1 g2 fun c o x => Heap.get?_push_of_some _ (Heap.get?_push_of_some _ (Heap.get?_push_of_some _ (Heap.get?_push_of_some _ (Heap.get?_push_of_some _ x))))⟩
theorem zlm {l1 l2 : Addr} {xs ys : Array Value} {Q : Value→Shared→Prop} (q1 : s.heap.IsList l1 xs) (q2 : s.heap.IsList l2 ys) (h : Made s "list_iterator" "list_iterator" l1 l2 Q) : wpAny (model prog w) A (call (.type "zip") [.ref l1,.ref l2]) Q E s :=
  callType_new F.called_zip (by decide) (F.typeCall_zip_2 _ _) (F.newCall_zip_2 _ _) (fun obj => F.args_object_init_3 obj _ _) F.entry_zip_new (zjj l1 l2 xs ys) ⟨q1,q2,zfs h⟩
theorem zlk {l1 l2 : Addr} {xs ys : Array Value} {Q : Value→Shared→Prop} (q1 : s.heap.IsTuple l1 xs) (q2 : s.heap.IsList l2 ys) (h : Made s "tuple_iterator" "list_iterator" l1 l2 Q) : wpAny (model prog w) A (call (.type "zip") [.ref l1,.ref l2]) Q E s :=
  callType_new F.called_zip (by decide) (F.typeCall_zip_2 _ _) (F.newCall_zip_2 _ _) (fun obj => F.args_object_init_3 obj _ _) F.entry_zip_new (zjh l1 l2 xs ys) ⟨q1,q2,zfs h⟩
theorem zlj {l1 l2 : Addr} {xs ys : Array Value} {Q : Value→Shared→Prop} (q1 : s.heap.IsTuple l1 xs) (q2 : s.heap.IsTuple l2 ys) (h : Made s "tuple_iterator" "tuple_iterator" l1 l2 Q) : wpAny (model prog w) A (call (.type "zip") [.ref l1,.ref l2]) Q E s :=
  callType_new F.called_zip (by decide) (F.typeCall_zip_2 _ _) (F.newCall_zip_2 _ _) (fun obj => F.args_object_init_3 obj _ _) F.entry_zip_new (zjg l1 l2 xs ys) ⟨q1,q2,zfs h⟩
theorem zll {l1 l2 : Addr} {xs ys : Array Value} {Q : Value→Shared→Prop} (q1 : s.heap.IsList l1 xs) (q2 : s.heap.IsTuple l2 ys) (h : Made s "list_iterator" "tuple_iterator" l1 l2 Q) : wpAny (model prog w) A (call (.type "zip") [.ref l1,.ref l2]) Q E s :=
  callType_new F.called_zip (by decide) (F.typeCall_zip_2 _ _) (F.newCall_zip_2 _ _) (fun obj => F.args_object_init_3 obj _ _) F.entry_zip_new (zji l1 l2 xs ys) ⟨q1,q2,zfs h⟩
end
end DL
end
section
namespace DL
open PySem PySem.Spec PyProof.Rows L2
noncomputable def sqK (K : PySem.W.Frag) (t : Bool) (a : Addr) (H : Hp) (xs : List V) : Prop := match t with
  | false => SqL K H a xs
  | true => SqT K H a xs
noncomputable def itK (t : Bool) (a u : Addr) (i : Nat) (h : Heap) : Prop := match t with
  | false => h.IsListIter u a i
  | true => h.IsTupleIter u a i
noncomputable abbrev nmK (t : Bool) : String := match t with
  | false => "list_iterator"
  | true => "tuple_iterator"
theorem zjC {t : Bool} {a u : Addr} {h : Heap} (e : h.get? u = some (itO (nmK t) a)) : itK t a u 0 h := by cases t <;> exact ⟨_,e,rfl,rfl⟩
theorem zfu {t : Bool} {a u : Addr} {i : Nat} {h : Heap} (e : itK t a u i h) : ∃ o,h.get? u = some o∧∀ v,o.data≠.cell v := by
  cases t <;> (obtain ⟨o,ho,hc,hd⟩ := e; exact ⟨o,ho,fun v z => by rw [hd] at z; cases z⟩)
theorem zec {t : Bool} {a u : Addr} {i : Nat} {h h' : Heap} (e : itK t a u i h) (k : ∀ o,h.get? u = some o→h'.get? u = some o) : itK t a u i h' := by
  cases t <;> (obtain ⟨o,ho,r⟩ := e; exact ⟨o,k o ho,r⟩)
section
variable {X : Cx} {pins : List (Addr × Obj)} {σ : L2.St} {H : Hp} {s : Shared} {t : Bool} {a u : Addr} {xs ys : List V} {i : Nat}
theorem zlf (I : Inv X pins σ H s) (hc : X.calm = true) (hq : sqK X.K t a H xs) (hau : a≠u) (hi : itK t a u i s.heap) : ∃ (its : List Value) (St : Nat→Heap→Prop),Vals xs its∧Draws X.prog X.w X.A.in1 u [u,a] its.toArray.size (fun i v => its.toArray[i]? = some v) St∧St i s.heap∧∀ j h',St j h'→itK t a u j h' := by
  cases t with
  | false =>
    obtain ⟨its,rv,p,hz⟩ := I.list hq
    exact ⟨its,_,rv,Draws.list (A := X.A.in1) (show X.A.in1.handled = none from I.ok.hd hc) u a hau its.toArray,⟨hi,p.isList⟩,fun j h' st => st.1⟩
  | true =>
    obtain ⟨its,rv,p,hz⟩ := I.tuple hq
    exact ⟨its,_,rv,zpH (A := X.A.in1) (show X.A.in1.handled = none from I.ok.hd hc) u a hau its.toArray,⟨hi,p⟩,fun j h' st => st.1⟩
theorem ziy (I : Inv X pins σ H s) (h1 : sqK X.K t a H xs) (h2 : sqK X.K t a H ys) : xs = ys := by
  cases t with
  | false => exact I.list_inj h1 h2
  | true => exact I.tuple_inj h1 h2
theorem zfT (I : Inv X pins σ H s) (h1 : sqK X.K t a H xs) : a < s.heap.objs.size := by
  cases t with
  | false => obtain ⟨its,rv,p,hz⟩ := I.list h1; obtain ⟨o,ho,_⟩ := p.isList; exact Heap.lt_size ho
  | true => obtain ⟨its,rv,p,hz⟩ := I.tuple h1; obtain ⟨o,ho,_⟩ := id p; exact Heap.lt_size ho
theorem zjD {h' : Heap} {ch : List Addr} {t' : Nat} (I : Inv X pins σ H s) (hch : ∀ b∈ch,FpOk X pins H b) (k : ∀ b ob,b∉ch→s.heap.get? b = some ob→h'.get? b = some ob) : Inv X pins σ H { s with heap := h',toks := t' } := by
  have trk : ∀ b u,H b = some u→b∉ch := fun b u e hb => by rw [(hch b hb).1] at e; cases e
  refine I.step (g' := s.gens) (d' := s.drawn) (ch := ch) (fun b hb => ?_) (fun b ob _ _ hc e _ => k b ob hc e) (fun b ob _ _ hc e _ => ⟨ob.slots,k b ob hc e⟩) (fun b ob hc e n => n)
    (fun b ob hc e => ⟨ob,k b ob hc e⟩) (fun b xs e => e) (fun b ob u e => e) (fun b ps e => ⟨#[],by rw [e]; simp⟩) (fun m hm => ?_) (fun b u e => ?_) I.bare
  · obtain ⟨z0,z1,z2,z3,z4,z5⟩ := hch b hb
    exact ⟨z3,z1,z4,z5⟩
  · obtain ⟨ob,es,ep,ho,r⟩ := hm
    exact ⟨ob,es,ep,k _ ob (fun hb => (hch _ hb).2.1 rfl) ho,r⟩
  · refine (I.hok b u e).stay (fun c v hc q => k c v ?_ q) (fun c q => q) fun c xs q => q
    rcases hc with z | z
    · rw [z]; exact trk b u e
    · exact trk c _ z
end
noncomputable def Izp (sq1 sq2 : Hp→List V→Prop) : It :=
  ⟨fun i H => ∃ xs ys x y,sq1 H xs∧sq2 H ys∧xs[i]? = some x∧ys[i]? = some y,fun i H x H' => ∃ p v u,H p = none∧x = .ref p∧H' = upd H p (.tup [v,u])∧(∀ xs,sq1 H xs→xs[i]? = some v)∧∀ ys,sq2 H ys→ys[i]? = some u,
    fun i H => ∃ xs ys,sq1 H xs∧sq2 H ys∧min xs.length ys.length = i⟩
theorem zkO {P : Program} {w : World} {H : Hp} {h : Heap} {T : Addr} {x y : Value} {v u : V} (hT : h.get? T = some { cls := .type "tuple",data := .seq #[x,y] }) (r1 : L2.RelV v x) (r2 : L2.RelV u y) : za8 P w H h T (.tup [v,u]) :=
  ⟨by show 2≤sizeLine; decide,[x,y],.cons r1 (.cons r2 .nil),⟨_,hT,rfl,0,rfl⟩,_,hT,rfl⟩
theorem zkp {P : Program} {w : World} {K : PySem.W.Frag} {elts : List Expr} {k : Nat} {pos : Pos} {t1 t2 : Bool} (a b zp ti to u1 u2 : Addr) (Z : ZA zp ti to u1 u2 [u1,a] [u2,b]) (h1 : a≠u1) (h2 : b≠u2) :
    Turn P w K (.Tuple elts k pos) (Izp (sqK K t1 a) (sqK K t2 b)) [zp,ti,to,u1,u2] zp (fun i h => IsZip h zp ti to .none∧IsPair h ti (.ref u1) (.ref u2)∧(∃ p q,IsPair h to p q)∧itK t1 a u1 i h∧itK t2 b u2 i h) where
  mem := by simp
  obj := fun i h st c hc => by
    obtain ⟨hz,hi,⟨p,q,ho⟩,s1,s2⟩ := st
    simp only [List.mem_cons,List.not_mem_nil,or_false] at hc
    rcases hc with rfl | rfl | rfl | rfl | rfl
    · exact ⟨_,hz,fun v z => by have z' : Data.fields _ = Data.cell v := z; cases z'⟩
    · exact ⟨_,hi,fun v z => by have z' : Data.seq _ _ = Data.cell v := z; cases z'⟩
    · exact ⟨_,ho,fun v z => by have z' : Data.seq _ _ = Data.cell v := z; cases z'⟩
    · exact zfu s1
    · exact zfu s2
  keep := fun i h h' st kk => by
    obtain ⟨hz,hi,⟨p,q,ho⟩,s1,s2⟩ := st
    exact ⟨kk zp (by simp) _ hz,kk ti (by simp) _ hi,⟨p,q,kk to (by simp) _ ho⟩,zec s1 fun o e => kk u1 (by simp) o e,zec s2 fun o e => kk u2 (by simp) o e⟩
  item := by
    intro X hP hw hK hc i pins s σ H E I hf st hg
    subst hP hw hK
    obtain ⟨xs,ys,x,y,q1,q2,hx,hy⟩ := hg
    obtain ⟨hz,hi,⟨p,q,ho⟩,s1,s2⟩ := st
    obtain ⟨its1,St1,rv1,D1,d1,f1⟩ := zlf I hc q1 h1 s1
    obtain ⟨its2,St2,rv2,D2,d2,f2⟩ := zlf I hc q2 h2 s2
    have l1 : i < its1.toArray.size := by
      have := (List.getElem?_eq_some_iff.mp hx).1
      rw [List.size_toArray,← rv1.length]; exact this
    have l2 : i < its2.toArray.size := by
      have := (List.getElem?_eq_some_iff.mp hy).1
      rw [List.size_toArray,← rv2.length]; exact this
    refine zgK Z D1 D2 hz hi ho d1 d2 l1 l2 fun vx vy h' tk px py hz' hto' st1' st2' hT hsz hk => ⟨_,rfl,wpAny_letOwnedTupleGo_zip hz' fun h'' hz'' hs'' => ?_⟩
    obtain ⟨wx,e1,r1⟩ := rv1.get hx
    obtain ⟨wy,e2,r2⟩ := rv2.get hy
    have ex : vx = wx := by
      have : its1[i]? = some vx := by simpa using px
      rw [e1] at this; exact (Option.some.inj this).symm
    have ey : vy = wy := by
      have : its2[i]? = some vy := by simpa using py
      rw [e2] at this; exact (Option.some.inj this).symm
    subst ex ey
    have nT : ∀ c o,s.heap.get? c = some o→s.heap.objs.size≠c := fun c o e => Nat.ne_of_gt (Heap.lt_size e)
    have hT'' : h''.get? s.heap.objs.size = some { cls := .type "tuple",data := .seq #[vx,vy] } := (hs''.2 _ (nT _ _ hz)).trans hT
    obtain ⟨o1,ho1,_⟩ := zfu s1
    obtain ⟨o2,ho2,_⟩ := zfu s2
    refine ⟨.ref s.heap.objs.size,upd H s.heap.objs.size (.tup [x,y]),zk1 (s := s) (h' := h'') (t' := tk) (ch := [zp,to,u1,u2]) I (fun c hc => hf c ?_) (fun c ob hb e => ?_) (Nat.le_refl _) (zkO hT'' r1 r2),rfl,⟨_,x,y,I.hok.fresh (Nat.le_refl _),rfl,rfl,fun zs hz => by rw [ziy I hz q1]; exact hx,fun zs hz => by rw [ziy I hz q2]; exact hy⟩,⟨hz'',?_,⟨vx,vy,?_⟩,?_,?_⟩,fun c hc => ?_⟩
    · simp only [List.mem_cons,List.not_mem_nil,or_false] at hc ⊢
      rcases hc with rfl | rfl | rfl | rfl <;> simp
    · simp only [List.mem_cons,List.not_mem_nil,or_false,not_or] at hb
      exact (hs''.2 c hb.1).trans (hk c ob hb.1 hb.2.1 hb.2.2.1 hb.2.2.2 e)
    · exact (hs''.2 _ Z.a1).trans (hk _ _ Z.a1 Z.a8.1 Z.a8.2.1 Z.a8.2.2 hi)
    · exact (hs''.2 _ Z.a2).trans hto'
    · exact zec (f1 _ _ st1') fun o e => (hs''.2 _ Z.a3).trans e
    · exact zec (f2 _ _ st2') fun o e => (hs''.2 _ Z.a4).trans e
    · rw [zal ?_]
      · exact (hf c hc).1
      · simp only [List.mem_cons,List.not_mem_nil,or_false] at hc
        rcases hc with rfl | rfl | rfl | rfl | rfl
        · exact (nT _ _ hz).symm
        · exact (nT _ _ hi).symm
        · exact (nT _ _ ho).symm
        · exact (nT _ _ ho1).symm
        · exact (nT _ _ ho2).symm
  done := by
    intro X hP hw hK hc i pins s σ H E I hf st hg
    subst hP hw hK
    obtain ⟨xs,ys,q1,q2,hm⟩ := hg
    obtain ⟨hz,hi,⟨p,q,ho⟩,s1,s2⟩ := st
    obtain ⟨its1,St1,rv1,D1,d1,f1⟩ := zlf I hc q1 h1 s1
    obtain ⟨its2,St2,rv2,D2,d2,f2⟩ := zlf I hc q2 h2 s2
    have l1 := rv1.length
    have l2 := rv2.length
    refine zeQ Z D1 D2 hz hi ho d1 d2 ?_ fun h' tk hk => ⟨rfl,zjD (h' := h') (t' := tk) (ch := [zp,to,u1,u2]) I (fun c hc => hf c ?_) fun c ob hb e => ?_⟩
    · rw [List.size_toArray,List.size_toArray]
      omega
    · simp only [List.mem_cons,List.not_mem_nil,or_false] at hc ⊢
      rcases hc with rfl | rfl | rfl | rfl <;> simp
    · simp only [List.mem_cons,List.not_mem_nil,or_false,not_or] at hb
      exact hk c ob hb.1 hb.2.1 hb.2.2.1 hb.2.2.2 e
  self := fun _ _ _ _ _ st h => wpAny_pyIter_zip st.1 h
noncomputable def fZip (fa fb : FE) : FI := fun r => (fa r).bind fun d => (fb r).bind fun e => (opt (za7 d)).bind fun ds => (opt (za7 e)).bind fun es => .ok (List.zipWith (fun a b => D.tup [a,b]) ds es)
theorem zkn {α β γ : Type} (f : α→β→γ) : ∀ (l : List α) (r : List β) (i : Nat),(List.zipWith f l r)[i]? = (match l[i]?,r[i]? with | some a,some b => some (f a b) | _,_ => none) := fun l r i => by
  rw [List.getElem?_zipWith]
  cases l[i]? <;> cases r[i]? <;> rfl
theorem znu {K : PySem.W.Frag} {ds es : List D} {G0 : GH} {sq1 sq2 : Hp→List V→Prop} (h1 : ∀ G H,Gle G0 G→GOk K G H→∃ xs,sq1 H xs∧RGs K G xs ds) (h2 : ∀ G H,Gle G0 G→GOk K G H→∃ xs,sq2 H xs∧RGs K G xs es) : Yields K (Izp sq1 sq2) (List.zipWith (fun a b => D.tup [a,b]) ds es) G0 := by
  refine ⟨fun G H i w gk hi => ?_,fun G H i x H' d w gk y e => ?_,fun G H w gk => ?_⟩
  · obtain ⟨xs,s1,r1⟩ := h1 G H w gk
    obtain ⟨ys,s2,r2⟩ := h2 G H w gk
    rw [List.length_zipWith] at hi
    have l1 := Paired.length r1
    have l2 := Paired.length r2
    exact ⟨xs,ys,xs[i]'(by omega),ys[i]'(by omega),s1,s2,List.getElem?_eq_getElem _,List.getElem?_eq_getElem _⟩
  · obtain ⟨xs,s1,r1⟩ := h1 G H w gk
    obtain ⟨ys,s2,r2⟩ := h2 G H w gk
    obtain ⟨p,v,u,hp,rfl,rfl,hv,hu⟩ := y
    rw [zkn] at e
    cases e1 : ds[i]? with
    | none => rw [e1] at e; cases e
    | some d1 =>
      cases e2 : es[i]? with
      | none => rw [e1,e2] at e; cases e
      | some d2 =>
        rw [e1,e2] at e
        cases e
        obtain ⟨v',z1,rv⟩ := Paired.get r1 e1
        obtain ⟨u',z2,ru⟩ := Paired.get r2 e2
        have a1 := hv xs s1
        have a2 := hu ys s2
        rw [z1] at a1; cases a1
        rw [z2] at a2; cases a2
        exact ⟨_,Grow.newF gk hp (.tup (.inl zan) (.cons rv (.cons ru .nil))),.ref zas⟩
  · obtain ⟨xs,s1,r1⟩ := h1 G H w gk
    obtain ⟨ys,s2,r2⟩ := h2 G H w gk
    refine ⟨xs,ys,s1,s2,?_⟩
    rw [List.length_zipWith,Paired.length r1,Paired.length r2]
section
variable {X : Cx} {g : GE} {m : List Md} {e1 e2 : Expr} {fa fb : FE} {pos p pos2 : Pos} {elts : List Expr} {kk : Nat}
theorem znm {pins : List (Addr × Obj)} {σ : L2.St} {H : Hp} {s : Shared} {t1 t2 : Bool} {a b : Addr} {xs ys : List V} {E : Value→Shared→Prop} {Q : Value→Shared→Prop} (I : Inv X pins σ H s) (q1 : sqK X.K t1 a H xs) (q2 : sqK X.K t2 b H ys) (h : Made s (nmK t1) (nmK t2) a b Q) : wpAny (model X.prog X.w) X.A (call (.type "zip") [.ref a,.ref b]) Q E s := by
  cases t1 with
  | false =>
    obtain ⟨its1,_,p1,_⟩ := I.list q1
    cases t2 with
    | false => obtain ⟨its2,_,p2,_⟩ := I.list q2; exact zlm p1.isList p2.isList h
    | true => obtain ⟨its2,_,p2,_⟩ := I.tuple q2; exact zll p1.isList (show s.heap.IsTuple b its2.toArray from p2) h
  | true =>
    obtain ⟨its1,_,p1,_⟩ := I.tuple q1
    cases t2 with
    | false => obtain ⟨its2,_,p2,_⟩ := I.list q2; exact zlk (show s.heap.IsTuple a its1.toArray from p1) p2.isList h
    | true => obtain ⟨its2,_,p2,_⟩ := I.tuple q2; exact zlj (show s.heap.IsTuple a its1.toArray from p1) (show s.heap.IsTuple b its2.toArray from p2) h
theorem zc3 {x y : Nat} (h : x≠y) : (show Addr from x)≠(show Addr from y) := h
theorem zdC {x u a : Nat} (h1 : x≠u) (h2 : x≠a) : (show Addr from x)∉[(show Addr from u),(show Addr from a)] := fun h => by
  rcases List.mem_cons.mp h with h | h
  · exact h1 h
  · exact h2 (List.mem_singleton.mp h)
theorem znt {a b k : Nat} (la : a < k) (lb : b < k) : ZA (show Addr from k + 4) (show Addr from k + 2) (show Addr from k + 3) (show Addr from k) (show Addr from k + 1) [(show Addr from k),(show Addr from a)] [(show Addr from k + 1),(show Addr from b)] :=
  ⟨zc3 (by omega),zc3 (by omega),zc3 (by omega),zc3 (by omega),zc3 (by omega),zc3 (by omega),zc3 (by omega),⟨zc3 (by omega),zc3 (by omega),zc3 (by omega)⟩,
    ⟨zdC (by omega) (by omega),zdC (by omega) (by omega),zdC (by omega) (by omega)⟩,⟨zdC (by omega) (by omega),zdC (by omega) (by omega),zdC (by omega) (by omega)⟩⟩
theorem zps {c k : Nat} (h : c = k + 4∨c = k + 2∨c = k + 3∨c = k∨c = k + 1) : k≤c := by omega
theorem zov {ta tb : TE} (hg : Gl X "zip") (hm : X.mg "zip" = none) (ha : PE X e1 ta) (hb : PE X e2 tb) (hs : starEach [e1,e2] X.env = (false,eval e1 X.env)::starEach [e2] X.env := by rfl) (hs2 : starEach [e2] X.env = (false,eval e2 X.env)::starEach [] X.env := by rfl) (hpl : (backTo pos (starEach [e2] X.env)).any (·.1) = false := by rfl) :
    PI X (.Tuple elts kk pos2) (.Call (.Name "zip" p) [e1,e2] [] pos) (fun σ H R => ta σ H fun x H1 => tb σ H1 fun y H2 => ∃ (t1 t2 : Bool) (a b : Addr),x = .ref a∧y = .ref b∧(∃ xs,sqK X.K t1 a H2 xs)∧(∃ ys,sqK X.K t2 b H2 ys)∧R (Izp (sqK X.K t1 a) (sqK X.K t2 b)) H2) := by
  intro pins s σ H R I h
  refine Call_ (zgc I hg hm boot_zip (PyProof.Rows.callWith_type1 (thn (zbR ha (zbR hb zdT hs2) hs pos pins s σ H (fun vs H2 => match vs with
    | [x,y] => ∃ (t1 t2 : Bool) (a b : Addr),x = .ref a∧y = .ref b∧(∃ xs,sqK X.K t1 a H2 xs)∧(∃ ys,sqK X.K t2 b H2 ys)∧R (Izp (sqK X.K t1 a) (sqK X.K t2 b)) H2
    | _ => False) I h) fun us s1 ⟨vs,H1,I1,r1,q1⟩ => ?_) hs hpl))
  cases r1 with
  | nil => exact q1.elim
  | @cons x u xs us rx rt =>
  cases rt with
  | nil => exact q1.elim
  | @cons y u' xs' us' ry rt' =>
  cases rt' with
  | cons _ _ => exact q1.elim
  | nil =>
  obtain ⟨t1,t2,a,b,rfl,rfl,⟨zs,z1⟩,⟨ws,z2⟩,q⟩ := q1
  cases rx
  cases ry
  have la := zfT I1 z1
  have lb := zfT I1 z2
  refine znm I1 z1 z2 fun h' hz hi ho o1 o2 kp => wpAny_pyIter_zip hz ?_
  refine ⟨_,[s1.heap.objs.size + 4,s1.heap.objs.size + 2,s1.heap.objs.size + 3,s1.heap.objs.size,s1.heap.objs.size + 1],_,_,H1,rfl,I1.kept (t' := s1.toks) kp,zkp (t1 := t1) (t2 := t2) a b _ _ _ _ _ (znt la lb) (Nat.ne_of_lt la) (Nat.ne_of_lt (Nat.lt_succ_of_lt lb)),⟨hz,hi,⟨_,_,ho⟩,zjC o1,zjC o2⟩,fun c hc => ?_,q⟩
  have hge : s1.heap.objs.size≤c := by
    simp only [List.mem_cons,List.not_mem_nil,or_false] at hc
    exact zps hc
  exact I1.fpOk hge (I1.hok.fresh hge)
theorem zqE (hg : Gl X "zip") (hm : X.mg "zip" = none) (ha : SE X g m e1 fa) (hb : SE X g m e2 fb) (hs : starEach [e1,e2] X.env = (false,eval e1 X.env)::starEach [e2] X.env := by rfl) (hs2 : starEach [e2] X.env = (false,eval e2 X.env)::starEach [] X.env := by rfl) (hpl : (backTo pos (starEach [e2] X.env)).any (·.1) = false := by rfl) : SIt X g m (.Tuple elts kk pos2) (.Call (.Name "zip" p) [e1,e2] [] pos) (fZip fa fb) := by
  refine PI.imp (zov hg hm ha hb hs hs2 hpl) fun σ H R ⟨r,G,si,q⟩ => ⟨r,G,si,zaf (zae q) fun d q v G1 H1 w1 rv => ⟨r,G1,si.grow w1,?_⟩⟩
  refine zaI (zae q) w1 fun e q u G2 H2 w2 ru => ?_
  obtain ⟨ds,ed,q⟩ := zaC (zae q)
  obtain ⟨es,ee,q⟩ := zaC (zae q)
  have rv2 := rv.mono w2.ge
  have one : ∀ {v : V} {d : D} {ds : List D},RG X.K G2 v d→za7 d = some ds→∃ (t : Bool) (a : Addr),v = .ref a∧(∃ xs,sqK X.K t a H2 xs)∧∀ G H,Gle G2 G→GOk X.K G H→∃ xs,sqK X.K t a H xs∧RGs X.K G xs ds := by
    intro v d ds rv ed
    cases d with
    | lst ds' =>
      cases ed
      obtain ⟨a,xs,rfl,s,rs⟩ := rv.lst w2.ok
      refine ⟨false,a,rfl,⟨xs,s⟩,fun G H le gk => ?_⟩
      obtain ⟨b,ys,e,s',r'⟩ := (rv.mono le).lst gk
      cases e
      exact ⟨ys,s',r'⟩
    | tup ds' =>
      cases ed
      obtain ⟨a,xs,rfl,s,rs⟩ := rv.tup w2.ok
      refine ⟨true,a,rfl,⟨xs,s⟩,fun G H le gk => ?_⟩
      obtain ⟨b,ys,e,s',r'⟩ := (rv.mono le).tup gk
      cases e
      exact ⟨ys,s',r'⟩
    | _ => cases ed
  obtain ⟨t1,a,rfl,x1,y1⟩ := one rv2 ed
  obtain ⟨t2,b,rfl,x2,y2⟩ := one ru ee
  exact ⟨t1,t2,a,b,rfl,rfl,x1,x2,q _ G2 H2 (w1.trans w2) (znu y1 y2)⟩
end
end DL
end
section
namespace DL
open PySem PyProof.Rows L2
variable {X : Cx} {g : GE} {m mb : List Md} {e a b o c : Expr} {f fa fb fc : FE} {pos pos' : Pos}
open Classical in
noncomputable def inE (x c : D) : Option D := match c with
  | .lst ds => if Shp 60 x∧Shp 60 (.lst ds) then some (.bl (ds.any fun y => eqb y x)) else none
  | _ => none
theorem zei : ∀ ds : List D,zbg ds = ds.map toPy
  | [] => by unfold zbg; rfl
  | d::ds => by unfold zbg; rw [zei ds]; rfl
noncomputable def rInE (K : PySem.W.Frag) : R2 := fun x y H Q => ∃ (G : GH) (d : D) (ds : List D),GOk K G H∧RB K G H x d∧RB K G H y (.lst ds)∧Shp 60 d∧Shp 60 (.lst ds)∧Q (.bl (ds.any fun z => eqb z d)) H
theorem zoM (hu : X.A.units + 64 < cLine) : OpR X (compareOp .In) (rInE X.K) := by
  intro pins s σ H x y v u Q I rx ry h
  obtain ⟨G,d,ds,gk,r1,r2,s1,s2,q⟩ := h
  obtain ⟨as,h1⟩ := zb1 I gk 60 d x v s1 r1 rx
  obtain ⟨bs,h2⟩ := zb1 I gk 60 (.lst ds) y u s2 r2 ry
  have e : toPy (.lst ds) = PyData.list (zbg ds) := by rw [toPy]
  rw [e] at h2
  obtain ⟨c1,c2⟩ := zfV 60 d s1
  obtain ⟨k1,k2⟩ := zeq (k := 59) (zfV 59) ds (zdB.mp s2)
  refine SeqAt.in_list_reads h2 h1 k1 c1 ?_ ⟨.bl _,H,I,rfl,?_⟩
  · have : min (PyData.depthAll (zbg ds)) (toPy d).depth≤60 := Nat.le_trans (Nat.min_le_right _ _) c2
    omega
  · rw [zei,List.any_map]
    exact q
theorem zpn {K : PySem.W.Frag} : OpD K (rInE K) inE := by
  intro G H v1 v2 d1 d2 d Q gk r1 r2 e q
  unfold inE at e
  split at e
  · rename_i ds
    split at e
    · rename_i hs
      cases e
      exact ⟨G,d1,ds,gk,r1,r2,hs.1,hs.2,q _ G H (Grow.refl gk) (.scl (.bl _))⟩
    · cases e
  · cases e
theorem zqh (hu : X.A.units + 64 < cLine) (ha : SB X g m a fa) (hb : SB X g m b fb) (hm : behindInMarks .In b = false := by rfl) : SE X g m (.Compare a [.In] [b] pos) (f2 fa fb inE) := zkx (zoM hu) zpn ha hb hm
end DL
end
section
namespace DL
open PySem PySem.Spec PyProof.Rows L2
noncomputable def BIG : Nat := 2 ^ 2000
noncomputable def zig (i j : Int) : Prop := i.natAbs < BIG∧j.natAbs < BIG
noncomputable def zly (_i j : Int) : Prop := 0 < j∧j.natAbs < BIG
noncomputable instance decMulW (i j : Int) : Decidable (zig i j) := by unfold zig; infer_instance
noncomputable instance decDivW (i j : Int) : Decidable (zly i j) := by unfold zly; infer_instance
theorem zkb {i : Int} (h : i.natAbs < BIG) : Builtin.Int.intBits i≤2000 := by
  unfold Builtin.Int.intBits
  split
  · exact Nat.zero_le _
  · rename_i z
    have h0 : i.natAbs≠0 := fun e => z (by rw [Int.natAbs_eq_zero.mp e]; rfl)
    have := (Nat.log2_lt h0).mpr h
    omega
theorem zig.ok {i j : Int} (h : zig i j) : IntMulOk i j := by
  have h1 := zkb h.1
  have h2 := zkb h.2
  unfold IntMulOk
  have e : Builtin.Int.intTooBig ((Builtin.Int.intBits i : Int) + (Builtin.Int.intBits j : Int)) = false := by
    unfold Builtin.Int.intTooBig
    have : ((bitsLine : Nat) : Int) = 134217728 := by decide +kernel
    exact decide_eq_false (by omega)
  rw [e]; simp
theorem zmK : OpR X (binaryOp .Mult) (rI zig fun i j => .int (i * j)) := opI fun _ _ _ _ _ _ _ hc q => mul_int q hc.ok
theorem zkP : OpR X (binaryOp .FloorDiv) (rI zly fun i j => .int (i / j)) := opI fun i j _ _ _ _ _ hc q => by
  have h1 : (0 : Int) < j := hc.1
  have h2 : j.natAbs < BIG := hc.2
  have h0 : j.natAbs≠0 := by omega
  have := (Nat.log2_lt h0).mpr h2
  exact floordiv_int (by omega) (by rw [Int.fdiv_eq_ediv_of_nonneg i (by omega)]; exact q) (.inl (PyProof.noPylong_of_log2 (by omega)))
noncomputable abbrev mulW : D→D→Option D := zeV zig fun a b => .int (a * b)
noncomputable abbrev zgV : D→D→Option D := zeV zly fun a b => .int (a / b)
section
variable {X : Cx} {g : GE} {m : List Md} {e a b c o : Expr} {es : List Expr} {f fa fb fc fo : FE} {fl : Rho → Res (List D)} {pos p apos cpos : Pos}
theorem zcw (ha : SB X g m a fa) (hb : SB X g m b fb) : SE X g m (.BinOp a .Mult b pos) (f2 fa fb mulW) := zfZ zmK (zcK fun _ _ => .int _) ha hb
theorem zfl (ha : SB X g m a fa) (hb : SB X g m b fb) : SE X g m (.BinOp a .FloorDiv b pos) (f2 fa fb zgV) := zfZ zkP (zcK fun _ _ => .int _) ha hb
noncomputable def absD : List D→Option D
  | [.int i] => some (.int (if i < 0 then -i else i))
  | _ => none
theorem zpS {K : PySem.W.Frag} : zif K (fun xs H Q => ∃ i : Int,xs = [.int i]∧Q (.int (if i < 0 then -i else i)) H) absD := by
  intro G H vs ds d Q gk rs e q
  unfold absD at e
  split at e
  · cases e
    cases rs with
    | cons r1 t =>
      cases t
      exact ⟨_,by rw [r1.int gk],q _ G H (Grow.refl gk) (.scl (.int _))⟩
  · cases e
theorem zn8 (hg : Gl X "abs") (hm : X.mg "abs" = none) (ha : SAB X g m (e::es) fl) (he : starEach (e::es) X.env = (false,eval e X.env)::starEach es X.env := by rfl) (hpl : (backTo pos (starEach es X.env)).any (·.1) = false := by rfl) :
    SE X g m (.Call (.Name "abs" p) (e::es) [] pos) (fC fl absD) := s_cb zpS (zdt zlq hg hm PyProof.Rows.boot_abs ha (by decide) (by decide) he hpl)
theorem zfk {x : Str} {d : D} (hg : Gl X x) (hk : ∃ a,X.mg x = some (.ref a)∧KC X.K a d) (hd : (x == ("__debug__" : Str)) = false := by decide) : SE X g m (.Name x pos) fun _ => .ok d := by
  obtain ⟨a,hm,k⟩ := hk
  exact PE.imp (zmD (v := .ref a) hg hm rfl hd) fun σ H Q ⟨r,G,si,q⟩ => q (.ref a) G H (Grow.refl si.gok) (.kc k)
theorem zqA {K : PySem.W.Frag} {h : Heap} {mg : Str→Option Value} {x : Str} (KX : K.In h) (G : h.Ns mainGlobals mg) {a : Addr} {i j : Int} {t u : Tok} {n : Nat} {sl : Array (Option Value)} (z : PySem.W.nsIn K mainGlobals x = some (some (.ref a)))
    (l : K.lookup a = some ⟨.type "tuple",none,.seq #[.int i t,.int j u] n,sl⟩) : ∃ a,mg x = some (.ref a)∧KC K a (.tup [.int i,.int j]) := by
  refine ⟨a,PySem.W.mg_of KX G z,.tup (xs := [.int i,.int j]) (.inr ⟨_,_,_,l,rfl,rfl,?_,.cons ⟨_,rfl⟩ (.cons ⟨_,rfl⟩ .nil)⟩) (.cons (.int _) (.cons (.int _) .nil)) ⟨_,l,rfl,rfl⟩⟩
  show 2≤sizeLine
  rw [sizeLine_eq]; decide
noncomputable def ziQ (K : PySem.W.Frag) : V→List V→Hp→VK→Prop := fun x vs H Q => ∃ p xs y,x = .ref p∧vs = [y]∧SqL K H p xs∧zdF y = true∧xs.all zdF = true∧Q (.int ((xs.countP fun z => eqV z y : Nat) : Int)) H
theorem zj1 {y : V} : ∀ {xs : List V} {us : List Value},Vals xs us→xs.all zdF = true→us.countP (eqU y) = xs.countP fun z => eqV z y
  | _,_,.nil,_ => rfl
  | x::xs,u::us,.cons r t,f => by
    rw [List.all_cons,Bool.and_eq_true] at f
    rw [List.countP_cons,List.countP_cons,zj1 t f.2,zjP r f.1]
theorem zga : MtR X "list.count" (ziQ X.K) := by
  intro pins s σ H x vs v us Q I rx rv h
  obtain ⟨p,xs,y,rfl,rfl,hq,fy,fx,q⟩ := h
  cases rx
  obtain ⟨u,rfl,ru⟩ := zfP rv
  obtain ⟨its,r,pl,hz⟩ := I.list hq
  obtain ⟨o,n,ho,hc,hd,hs⟩ := pl
  obtain ⟨ocls,odict,odata,oslots⟩ := o
  simp only at hc hd hs
  subst hc hd hs
  refine call_meets PySem.F.slot_list_count ⟨_,ho,rfl⟩ PySem.F.entry_list_count (PySem.F.args_list_count_2 _ _)
    (SeqAt.list_countAt p its.toArray n none oslots u (eqU y)) ⟨ho,fun w hw => zcM ru fy r fx w (by simpa using hw),⟨.int _,H,I.tok _,⟨_,rfl⟩,?_⟩⟩
  have e : (its.toArray.toList.countP (eqU y)) = xs.countP fun z => eqV z y := zj1 r fx
  rw [e]; exact q
noncomputable def ze9 (d : D) (zs : List D) : Option D := match d,zs with
  | .lst ds,[x] => if zbT x = true∧ds.all zbT = true then some (.int ((ds.countP fun z => eqs z x : Nat) : Int)) else none
  | _,_ => none
theorem zgo {K : PySem.W.Frag} : MtD K (ziQ K) ze9 := by
  intro G H v d vs ds d' Q gk rv rs e q
  unfold ze9 at e
  split at e
  · rename_i zs x
    split at e
    · rename_i hc
      cases e
      cases rs with
      | cons r1 rt =>
        cases rt
        obtain ⟨a,xs,rfl,s,r⟩ := rv.lst gk
        obtain ⟨e1,f1⟩ := RB.flat r1 gk hc.1
        obtain ⟨e3,f3⟩ := zpy r gk hc.2
        refine ⟨a,xs,_,rfl,rfl,s,f1,f3,?_⟩
        have : (xs.countP fun z => eqV z (toV x)) = zs.countP fun z => eqs z x := by
          rw [e3,List.countP_map]; rfl
        rw [e1,this]
        exact q _ G H (Grow.refl gk) (.scl (.int _))
    · cases e
  · cases e
end
end DL
end
section
namespace DL
open PySem PySem.Spec PyProof.Rows L2
noncomputable def kyD : Key→D
  | .inl i => .int i
  | .inr x => .str x
theorem zm4 (k : Key) : Scl (kV k) (kyD k) := by
  cases k with
  | inl i => exact .int i
  | inr x => exact .str x
noncomputable def zdv : D→Option (List D)
  | .dic kvs => some (kvs.map fun kv => kyD kv.1)
  | _ => none
noncomputable def Itd (a : Addr) (ob : Obj) (ps : List (Key × V)) : It :=
  ⟨fun i H => H a = some (.frz ob (.dK ps))∧i < ps.length,fun i H x H' => H' = H∧∃ kv,ps[i]? = some kv∧x = kV kv.1,fun i H => H a = some (.frz ob (.dK ps))∧i = ps.length⟩
theorem zpc {P : Program} {w : World} {k : Key} {u : Value} (h : (za4 P w).is k u = true) : RelV (kV k) u := by
  rcases keyIs_shape h with ⟨i,t,rfl,rfl⟩ | ⟨x,t,rfl,rfl⟩
  · exact ⟨t,rfl⟩
  · exact ⟨t,rfl⟩
section
variable {X : Cx} {pins : List (Addr × Obj)} {σ : L2.St} {H : Hp} {s : Shared} {a : Addr} {ob : Obj} {ps : List (Key × V)}
theorem zgZ (I : Inv X pins σ H s) (e : H a = some (.frz ob (.dK ps))) {es : Array DictEntry} {ep : Nat} (hob : ob.data = .dict es ep) : ∃ vs,KV ps vs∧s.heap.DictAt (za4 X.prog X.w) a vs ep∧(a == sysModules) = false := by
  obtain ⟨h1,z,y,vs,r,o',es',ep',h2,c1,c2,c3⟩ := (show za8 X.prog X.w H s.heap a (.frz ob (.dK ps)) from I.hok a _ e)
  rw [h1] at h2
  cases h2
  rw [hob] at c2
  cases c2
  exact ⟨vs,r,⟨ob,es,h1,c1,hob,c3⟩,y⟩
theorem znf (I : Inv X pins σ H s) (e : H a = some (.frz ob (.dK ps))) : ∃ (es : Array DictEntry) (ep : Nat),ob.data = .dict es ep := by
  obtain ⟨h1,z,y,vs,r,o',es',ep',h2,c1,c2,c3⟩ := (show za8 X.prog X.w H s.heap a (.frz ob (.dK ps)) from I.hok a _ e)
  rw [h1] at h2
  cases h2
  exact ⟨es',ep',c2⟩
end
theorem zim {P : Program} {w : World} {K : PySem.W.Frag} {tg : Expr} (a it : Addr) {ob : Obj} {ps : List (Key × V)} {es : Array DictEntry} {ep : Nat} (hob : ob.data = .dict es ep) : Turn P w K tg (Itd a ob ps) [it] it (fun i h => h.IsKeyIter it a i ps.length ep) where
  mem := by simp
  obj := fun i h st b hb => by
    have e : b = it := by simpa using hb
    subst e
    obtain ⟨o,e,c,d⟩ := st
    exact ⟨o,e,fun v z => by rw [d] at z; cases z⟩
  keep := fun i h h' st k => st.at fun o e => k it (by simp) o e
  item := by
    intro X hP hw hK hc i pins s σ H E I hf st hg
    subst hP hw hK
    obtain ⟨he,hi⟩ := hg
    obtain ⟨vs,r,m,_⟩ := zgZ I he hob
    have hl : ps.length = vs.length := Paired.length r
    have hiv : i < vs.length := by omega
    obtain ⟨kv,h1,h2⟩ := DL.Paired.get r (List.getElem?_eq_getElem hiv)
    obtain ⟨f0,f1,f2,f3,f4,f5⟩ := hf it (by simp)
    rw [hl] at st
    refine wpAny_pyNext_dict_item (k := vs[i].1) (v := vs[i].2) st m (List.getElem?_eq_getElem hiv) fun key h' hkey hit' sb => ?_
    have I1 : Inv X pins σ H { s with heap := h' } := I.turned (t' := s.toks) (fun b o hb e => (sb.2 b hb).trans e) f0 f1 f3 f4 f5
    obtain ⟨o,e,c,d⟩ := id hit'
    exact ⟨key,rfl,zk6 (s := { s with heap := h' }) e c d (by decide) ⟨kV kv.1,H,I1,by rw [h2.1]; exact zpc hkey,⟨rfl,kv,h1,rfl⟩,by rw [hl]; exact hit',fun b hb => (hf b hb).1⟩⟩
  done := by
    intro X hP hw hK hc i pins s σ H E I hf st hg
    subst hP hw hK
    obtain ⟨he,hi⟩ := hg
    obtain ⟨vs,r,m,_⟩ := zgZ I he hob
    have hl : ps.length = vs.length := Paired.length r
    obtain ⟨f0,f1,f2,f3,f4,f5⟩ := hf it (by simp)
    rw [hl] at st
    exact wpAny_pyNext_dict_end (I.ok.hd hc) st m (by rw [List.getElem?_eq_none]; omega) fun h' eb => ⟨rfl,I.turned (t' := s.toks) (fun b o hb e => eb b o hb e) f0 f1 f3 f4 f5⟩
  self := fun _ _ _ _ _ st h => wpAny_pyIter_keyiter st h
section
variable {X : Cx} {g : GE} {m m' m1 mb : List Md} {tg e a b c iter : Expr} {f fa fb : FE} {p : FQ} {pos pos' : Pos} {ro : Bool} {fl : Rho → Res (List D)} {sts : List Stmt} {s1 : FS}
theorem zi0 {l : Expr} {tl : TE} (hl : PE X l tl) : PI X tg l (fun σ H R => tl σ H fun x H1 => ∃ a ob ps,x = .ref a∧H1 a = some (.frz ob (.dK ps))∧R (Itd a ob ps) H1) := by
  intro pins s σ H R I h
  refine thn (hl pins s σ H _ I h) fun v s1 ⟨x,H1,I1,r1,q1⟩ => ?_
  obtain ⟨a,ob,ps,e,he,q⟩ := q1
  subst e
  cases r1
  obtain ⟨es,ep,hob⟩ := znf I1 he
  obtain ⟨vs,r,mm,hs⟩ := zgZ I1 he hob
  have hl : ps.length = vs.length := Paired.length r
  refine wpAny_pyIter_dict hs mm ?_
  refine ⟨s1.heap.objs.size,[s1.heap.objs.size],_,_,H1,rfl,I1.kept (t' := s1.toks) fun b o e => Heap.get?_push_of_some _ e,zim a _ hob,⟨_,Heap.get?_push_size _ rfl,rfl,by rw [hl]; rfl⟩,fun b hb => ?_,q⟩
  have e : b = s1.heap.objs.size := by simpa using hb
  subst e
  exact I1.fpOk (Nat.le_refl _) (I1.hok.fresh (Nat.le_refl _))
theorem zlW {K : PySem.W.Frag} {G : GH} {ps : List (Key × V)} {kvs : List (Key × D)} (r : RKs K G ps kvs) {i : Nat} {kv : Key × V} {d : D} (h : ps[i]? = some kv) (hd : (kvs.map fun kv => kyD kv.1)[i]? = some d) : RG K G (kV kv.1) d := by
  rw [List.getElem?_map] at hd
  cases e : kvs[i]? with
  | none => rw [e] at hd; cases hd
  | some q =>
    rw [e] at hd
    cases hd
    obtain ⟨kv',h1,h2⟩ := DL.Paired.get r e
    rw [h] at h1
    cases h1
    rw [h2.1]
    exact .scl (zm4 _)
theorem RG.dicF {K : PySem.W.Frag} {G : GH} {H : Hp} {v : V} {kvs : List (Key × D)} (gk : GOk K G H) (h : RG K G v (.dic kvs)) : ∃ a ob ps,v = .ref a∧G a = some (.dic kvs)∧H a = some (.frz ob (.dK ps))∧RKs K G ps kvs := by
  cases h with
  | scl s => cases s
  | ref e =>
    cases gk _ _ e with
    | dic r s => exact ⟨_,_,_,rfl,e,r,s⟩
  | kc k => cases k
theorem znx {K : PySem.W.Frag} {a : Addr} {ob : Obj} {ps : List (Key × V)} {kvs : List (Key × D)} {G0 : GH} {H0 : Hp} (he : H0 a = some (.frz ob (.dK ps))) (r : RKs K G0 ps kvs) : YieldsC K (Itd a ob ps) (kvs.map fun kv => kyD kv.1) G0 H0 := by
  have hl : ps.length = kvs.length := Paired.length r
  refine ⟨fun G H i w hi => ⟨w.he _ _ he,by rw [List.length_map] at hi; omega⟩,fun G H i x H' d w y e => ?_,fun G H w => ⟨w.he _ _ he,by rw [List.length_map]; omega⟩⟩
  obtain ⟨rfl,kv,h1,rfl⟩ := y
  exact ⟨G,Grow.refl w.ok,zlW (RKs.mono r w.ge) h1 e⟩
theorem zm9 (h : SE X g m e f) : SItC X g m tg e (fSeq zdv f) := by
  refine PI.imp (zi0 h) fun σ H R ⟨r,G,si,q⟩ => ⟨r,G,si,zaf (zae q) fun d q v G' H' w rv => ?_⟩
  obtain ⟨ds,e,q⟩ := zaC q
  cases d with
  | dic kvs =>
    cases e
    obtain ⟨a,ob,ps,rfl,_,he,rs⟩ := RG.dicF w.ok rv
    exact ⟨a,ob,ps,rfl,he,q _ G' H' w (znx he rs)⟩
  | _ => cases e
noncomputable def addG (g : GE) (a : Addr) (d : D) (u : HO) : GE := ⟨gset g.gh a d,upd g.h0 a u,g.hd⟩
theorem SI.up {r : Rho} {G : GH} {st : L2.St} {H : Hp} {a : Addr} {d : D} {u : HO} (s : SI X g m r G st H) (hG : G a = some d) (hH : H a = some u) : SI X (addG g a d u) m r G st H where
  gok := s.gok
  old := fun b o e => by
    by_cases hb : b = a
    · subst hb
      have e' : upd g.h0 b u b = some o := e
      rw [zan] at e'; cases e'; exact hH
    · have e' : upd g.h0 a u b = some o := e
      rw [zal hb] at e'; exact s.old b o e'
  ge := fun b x e => by
    by_cases hb : b = a
    · subst hb
      have e' : gset g.gh b d b = some x := e
      rw [zas] at e'; cases e'; exact hG
    · have e' : gset g.gh a d b = some x := e
      rw [za5 hb] at e'; exact s.ge b x e'
  gf := fun b h => by
    show G b = gset g.gh a d b
    by_cases hb : b = a
    · subst hb; rw [zas]; exact hG
    · rw [za5 hb]
      exact s.gf b fun z => h (show upd g.h0 a u b = none by rw [zal hb]; exact z)
  lm := s.lm
  lr := s.lr
  sh := s.sh
  ow := fun i x h1 h2 => by
    obtain ⟨c,q1,q2,q3⟩ := s.ow i x h1 h2
    refine ⟨c,q1,q2,?_⟩
    have hc : c≠a := by rintro rfl; rw [q2.un] at hG; cases hG
    show upd g.h0 a u c = none
    rw [zal hc]; exact q3
  bw := fun i x h1 h2 => by
    obtain ⟨v,q1,q2⟩ := s.bw i x h1 h2
    refine ⟨v,q1,?_⟩
    rcases q2 with q2 | ⟨c,e,q2,q3⟩
    · exact .inl q2
    · refine .inr ⟨c,e,q2,?_⟩
      have hc : c≠a := by rintro rfl; rw [q2.un] at hG; cases hG
      show upd g.h0 a u c≠none
      rw [zal hc]; exact q3
  dis := s.dis
  lk := s.lk
structure Had (g : GE) (a : Addr) (d : D) (u : HO) : Prop where
  h0 : ∀ o,g.h0 a = some o→o = u
  gh : ∀ x,g.gh a = some x→x = d
  gf : g.h0 a≠none→g.gh a = some d
theorem SI.had {r : Rho} {G : GH} {st : L2.St} {H : Hp} {a : Addr} {d : D} {u : HO} (s : SI X g m r G st H) (hG : G a = some d) (hH : H a = some u) : Had g a d u :=
  ⟨fun o e => by have := s.old a o e; rw [hH] at this; cases this; rfl,fun x e => by have := s.ge a x e; rw [hG] at this; cases this; rfl,fun h => by rw [← s.gf a h]; exact hG⟩
theorem SI.down {r : Rho} {G : GH} {st : L2.St} {H : Hp} {a : Addr} {d : D} {u : HO} (hd : Had g a d u) (s : SI X (addG g a d u) m r G st H) : SI X g m r G st H := by
  have hH : H a = some u := s.old a u zan
  have hG : G a = some d := s.ge a d zas
  exact {
    gok := s.gok
    old := fun b o e => by
      by_cases hb : b = a
      · subst hb; rw [hd.h0 o e]; exact hH
      · exact s.old b o (show upd g.h0 a u b = some o by rw [zal hb]; exact e)
    ge := fun b x e => by
      by_cases hb : b = a
      · subst hb; rw [hd.gh x e]; exact hG
      · exact s.ge b x (show gset g.gh a d b = some x by rw [za5 hb]; exact e)
    gf := fun b h => by
      by_cases hb : b = a
      · subst hb; rw [hG,hd.gf h]
      · have := s.gf b (show upd g.h0 a u b≠none by rw [zal hb]; exact h)
        rw [this]
        exact za5 hb
    lm := s.lm
    lr := s.lr
    sh := s.sh
    ow := fun i x h1 h2 => by
      obtain ⟨c,q1,q2,q3⟩ := s.ow i x h1 h2
      have hc : c≠a := by rintro rfl; rw [q2.un] at hG; cases hG
      refine ⟨c,q1,q2,?_⟩
      have q3' : upd g.h0 a u c = none := q3
      rw [zal hc] at q3'; exact q3'
    bw := fun i x h1 h2 => by
      obtain ⟨v,q1,q2⟩ := s.bw i x h1 h2
      refine ⟨v,q1,?_⟩
      rcases q2 with q2 | ⟨c,e,q2,q3⟩
      · exact .inl q2
      · have hc : c≠a := by rintro rfl; rw [q2.un] at hG; cases hG
        refine .inr ⟨c,e,q2,?_⟩
        have q3' : upd g.h0 a u c≠none := q3
        rw [zal hc] at q3'; exact q3'
    dis := s.dis
    lk := s.lk }
theorem Grow.down {K : PySem.W.Frag} {G' : GH} {H' : Hp} {a : Addr} {d : D} {u : HO} (hd : Had g a d u) (w : Grow K (addG g a d u).gh (addG g a d u).h0 G' H') : Grow K g.gh g.h0 G' H' :=
  ⟨w.ok,fun b o e => by
    by_cases hb : b = a
    · subst hb; rw [hd.h0 o e]; exact w.he b u zan
    · exact w.he b o (show upd g.h0 a u b = some o by rw [zal hb]; exact e),fun b x e => by
    by_cases hb : b = a
    · subst hb; rw [hd.gh x e]; exact w.ge b d zas
    · exact w.ge b x (show gset g.gh a d b = some x by rw [za5 hb]; exact e),fun b h => by
    by_cases hb : b = a
    · subst hb; rw [hd.gf h]; exact w.ge b d zas
    · have := w.gf b (show upd g.h0 a u b≠none by rw [zal hb]; exact h)
      rw [this]; exact za5 hb⟩
noncomputable def tID (X : Cx) (g : GE) (m : List Md) (f : FE) : TI := fun σ H R => ∃ r G,SI X g m r G σ H∧fin (f r) (fun d => ∀ a ob ps kvs G' H',d = .dic kvs→Grow X.K G H G' H'→G' a = some (.dic kvs)→H' a = some (.frz ob (.dK ps))→RKs X.K G' ps kvs→R (Itd a ob ps) H') (XW X σ G H)
theorem zpq (h : SE X g m e f) (hd : ∀ r d,f r = .ok d→∃ kvs,d = .dic kvs) : PI X tg e (tID X g m f) := by
  refine PI.imp (zi0 h) fun σ H R ⟨r,G,si,q⟩ => ⟨r,G,si,?_⟩
  cases er : f r with
  | ok d =>
    rw [er] at q
    intro v G' H' w rv
    obtain ⟨kvs,rfl⟩ := hd r d er
    obtain ⟨a,ob,ps,rfl,hG,he,rs⟩ := RG.dicF w.ok rv
    exact ⟨a,ob,ps,rfl,he,q a ob ps kvs G' H' rfl w hG he rs⟩
  | exc x => rw [er] at q; exact q
  | stuck => rw [er] at q; exact q
noncomputable def zi7 (f : FE) : FE := fun r => (f r).bind fun d => match d with
  | .dic kvs => .ok (.dic kvs)
  | _ => .stuck
theorem zmo (h : SE X g m e f) : SE X g m e (zi7 f) := PE.imp h fun σ H Q ⟨r,G,si,q⟩ => ⟨r,G,si,by
  refine zaf (zae q) fun d q v G' H' w rv => ?_
  cases d with
  | dic kvs => exact q v G' H' w rv
  | _ => exact q.elim⟩
theorem zi6 (f : FE) : ∀ r d,zi7 f r = .ok d→∃ kvs,d = .dic kvs := by
  intro r d e
  unfold zi7 at e
  cases er : f r with
  | ok x =>
    rw [er,bind_ok] at e
    cases x with
    | dic kvs => cases e; exact ⟨kvs,rfl⟩
    | _ => cases e
  | exc x => rw [er] at e; cases e
  | stuck => rw [er] at e; cases e
theorem zjN {r : Rho} {q : List D→Prop} {x : D→Prop} (h : fin (fSeq zdv f r) q x) : fin (zi7 f r) (fun d => ∀ kvs,d = .dic kvs→q (kvs.map fun kv => kyD kv.1)) x := by
  unfold fSeq at h
  unfold zi7
  cases er : f r with
  | ok d =>
    rw [er] at h
    cases d with
    | dic kvs => intro kvs' e; cases e; exact h
    | _ => exact h
  | exc y => rw [er] at h; exact h
  | stuck => rw [er] at h; exact h
theorem zlC (hp : PassesOwn (model X.prog X.w) X.A X.env X.xe) (hc : X.calm = true) {ft : FT} (hi : SE X g m iter f) (hg : ∀ g',SG X g' m tg ft m) (hb : ∀ g',SSs X g' ro m m sts s1 m)
    (hs : ∀ x,foldedSetIterable iter X.env x = pure x := by intro _; rfl) : SS X g ro mb m (.For tg iter sts [] pos) (zcb m (fSeq zdv f) ft s1) m := by
  have hgA : PG X tg (fun v σ H Q => ∃ g',tG X g' m m ft v σ H Q) := fun pins s σ H v u Q I r ⟨g',q⟩ => (hg g').2 pins s σ H v u Q I r q
  have hbA : PSs X sts (fun D σ H => ∃ g',tS X g' ro m m m s1 D σ H) := fun pins s σ H D I ⟨g',q⟩ => (hb g').2 pins s σ H D I q
  refine ⟨rfl,PS.imp (zf4 hp hc (zpq (zmo hi) (zi6 f)) hgA hbA hs) fun D σ H ⟨r,G,si,q⟩ => ⟨r,G,si,zaf (zjN (za3 si rfl q)) fun d q a ob ps kvs G0 H0 ed w0 hG0 hH0 rs0 => ?_⟩⟩
  replace q := q kvs ed
  have si0 := si.grow w0
  have hl : ps.length = kvs.length := Paired.length rs0
  have had := si0.had hG0 hH0
  generalize hds : (kvs.map fun kv => kyD kv.1) = ds at q
  have hdl : ds.length = ps.length := by rw [← hds,List.length_map]; omega
  refine ⟨fun i n σ H => ∃ r G,SI X (addG g a (.dic kvs) (.frz ob (.dK ps))) m r G σ H∧Gle G0 G∧i≤ds.length∧n = ds.length - i∧oTo X g ro m mb G D (forF ft s1 (ds.drop i) r),⟨ds.length,r,G0,si0.up hG0 hH0,Gle.refl G0,Nat.zero_le _,rfl,oTo.gle q w0.ge⟩,?_⟩
  rintro i n σ1 H1 ⟨r1,G1,si1,le1,hi,rfl,q1⟩
  have hH1 : H1 a = some (.frz ob (.dK ps)) := si1.old a _ zan
  by_cases hlt : i < ds.length
  · have hd : ds.drop i = ds[i]::ds.drop (i + 1) := List.drop_eq_getElem_cons hlt
    rw [hd] at q1
    unfold forF at q1
    refine .inr ⟨⟨hH1,by omega⟩,fun σ' H' => ∃ r G,SI X (addG g a (.dic kvs) (.frz ob (.dK ps))) m r G σ' H'∧Gle G0 G∧oTo X g ro m mb G D (forF ft s1 (ds.drop (i + 1)) r),fun σ' H' ⟨r',G',si',le',q'⟩ => ⟨ds.length - (i + 1),by omega,r',G',si',le',hlt,rfl,q'⟩,fun x H' y => ?_⟩
    obtain ⟨rfl,kv,hk1,rfl⟩ := y
    have rv : RG X.K G1 (kV kv.1) ds[i] := zlW (RKs.mono rs0 le1) hk1 (by rw [hds]; exact List.getElem?_eq_getElem hlt)
    cases eft : ft ds[i] r1 with
    | none => simp only [eft] at q1; exact q1.elim
    | some r2 =>
      simp only [eft] at q1
      refine ⟨addG g a (.dic kvs) (.frz ob (.dK ps)),r1,G1,ds[i],si1,rv,r2,eft,fun σ2 si2 => ⟨addG g a (.dic kvs) (.frz ob (.dK ps)),r2,G1,si2,?_⟩⟩
      cases eb : s1 r2 with
      | nx r' => simp only [eb] at q1; exact fun σ3 G3 H3 le3 si3 => ⟨r',G3,si3,le1.trans le3,oTo.gle q1 le3⟩
      | ct r' => simp only [eb] at q1; exact fun σ3 G3 H3 le3 si3 => ⟨r',G3,si3,le1.trans le3,oTo.gle q1 le3⟩
      | bk r' => simp only [eb] at q1; exact fun σ3 G3 H3 le3 si3 => q1 σ3 G3 H3 le3 (si3.down had)
      | rt d =>
        simp only [eb] at q1
        intro v G2 H2 wr rv2
        refine q1 v G2 H2 (wr.down had) ?_
        cases ro with
        | false => exact rv2
        | true =>
          rcases rv2 with ⟨c,e1,e2,e3⟩ | z
          · refine .inl ⟨c,e1,?_,e3⟩
            have hca : c≠a := by
              rintro rfl
              have := wr.ge c _ zas
              rw [e3.un] at this; cases this
            have e2' : upd g.h0 a (.frz ob (.dK ps)) c = none := e2
            rw [zal hca] at e2'; exact e2'
          · exact .inr z
      | exc x r' => exact fun pins e s' σ3 G3 H3 le3 _ _ ex => (show False from ex).elim
      | stuck => simp only [eb] at q1; exact q1
  · have e : i = ds.length := by omega
    subst e
    rw [List.drop_length] at q1
    exact .inl ⟨⟨hH1,by omega⟩,q1 σ1 G1 H1 (Gle.refl _) (si1.down had)⟩
noncomputable def repD : D→D→Option D
  | .lst ds,.int k => if -(2 ^ 62)≤k∧k < 2 ^ 62∧ds.length * k.toNat≤sizeLine then some (.lst ((List.replicate k.toNat ds).flatten)) else none
  | _,_ => none
theorem zog {K : PySem.W.Frag} {G : GH} {xs : List V} {ds : List D} (r : RGs K G xs ds) : ∀ n : Nat,RGs K G (List.replicate n xs).flatten (List.replicate n ds).flatten
  | 0 => .nil
  | n + 1 => by
    rw [List.replicate_succ,List.replicate_succ,List.flatten_cons,List.flatten_cons]
    exact DL.Paired.app r (zog r n)
theorem zqw (ha : SO X g m a fa) (hb : SB X g m b fb) : SO X g m (.BinOp a .Mult b pos) (f2 fa fb repD) := by
  refine PE.imp (zoz zoH ha hb) fun σ H Q ⟨r,G,si,q⟩ => ⟨r,G,si,zaf (zae q) fun d1 q1 p1 G1 H1 w1 hn1 o1 => ⟨r,G1,si.grow w1,zaI (zae q1) w1 fun d2 q2 v2 G2 H2 w2 r2 => ?_⟩⟩
  obtain ⟨d,e,q3⟩ := zaC q2
  have o2 := o1.mono w2
  unfold repD at e
  split at e
  · split at e
    · rename_i ds k hk
      cases e
      cases o2.ob with
      | @lst xs _ hx rs =>
        have hl := Paired.length rs
        refine ⟨p1,k,xs,rfl,r2.int w2.ok,hx,by omega,by omega,by rw [hl]; exact hk.2.2,fun p hp => ?_⟩
        have w3 := Grow.new w2.ok hp (.lst (List.replicate k.toNat xs).flatten)
        refine q3 p G2 _ ((w1.trans w2).trans w3) ?_ ⟨w2.ok.isN hp,.lst zan (zog rs _)⟩
        cases e : H p with
        | none => rfl
        | some o => rw [(w1.trans w2).he _ _ e] at hp; cases hp
    · cases e
  · cases e
end
end DL
end
section
namespace DL
open PySem PySem.Spec PyProof.Rows L2
noncomputable def zbG (g : GE) (H : Hp) (fp : List Addr) (i : Nat) (p : Addr) : GE :=
  ⟨g.gh,fun b => if b∈fp then H b else g.h0 b,fun j => if j = i then some (some (V.ref p),none) else g.hd j⟩
theorem zhy {g : GE} {H H' : Hp} {fp : List Addr} {i : Nat} {p : Addr} (h : ∀ b∈fp,H' b = H b) : zbG g H' fp i p = zbG g H fp i p := by
  unfold zbG
  congr 1
  funext b
  by_cases hb : b∈fp
  · rw [if_pos hb,if_pos hb,h b hb]
  · rw [if_neg hb,if_neg hb]
noncomputable def RowR (K : PySem.W.Frag) (G : GH) (H : Hp) (b : Addr) (ds : List D) : Prop := ∃ xs,H b = some (.lst xs)∧RGs K G xs ds
structure LRw (K : PySem.W.Frag) (G : GH) (H : Hp) (p : Addr) (as : List Addr) (w : List (List D)) : Prop where
  out : H p = some (.lst (as.map V.ref))
  nd : (p::as).Nodup
  un : ∀ b∈p::as,G b = none
  rw : Paired (RowR K G H) as w
theorem RowR.mono {K : PySem.W.Frag} {G G' : GH} {H H' : Hp} {b : Addr} {ds : List D} (h : RowR K G H b ds) (ge : Gle G G') (he : H' b = H b) : RowR K G' H' b ds := by
  obtain ⟨xs,h1,h2⟩ := h
  exact ⟨xs,by rw [he]; exact h1,h2.mono ge⟩
theorem zeb {α β : Type} {F F' : α→β→Prop} {l : List α} {r : List β} (h : Paired F l r) (f : ∀ a∈l,∀ b,F a b→F' a b) : Paired F' l r := by
  induction h with
  | nil => exact .nil
  | cons h _ ih => exact .cons (f _ List.mem_cons_self _ h) (ih fun a ha => f a (List.mem_cons_of_mem _ ha))
theorem LRw.isS {K : PySem.W.Frag} {G : GH} {H : Hp} {p : Addr} {as : List Addr} {w : List (List D)} (h : LRw K G H p as w) {b : Addr} (hb : b∈p::as) : H b≠none := by
  rcases List.mem_cons.mp hb with rfl | hb
  · rw [h.out]; simp
  · have : ∀ {as : List Addr} {w : List (List D)},Paired (RowR K G H) as w→b∈as→H b≠none := fun {as w} q hb => by
      induction q with
      | nil => cases hb
      | cons r _ ih =>
        rcases List.mem_cons.mp hb with rfl | hb
        · obtain ⟨xs,e,_⟩ := r; rw [e]; simp
        · exact ih hb
    exact this h.rw hb
theorem LRw.mono {K : PySem.W.Frag} {G G' : GH} {H H' : Hp} {p : Addr} {as : List Addr} {w : List (List D)} (h : LRw K G H p as w) (ge : Gle G G') (he : ∀ b∈p::as,H' b = H b) (un : ∀ b∈p::as,G' b = none) : LRw K G' H' p as w :=
  ⟨by rw [he p List.mem_cons_self]; exact h.out,h.nd,un,zeb h.rw fun b hb ds r => r.mono ge (he b (List.mem_cons_of_mem _ hb))⟩
noncomputable def SI2 (X : Cx) (g : GE) (i : Nat) (m : List Md) (r : Rho) (w : List (List D)) (G : GH) (st : L2.St) (H : Hp) : Prop :=
  ∃ p as,LRw X.K G H p as w∧(∀ b∈p::as,g.h0 b = none)∧SI X (zbG g H (p::as) i p) m r G st H∧m[i]? = some .bw
section
variable {X : Cx} {g : GE} {i : Nat} {m m' m1 : List Md} {r r' : Rho} {w : List (List D)} {G G' : GH} {σ σ' : L2.St} {H H' : Hp}
theorem zcO {p : Addr} {as : List Addr} (R : LRw X.K G H p as w) (h0 : ∀ b∈p::as,g.h0 b = none) (si : SI X (zbG g H (p::as) i p) m r G σ H) (le : Gle G G') (si' : SI X (zbG g H (p::as) i p) m' r' G' σ' H') (hm : m'[i]? = some .bw) : SI2 X g i m' r' w G' σ' H' := by
  have he : ∀ b∈p::as,H' b = H b := fun b hb => by
    have hs := R.isS hb
    cases e : H b with
    | none => exact absurd e hs
    | some o =>
      have : (zbG g H (p::as) i p).h0 b = some o := by show (if b∈p::as then H b else g.h0 b) = _; rw [if_pos hb]; exact e
      rw [si'.old b o this]
  have un : ∀ b∈p::as,G' b = none := fun b hb => by
    have h : (zbG g H (p::as) i p).h0 b≠none := by show (if b∈p::as then H b else g.h0 b)≠_; rw [if_pos hb]; exact R.isS hb
    have e1 := si'.gf b h
    have e2 := si.gf b h
    rw [e1,← e2]; exact R.un b hb
  exact ⟨p,as,R.mono le he un,h0,by rw [zhy he]; exact si',hm⟩
noncomputable abbrev FS2 := Rho→List (List D)→Option (Rho × List (List D))
noncomputable def tS2 (X : Cx) (g : GE) (i : Nat) (m m' : List Md) (f : FS2) : TS := fun D σ H => ∃ r w G,SI2 X g i m r w G σ H∧∃ r' w',f r w = some (r',w')∧∀ σ' G' H',Gle G G'→SI2 X g i m' r' w' G' σ' H'→D.nx σ' H'
noncomputable def SS2 (X : Cx) (g : GE) (i : Nat) (m : List Md) (st : Stmt) (f : FS2) (m' : List Md) : Prop := PS X st (tS2 X g i m m' f)
noncomputable def SSs2 (X : Cx) (g : GE) (i : Nat) (m : List Md) (st : List Stmt) (f : FS2) (m' : List Md) : Prop := PSs X st (tS2 X g i m m' f)
variable {st : Stmt} {sts : List Stmt} {ro : Bool} {mb : List Md} {s1 : FS} {f1 f2 : FS2} {tg iter : Expr} {pos : Pos}
noncomputable def embF (f : FS) : FS2 := fun r w => match f r with
  | .nx r' => some (r',w)
  | _ => none
theorem zob (h : ∀ g',SS X g' ro mb m st s1 m') (hm : m'[i]? = some .bw) : SS2 X g i m st (embF s1) m' := by
  have hA : PS X st (fun D σ H => ∃ g',tS X g' ro m m' mb s1 D σ H) := fun pins s σ H D I ⟨g',q⟩ => (h g').2 pins s σ H D I q
  refine PS.imp hA fun D σ H ⟨r,w,G,⟨p,as,R,h0,si,_⟩,r',w',e,k⟩ => ⟨_,r,G,si,?_⟩
  unfold embF at e
  cases q : s1 r with
  | nx r1 =>
    rw [q] at e
    cases e
    exact fun σ' G' H' le si' => k σ' G' H' le (zcO R h0 si le si' hm)
  | _ => rw [q] at e; cases e
noncomputable def zcX (f1 f2 : FS2) : FS2 := fun r w => (f1 r w).bind fun p => f2 p.1 p.2
theorem zgC : SSs2 X g i m [] (fun r w => some (r,w)) m := PSs.imp ziU fun D σ H ⟨r,w,G,si,r',w',e,k⟩ => by
  cases e
  exact k σ G H (Gle.refl G) si
theorem zd7 (h1 : SS2 X g i m st f1 m1) (h2 : SSs2 X g i m1 sts f2 m') : SSs2 X g i m (st::sts) (zcX f1 f2) m' := by
  refine PSs.imp (zea h1 h2) fun D σ H ⟨r,w,G,si,r',w',e,k⟩ => ⟨r,w,G,si,?_⟩
  unfold zcX at e
  cases q : f1 r w with
  | none => rw [q] at e; cases e
  | some z =>
    rw [q] at e
    exact ⟨z.1,z.2,rfl,fun σ' G' H' le si' => ⟨z.1,z.2,G',si',r',w',e,fun σ2 G2 H2 le2 si2 => k σ2 G2 H2 (le.trans le2) si2⟩⟩
noncomputable def zgi (ft : FT) (body : FS2) : List D→FS2
  | [],r,w => some (r,w)
  | d::ds,r,w => (ft d r).bind fun r1 => (body r1 w).bind fun p => zgi ft body ds p.1 p.2
noncomputable def zgb (fi : FI) (ft : FT) (body : FS2) : FS2 := fun r w => match fi r with
  | .ok ds => zgi ft body ds r w
  | _ => none
theorem zoa (hp : PassesOwn (model X.prog X.w) X.A X.env X.xe) (hc : X.calm = true) {ft : FT} {fi : FI} (hi : ∀ g',SIt X g' m tg iter fi) (hg : ∀ g',SG X g' m tg ft m) (hb : SSs2 X g i m sts f1 m) (hm : m[i]? = some .bw)
    (hs : ∀ x,foldedSetIterable iter X.env x = pure x := by intro _; rfl) : SS2 X g i m (.For tg iter sts [] pos) (zgb fi ft f1) m := by
  have hiA : PI X tg iter (fun σ H R => ∃ g',tI X g' m fi σ H R) := fun pins s σ H R I ⟨g',q⟩ => hi g' pins s σ H R I q
  have hgA : PG X tg (fun v σ H Q => ∃ g',tG X g' m m ft v σ H Q) := fun pins s σ H v u Q I r ⟨g',q⟩ => (hg g').2 pins s σ H v u Q I r q
  refine PS.imp (zf4 hp hc hiA hgA hb hs) fun D σ H ⟨r,w,G,⟨p,as,R,h0,si,_⟩,r',w',e,k⟩ => ⟨_,r,G,si,?_⟩
  unfold zgb at e
  cases q : fi r with
  | exc x => rw [q] at e; cases e
  | stuck => rw [q] at e; cases e
  | ok ds =>
    rw [q] at e
    intro J G0 H0 w0 Y
    refine ⟨fun j n σ1 H1 => ∃ r1 w1 G1,SI2 X g i m r1 w1 G1 σ1 H1∧Gle G0 G1∧j≤ds.length∧n = ds.length - j∧zgi ft f1 (ds.drop j) r1 w1 = some (r',w'),⟨ds.length,r,w,G0,zcO R h0 si w0.ge (si.grow w0) hm,Gle.refl _,Nat.zero_le _,rfl,e⟩,?_⟩
    rintro j n σ1 H1 ⟨r1,w1,G1,S1,le1,hj,rfl,e1⟩
    have S1' := S1
    obtain ⟨p1,as1,R1,h01,si1,_⟩ := S1'
    by_cases hlt : j < ds.length
    · have hd : ds.drop j = ds[j]::ds.drop (j + 1) := List.drop_eq_getElem_cons hlt
      rw [hd] at e1
      unfold zgi at e1
      refine .inr ⟨Y.go G1 H1 j le1 si1.gok hlt,fun σ' H' => ∃ r2 w2 G2,SI2 X g i m r2 w2 G2 σ' H'∧Gle G0 G2∧zgi ft f1 (ds.drop (j + 1)) r2 w2 = some (r',w'),fun σ' H' ⟨r2,w2,G2,S2,le2,q2⟩ => ⟨ds.length - (j + 1),by omega,r2,w2,G2,S2,le2,hlt,rfl,q2⟩,fun x H' y => ?_⟩
      obtain ⟨G',wg,rv⟩ := Y.yld G1 H1 j x H' ds[j] le1 si1.gok y (List.getElem?_eq_getElem hlt)
      cases eft : ft ds[j] r1 with
      | none => rw [eft] at e1; cases e1
      | some r2 =>
        rw [eft] at e1
        simp only [Option.bind_some] at e1
        cases eb : f1 r2 w1 with
        | none => rw [eb] at e1; cases e1
        | some z =>
          rw [eb] at e1
          refine ⟨_,r1,G',ds[j],si1.grow wg,rv,r2,eft,fun σ2 si2 => ⟨r2,w1,G',zcO R1 h01 si1 wg.ge si2 hm,z.1,z.2,eb,fun σ3 G3 H3 le3 S3 => ⟨z.1,z.2,G3,S3,(le1.trans wg.ge).trans le3,e1⟩⟩⟩
    · have ej : j = ds.length := by omega
      subst ej
      rw [List.drop_length] at e1
      cases e1
      exact .inl ⟨Y.stop G1 H1 le1 si1.gok,k σ1 G1 H1 (Gle.trans w0.ge le1) S1⟩
theorem zna {K : PySem.W.Frag} {H : Hp} : ∀ {as : List Addr} {w : List (List D)} {G : GH},GOk K G H→Paired (RowR K G H) as w→as.Nodup→(∀ b∈as,G b = none)→∃ G',Gle G G'∧(∀ b,b∉as→G' b = G b)∧GOk K G' H∧Paired (fun b ds => G' b = some (.lst ds)) as w := by
  intro as
  induction as with
  | nil =>
    intro w G gk h _ _
    cases h
    exact ⟨G,Gle.refl G,fun _ _ => rfl,gk,.nil⟩
  | cons b as ih =>
    intro w G gk h nd un
    cases h with
    | @cons _ ds _ w r t =>
      rw [List.nodup_cons] at nd
      have hb := un b List.mem_cons_self
      obtain ⟨xs,e,rs⟩ := r
      have g1 : GOk K (gset G b (.lst ds)) H := gk.gset hb (.lst (.inl e) rs)
      obtain ⟨G',l,o,g,q⟩ := ih g1 (zeb t fun c hc ds r => r.mono (zbr hb) rfl) nd.2 fun c hc => by
        rw [za5 (by rintro rfl; exact nd.1 hc)]; exact un c (List.mem_cons_of_mem _ hc)
      refine ⟨G',Gle.trans (zbr hb) l,fun c hc => ?_,g,.cons (l _ _ zas) q⟩
      rw [o c fun z => hc (List.mem_cons_of_mem _ z),za5 (by rintro rfl; exact hc List.mem_cons_self)]
theorem SI2.frz (s : SI2 X g i m r w G σ H) (hb : ∀ j,j≠i→m[j]?≠some .bw) : ∃ G',Gle G G'∧SI X g (m.set i .sh) (r.set i (some (.lst (w.map D.lst)))) G' σ H := by
  obtain ⟨p,as,R,h0,si,hm⟩ := s
  have hlt : i < m.length := (List.getElem?_eq_some_iff.mp hm).1
  have nd := List.nodup_cons.mp R.nd
  obtain ⟨G1,l1,o1,g1,q1⟩ := zna si.gok R.rw nd.2 fun b hb => R.un b (List.mem_cons_of_mem _ hb)
  have hp1 : G1 p = none := by rw [o1 p nd.1]; exact R.un p List.mem_cons_self
  have rs : RGs X.K G1 (as.map V.ref) (w.map D.lst) := by
    have : ∀ {as : List Addr} {w : List (List D)},Paired (fun b ds => G1 b = some (.lst ds)) as w→RGs X.K G1 (as.map V.ref) (w.map D.lst) := fun {as w} q => by
      induction q with
      | nil => exact .nil
      | cons h _ ih => exact .cons (.ref h) ih
    exact this q1
  have g2 : GOk X.K (gset G1 p (.lst (w.map D.lst))) H := g1.gset hp1 (.lst (.inl R.out) rs)
  have le : Gle G (gset G1 p (.lst (w.map D.lst))) := Gle.trans l1 (zbr hp1)
  have out : ∀ b,b∉p::as→gset G1 p (.lst (w.map D.lst)) b = G b := fun b hb => by
    rw [za5 (by rintro rfl; exact hb List.mem_cons_self),o1 b fun z => hb (List.mem_cons_of_mem _ z)]
  have hst : σ[i]? = some (some (V.ref p)) := (si.lk i (some (V.ref p),none) (by show (if i = i then _ else _) = _; rw [if_pos rfl]) hm).1
  have h0' : ∀ b,b∉p::as→(zbG g H (p::as) i p).h0 b = g.h0 b := fun b hb => by show (if b∈p::as then H b else g.h0 b) = _; rw [if_neg hb]
  have h0i : ∀ b,b∈p::as→(zbG g H (p::as) i p).h0 b≠none := fun b hb => by show (if b∈p::as then H b else g.h0 b)≠_; rw [if_pos hb]; exact R.isS hb
  have nin : ∀ b,g.h0 b≠none→b∉p::as := fun b h z => h (h0 b z)
  have mne : ∀ {j x},i≠j→(m.set i .sh)[j]? = some x→m[j]? = some x := fun hij h => by rw [List.getElem?_set_ne hij] at h; exact h
  refine ⟨_,le,g2,fun a o e => ?_,fun a d e => le a d (si.ge a d e),fun a h => ?_,by simpa using si.lm,by simpa using si.lr,fun j d h1 h2 => ?_,fun j d h1 h2 => ?_,fun j d h1 h2 => ?_,fun j k a d e hjk h1 h2 m1 m2 z1 z2 => ?_,fun j o hj hm' => ?_⟩
  · exact si.old a o (by rw [h0' a (nin a (by rw [e]; simp))]; exact e)
  · have hn := nin a h
    rw [out a hn]
    exact si.gf a (by rw [h0' a hn]; exact h)
  · by_cases hij : i = j
    · subst hij
      rw [List.getElem?_set_self (by rw [si.lr,← si.lm]; exact hlt)] at h1
      cases h1
      exact ⟨_,hst,.ref zas⟩
    · rw [List.getElem?_set_ne hij] at h1
      obtain ⟨v,y1,y2⟩ := si.sh j d h1 (mne hij h2)
      exact ⟨v,y1,y2.mono le⟩
  · by_cases hij : i = j
    · subst hij; rw [List.getElem?_set_self hlt] at h2; cases h2
    · rw [List.getElem?_set_ne hij] at h1
      obtain ⟨a,y1,y2,y3⟩ := si.ow j d h1 (mne hij h2)
      have hn : a∉p::as := fun z => h0i a z y3
      exact ⟨a,y1,⟨by rw [out a hn]; exact y2.un,y2.ob.mono le fun _ z => z⟩,by rw [← h0' a hn]; exact y3⟩
  · by_cases hij : i = j
    · subst hij; rw [List.getElem?_set_self hlt] at h2; cases h2
    · exact absurd (mne hij h2) (hb j (Ne.symm hij))
  · have hij : i≠j := by rintro rfl; rw [List.getElem?_set_self hlt] at m1; cases m1
    have hik : i≠k := by rintro rfl; rw [List.getElem?_set_self hlt] at m2; cases m2
    rw [List.getElem?_set_ne hij] at h1
    rw [List.getElem?_set_ne hik] at h2
    exact si.dis j k a d e hjk h1 h2 (mne hij m1) (mne hik m2) z1 z2
  · by_cases hij : i = j
    · subst hij; rw [List.getElem?_set_self hlt] at hm'; cases hm'
    · exact absurd (mne hij hm') (hb j (Ne.symm hij))
theorem SI.new2 (s : SI X g m r G σ H) (wg : Grow X.K G H G' H') (hlt : i < m.length) {p : Addr} {as : List Addr} (R : LRw X.K G' H' p as w) (hn : ∀ b∈p::as,H b = none) : SI2 X g i (m.set i .bw) (r.set i none) w G' (σ.set i (some (V.ref p))) H' := by
  have s' := s.grow wg
  have hg0 : ∀ b∈p::as,g.h0 b = none := fun b hb => s.new (hn b hb)
  have h0' : ∀ b,b∉p::as→(zbG g H' (p::as) i p).h0 b = g.h0 b := fun b hb => by show (if b∈p::as then H' b else g.h0 b) = _; rw [if_neg hb]
  have h0i : ∀ b,b∈p::as→(zbG g H' (p::as) i p).h0 b = H' b := fun b hb => by show (if b∈p::as then H' b else g.h0 b) = _; rw [if_pos hb]
  have mne : ∀ {j x},i≠j→(m.set i .bw)[j]? = some x→m[j]? = some x := fun hij h => by rw [List.getElem?_set_ne hij] at h; exact h
  have rne : ∀ {j d},(r.set i none)[j]? = some (some d)→i≠j∧r[j]? = some (some d) := fun {j d} h => by
    by_cases hij : i = j
    · subst hij
      rw [List.getElem?_set_self (by rw [s.lr,← s.lm]; exact hlt)] at h; cases h
    · rw [List.getElem?_set_ne hij] at h; exact ⟨hij,h⟩
  refine ⟨p,as,R,hg0,⟨wg.ok,fun a o e => ?_,s'.ge,fun a h => ?_,by simpa using s.lm,by simpa using s.lr,fun j d h1 h2 => ?_,fun j d h1 h2 => ?_,fun j d h1 h2 => ?_,fun j k a d e hjk h1 h2 m1 m2 z1 z2 => ?_,fun j o hj hm' => ?_⟩,by rw [List.getElem?_set_self hlt]⟩
  · by_cases ha : a∈p::as
    · rw [h0i a ha] at e; exact e
    · rw [h0' a ha] at e; exact s'.old a o e
  · by_cases ha : a∈p::as
    · rw [R.un a ha]
      show none = g.gh a
      cases e : g.gh a with
      | none => rfl
      | some d => exact absurd (hn a ha) (s.gok a d (s.ge a d e)).isS
    · rw [h0' a ha] at h; exact s'.gf a h
  · obtain ⟨hij,h1⟩ := rne h1
    rw [List.getElem?_set_ne hij]
    exact s'.sh j d h1 (mne hij h2)
  · obtain ⟨hij,h1⟩ := rne h1
    rw [List.getElem?_set_ne hij]
    obtain ⟨a,y1,y2,y3⟩ := s.ow j d h1 (mne hij h2)
    have ha : a∉p::as := fun z => y2.ob.isS (hn a z)
    exact ⟨a,y1,y2.mono wg,by rw [h0' a ha]; exact y3⟩
  · obtain ⟨hij,h1⟩ := rne h1
    rw [List.getElem?_set_ne hij]
    obtain ⟨v,y1,y2⟩ := s'.bw j d h1 (mne hij h2)
    refine ⟨v,y1,?_⟩
    rcases y2 with y2 | ⟨a,ea,y2,y3⟩
    · exact .inl y2
    · refine .inr ⟨a,ea,y2,?_⟩
      by_cases ha : a∈p::as
      · rw [h0i a ha]; exact R.isS ha
      · rw [h0' a ha]; exact y3
  · obtain ⟨hij,h1⟩ := rne h1
    obtain ⟨hik,h2⟩ := rne h2
    rw [List.getElem?_set_ne hij] at z1
    rw [List.getElem?_set_ne hik] at z2
    exact s.dis j k a d e hjk h1 h2 (mne hij m1) (mne hik m2) z1 z2
  · by_cases hij : i = j
    · subst hij
      have hj' : (if i = i then some (some (V.ref p),none) else g.hd i) = some o := hj
      rw [if_pos rfl] at hj'
      cases hj'
      exact ⟨by rw [List.getElem?_set_self (by rw [← s.lm]; exact hlt)],fun d h => absurd rfl (rne h).1⟩
    · have hj' : (if j = i then some (some (V.ref p),none) else g.hd j) = some o := hj
      rw [if_neg (Ne.symm hij)] at hj'
      have := s.lk j o hj' (mne hij hm')
      exact ⟨by rw [List.getElem?_set_ne hij]; exact this.1,fun d h => this.2 d (by rw [List.getElem?_set_ne hij] at h; exact h)⟩
noncomputable def SSM (X : Cx) (g : GE) (ro : Bool) (mb : List Md) (i : Nat) (m : List Md) (sts : List Stmt) (F : Rho→List (List D)→Out) (m' : List Md) : Prop :=
  m'.length = m.length∧PSs X sts (fun D σ H => ∃ r w G,SI2 X g i m r w G σ H∧oTo X g ro m' mb G D (F r w))
noncomputable def zpF (i : Nat) (s : FS) : Rho→List (List D)→Out := fun r w => s (r.set i (some (.lst (w.map D.lst))))
theorem zmi (h : SSs X g ro mb (m.set i .sh) sts s1 m') (hb : ∀ j,j≠i→m[j]?≠some .bw) : SSM X g ro mb i m sts (zpF i s1) m' :=
  ⟨by simpa using h.1,PSs.imp h.2 fun D σ H ⟨r,w,G,s,q⟩ => by
    obtain ⟨G',le,si⟩ := s.frz hb
    exact ⟨_,G',si,oTo.gle q le⟩⟩
noncomputable def zkc (f1 : FS2) (F : Rho→List (List D)→Out) : Rho→List (List D)→Out := fun r w => match f1 r w with
  | some p => F p.1 p.2
  | none => .stuck
theorem zkr {F : Rho→List (List D)→Out} (hl : m1.length = m.length) (h1 : SS2 X g i m st f1 m1) (h2 : SSM X g ro mb i m1 sts F m') : SSM X g ro mb i m (st::sts) (zkc f1 F) m' := by
  refine ⟨h2.1.trans hl,PSs.imp (zea h1 h2.2) fun D σ H ⟨r,w,G,si,q⟩ => ⟨r,w,G,si,?_⟩⟩
  unfold zkc at q
  cases e : f1 r w with
  | none => rw [e] at q; exact q.elim
  | some z =>
    rw [e] at q
    exact ⟨z.1,z.2,rfl,fun σ' G' H' le si' => ⟨z.1,z.2,G',si',oTo.gle q le⟩⟩
noncomputable def tNew (X : Cx) (g : GE) (i : Nat) (m m1 : List Md) (f : Rho→Option (Rho × List (List D))) : TS := fun D σ H => ∃ r G,SI X g m r G σ H∧∃ r' w',f r = some (r',w')∧∀ σ' G' H',Gle G G'→SI2 X g i m1 r' w' G' σ' H'→D.nx σ' H'
noncomputable def zkU (f : Rho→Option (Rho × List (List D))) (F : Rho→List (List D)→Out) : FS := fun r => match f r with
  | some p => F p.1 p.2
  | none => .stuck
theorem znO {F : Rho→List (List D)→Out} {f : Rho→Option (Rho × List (List D))} (hl : m1.length = m.length) (h1 : PS X st (tNew X g i m m1 f)) (h2 : SSM X g ro mb i m1 sts F m') : SSs X g ro mb m (st::sts) (zkU f F) m' := by
  refine ⟨h2.1.trans hl,PSs.imp (zea h1 h2.2) fun D σ H ⟨r,G,si,q⟩ => ⟨r,G,si,?_⟩⟩
  unfold zkU at q
  cases e : f r with
  | none => rw [e] at q; exact q.elim
  | some z =>
    rw [e] at q
    exact ⟨z.1,z.2,rfl,fun σ' G' H' le si' => ⟨z.1,z.2,G',si',oTo.gle q le⟩⟩
end
end DL
end
section
namespace DL
open PySem PySem.Spec PyProof.Rows L2
noncomputable def RO (K : PySem.W.Frag) (H2 : Hp) (p : Addr) (G : GH) (H : Hp) (ws : List V) (ds : List D) : Prop := Paired (fun v d => ∃ b,v = V.ref b∧H2 b = none∧b≠p∧Own K G H b d) ws ds∧ws.Nodup
section
variable {K : PySem.W.Frag} {H2 : Hp} {p : Addr} {G G' : GH} {H H' : Hp} {ws : List V} {ds : List D}
theorem RO.upd {o : HO} (h : RO K H2 p G H ws ds) : RO K H2 p G (L2.upd H p o) ws ds :=
  ⟨Paired.mono (fun v d ⟨b,e,h1,h2,h3⟩ => ⟨b,e,h1,h2,h3.un,h3.ob.mono (fun _ _ z => z) fun _ z => by rw [zal h2]; exact z⟩) h.1,h.2⟩
end
section
variable {X : Cx} {pins : List (Addr × Obj)} {σ : L2.St} {H2 : Hp} {s2 : Shared} {scope : Scope} {N' : List Str} {nl : Nat} {cap : List Nat} {cl : List (Str × Addr)} {fp : List Addr} {g : GE} {G2 : GH} {m : List Md} {r : Rho} {elt tg iter : Expr} {ifs : List Expr} {pos : Pos}
end
end DL
end
section
namespace DL
open PySem PySem.Spec PyProof.Rows L2
section
variable {X : Cx} {g : GE} {m mb : List Md} {scope : Scope} {N' : List Str} {nl : Nat} {cap : List Nat} {elt tg iter : Expr} {ifs : List Expr} {pos pos' spos : Pos} {fi : FI} {ft : FT} {q : FQ} {fe : FE} {ro : Bool}
end
end DL
end
section
namespace DL
open PySem PySem.Spec PyProof.Rows L2
theorem zkN {α β : Type} {F F' : α→β→Prop} {l : List α} {w : List β} (h : Paired F l w) {j : Nat} {a : α} {y : β} (nd : l.Nodup) (ha : l[j]? = some a) (hy : F' a y) (ho : ∀ b x,b≠a→F b x→F' b x) : Paired F' l (w.set j y) := by
  induction h generalizing j with
  | nil => cases ha
  | @cons b x l w r t ih =>
    rw [List.nodup_cons] at nd
    cases j with
    | zero =>
      cases ha
      exact .cons hy (zeb t fun c hc x q => ho c x (by rintro rfl; exact nd.1 hc) q)
    | succ j =>
      have ha' : l[j]? = some a := by simpa using ha
      refine .cons (ho b x ?_ r) (ih nd.2 ha')
      rintro rfl
      exact nd.1 (List.mem_of_getElem? ha')
theorem zmW {m : List Md} {i : Nat} (h : ((List.range m.length).all fun j => j == i || decide (m[j]?≠some Md.bw)) = true) : ∀ j,j≠i→m[j]?≠some .bw := fun j hj e => by
  have hlt : j < m.length := (List.getElem?_eq_some_iff.mp e).1
  have := List.all_eq_true.mp h j (List.mem_range.mpr hlt)
  rw [Bool.or_eq_true,beq_iff_eq,decide_eq_true_iff] at this
  exact this.elim hj fun z => z e
section
variable {X : Cx} {g : GE} {i : Nat} {m m' m1 : List Md} {r r' : Rho} {w : List (List D)} {G G' : GH} {σ σ' : L2.St} {H H' : Hp}
theorem SI.row {p : Addr} {as : List Addr} (R : LRw X.K G H p as w) (si : SI X (zbG g H (p::as) i p) m r G σ H) (hm : m[i]? = some .bw) (hb : ∀ j,j≠i→m[j]?≠some .bw) {b : Addr} (hbm : b∈p::as) (o : HO) : SI X (zbG g (upd H b o) (p::as) i p) m r G σ (upd H b o) := by
  have un := R.un b hbm
  have h0' : ∀ c,c∉p::as→(zbG g H (p::as) i p).h0 c = g.h0 c := fun c hc => by show (if c∈p::as then H c else g.h0 c) = _; rw [if_neg hc]
  have h0i : ∀ c,c∈p::as→(zbG g H (p::as) i p).h0 c = H c := fun c hc => by show (if c∈p::as then H c else g.h0 c) = _; rw [if_pos hc]
  have k0' : ∀ c,c∉p::as→(zbG g (upd H b o) (p::as) i p).h0 c = g.h0 c := fun c hc => by show (if c∈p::as then _ else g.h0 c) = _; rw [if_neg hc]
  have k0i : ∀ c,c∈p::as→(zbG g (upd H b o) (p::as) i p).h0 c = upd H b o c := fun c hc => by show (if c∈p::as then upd H b o c else g.h0 c) = _; rw [if_pos hc]
  refine ⟨fun c d e => ?_,fun c u e => ?_,si.ge,fun c h => ?_,si.lm,si.lr,si.sh,fun j d h1 h2 => ?_,fun j d h1 h2 => ?_,si.dis,si.lk⟩
  · have hc : c≠b := by rintro rfl; rw [un] at e; cases e
    exact (si.gok c d e).mono (fun _ _ z => z) fun u z => by rw [zal hc]; exact z
  · by_cases hc : c∈p::as
    · rw [k0i c hc] at e; exact e
    · rw [k0' c hc] at e
      have hcb : c≠b := by rintro rfl; exact hc hbm
      rw [zal hcb]
      exact si.old c u (by rw [h0' c hc]; exact e)
  · by_cases hc : c∈p::as
    · exact si.gf c (by rw [h0i c hc]; exact R.isS hc)
    · rw [k0' c hc] at h
      exact si.gf c (by rw [h0' c hc]; exact h)
  · obtain ⟨a,q1,q2,q3⟩ := si.ow j d h1 h2
    have ha : a∉p::as := fun z => by rw [h0i a z] at q3; exact R.isS z q3
    have hab : a≠b := by rintro rfl; exact ha hbm
    rw [h0' a ha] at q3
    exact ⟨a,q1,⟨q2.un,q2.ob.mono (fun _ _ z => z) fun u z => by rw [zal hab]; exact z⟩,by rw [k0' a ha]; exact q3⟩
  · by_cases hj : j = i
    · subst hj
      have := (si.lk j (some (V.ref p),none) (by show (if j = j then _ else _) = _; rw [if_pos rfl]) hm).2 d h1
      cases this
    · exact absurd h2 (hb j hj)
variable {ro : Bool} {mb : List Md} {pos p1 p2 p3 p4 p5 p6 p7 p8 p9 p10 p11 : Pos} {x xa xb : Str} {jc : Nat}
end
end DL
end
section
namespace DL
open PySem PySem.Spec PyProof.Rows L2
noncomputable def lessA (H : Hp) (a : Addr) : Hp := fun b => if b = a then none else H b
theorem zkX {H : Hp} {a b : Addr} (h : b≠a) : lessA H a b = H b := if_neg h
theorem Grow.lessA {K : PySem.W.Frag} {G G' G2 : GH} {H H' H2 : Hp} {a : Addr} (w : Grow K G H G' H') (ha : H a = none) (w2 : Grow K G' (lessA H' a) G2 H2) : Grow K G H G2 H2 := by
  have ne : ∀ b,H b≠none→b≠a := fun b h => by rintro rfl; exact h ha
  have he : ∀ b o,H b = some o→DL.lessA H' a b = some o := fun b o e => by rw [zkX (ne b (by rw [e]; simp))]; exact w.he b o e
  refine ⟨w2.ok,fun b o e => w2.he b o (he b o e),fun b d e => w2.ge b d (w.ge b d e),fun b h => ?_⟩
  rw [w2.gf b ?_,w.gf b h]
  cases e : H b with
  | none => exact absurd e h
  | some o => rw [he b o e]; simp
noncomputable def spV (K : PySem.W.Frag) (ro : Bool) (ms : List Md) (F : List D→Res D) : Sp := fun vs H Q _ => ∃ G us a ds d,GOk K G H∧vs = us++[V.ref a]∧ArgsOk K G H ms us ds∧Own K G H a d ∧
  fin (F (ds++[d])) (fun d' => ∀ v G' H',Grow K G (lessA H a) G' H'→RV ro K (lessA H a) G' H' v d'→Q v H') fun _ => False
section
variable {K : PySem.W.Frag} {G : GH} {H : Hp}
end
section
variable {P : Program} {w : World} {K : PySem.W.Frag} {mg : Str → Option Value} {base : Heap}
structure CalleeV (P : Program) (w : World) (K : PySem.W.Frag) (mg : Str→Option Value) (base : Heap) (x : Str) (ps : List Str) (k : Nat) (ro : Bool) (ms : List Md) (F : List D→Res D) : Prop where
  ex : ∃ f fd,mg x = some (.ref f)∧PySem.W.keepIn K (.ref f) = true∧zfK K fd ps []∧FnOk P w K mg base CX0 k f fd ps (spV K ro ms F)
end
section
variable {X : Cx} {g : GE} {m ms : List Md} {e : Expr} {es : List Expr} {f : FE} {fl : Rho → Res (List D × D)} {x : Str} {ps : List Str} {k : Nat} {F : List D → Res D} {p pos : Pos}
end
end DL
end
section
namespace DL
open PySem PySem.Spec PyProof.Rows L2
theorem LRw.grow {K : PySem.W.Frag} {G G' : GH} {H H' : Hp} {p : Addr} {as : List Addr} {w : List (List D)} (R : LRw K G H p as w) (wg : Grow K G H G' H') : LRw K G' H' p as w := by
  refine R.mono wg.ge (fun b hb => ?_) fun b hb => by rw [wg.gf b (R.isS hb)]; exact R.un b hb
  cases e : H b with
  | none => exact absurd e (R.isS hb)
  | some o => rw [wg.he b o e]
section
variable {X : Cx} {g : GE} {i : Nat} {m m' m1 : List Md} {r r' : Rho} {w : List (List D)} {G G' : GH} {σ σ' : L2.St} {H H' : Hp} {st : Stmt} {sts sts' : List Stmt} {f1 f2 : FS2} {c e ie : Expr} {es : List Expr} {q : FQ} {f fi : FE} {fl : Rho → Res (List D)} {pos p1 p2 p3 apos cpos spos : Pos} {x y : Str}
noncomputable def if2 (q : FQ) (f1 f2 : FS2) : FS2 := fun r w => match q r with
  | .ok true => f1 r w
  | .ok false => f2 r w
  | _ => none
theorem zqk (hc : ∀ g',SQ X g' m c q) (h1 : SSs2 X g i m sts f1 m') (h2 : SSs2 X g i m sts' f2 m') : SS2 X g i m (.If c sts sts' pos) (if2 q f1 f2) m' := by
  have hcA : PT X c (fun σ H Q => ∃ g',tQ X g' m q σ H Q) := fun pins s σ H Q I ⟨g',k⟩ => hc g' pins s σ H Q I k
  refine PS.imp (zou hcA h1 h2) fun D σ H ⟨r,w,G,⟨p,as,R,h0,si,hm⟩,r',w',e,k⟩ => ⟨_,r,G,si,?_⟩
  unfold if2 at e
  cases z : q r with
  | exc x => rw [z] at e; cases e
  | stuck => rw [z] at e; cases e
  | ok b =>
    rw [z] at e
    intro G1 H1 w1
    have S1 := zcO R h0 si w1.ge (si.grow w1) hm
    cases b with
    | true => rw [if_pos rfl]; exact ⟨r,w,G1,S1,r',w',e,fun σ' G' H' le s => k σ' G' H' (Gle.trans w1.ge le) s⟩
    | false => rw [if_neg Bool.false_ne_true]; exact ⟨r,w,G1,S1,r',w',e,fun σ' G' H' le s => k σ' G' H' (Gle.trans w1.ge le) s⟩
noncomputable def newR (i : Nat) (f : FE) : Rho→Option (Rho × List (List D)) := fun r => match f r with
  | .ok (.lst ds) => some (r.set i none,[ds])
  | _ => none
theorem znZ (i : Nat) (hlt : i < m.length) (hN : X.N.Nodup) (hi : X.N[i]? = some x) (hx : Loc X.env.scope x) (he : SO X g m (.List es p1) f) (hs : swapsWith (.List [.List es p1] p2) (some (.Name x p3)) pos.line X.env = pure false := by rfl)
    (hf : X.fn x = true∨X.env.scope.names.lookup x = some .local := by first | exact .inl rfl | exact .inr rfl | assumption) (hst : starEach [.List es p1] X.env = (false,eval (.List es p1) X.env)::starEach [] X.env := by rfl) :
    PS X (.Assign [.Name x p3] (.List [.List es p1] p2) pos) (tNew X g i m (m.set i .bw) (newR i f)) := by
  refine PS.imp (ziV hN hi hx (zlF (zbR he zdT hst)) hs hf) fun D0 σ H ⟨r,G,si,r',w',e,k⟩ => ⟨r,G,si,?_⟩
  unfold newR at e
  cases z : f r with
  | exc x => rw [z] at e; cases e
  | stuck => rw [z] at e; cases e
  | ok d =>
    rw [z] at e
    cases d with
    | lst ds =>
      cases e
      intro a G1 H1 w1 hn ho
      refine ⟨by rw [sizeLine_eq]; simp,fun p hp => ?_⟩
      have hpa : p≠a := by rintro rfl; exact ho.ob.isS hp
      have w2 := Grow.new w1.ok hp (.lst [V.ref a])
      refine k _ G1 _ (w1.trans w2).ge (si.new2 (w1.trans w2) hlt (p := p) (as := [a]) ⟨zan,by simp [hpa],fun b hb => ?_,.cons ?_ .nil⟩ fun b hb => ?_)
      · rcases List.mem_cons.mp hb with rfl | hb
        · exact w1.ok.isN hp
        · rw [List.mem_singleton.mp hb]; exact ho.un
      · cases ho.ob with
        | lst e1 rs => exact ⟨_,by rw [zal (Ne.symm hpa)]; exact e1,rs⟩
      · rcases List.mem_cons.mp hb with rfl | hb
        · exact w1.back hp
        · rw [List.mem_singleton.mp hb]; exact hn
    | _ => cases e
theorem SI.addRow {p a : Addr} {as : List Addr} {ds : List D} (si : SI X (zbG g H (p::as) i p) m r G σ H) (R : LRw X.K G H p as w) (h0 : ∀ b∈p::as,g.h0 b = none) (hm : m[i]? = some .bw) (hb : ∀ j,j≠i→m[j]?≠some .bw) (wg : Grow X.K G H G' H') (hn : H a = none) (ho : Own X.K G' H' a (.lst ds)) :
    SI2 X g i m r (w++[ds]) G' σ (upd H' p (.lst (as.map V.ref++[V.ref a]))) := by
  have R1 := R.grow wg
  have hap : a∉p::as := fun z => R.isS z hn
  have hap' : a≠p := fun z => hap (by rw [z]; exact List.mem_cons_self)
  have nd := List.nodup_cons.mp R.nd
  have hga : g.h0 a = none := by
    have := si.new hn
    have e : (if a∈p::as then H a else g.h0 a) = none := this
    rw [if_neg hap] at e; exact e
  have sub : ∀ b,b∈p::(as++[a])↔b∈p::as∨b = a := fun b => by simp [or_assoc]
  have h0' : ∀ c,c∉p::as→(zbG g H (p::as) i p).h0 c = g.h0 c := fun c hc => by show (if c∈p::as then H c else g.h0 c) = _; rw [if_neg hc]
  have h0i : ∀ c,c∈p::as→(zbG g H (p::as) i p).h0 c = H c := fun c hc => by show (if c∈p::as then H c else g.h0 c) = _; rw [if_pos hc]
  generalize hH : upd H' p (.lst (as.map V.ref++[V.ref a])) = H2
  have e2 : ∀ b,b≠p→H2 b = H' b := fun b hb => by rw [← hH,zal hb]
  have e2p : H2 p = some (.lst ((as++[a]).map V.ref)) := by rw [← hH,zan]; simp
  have k0' : ∀ c,c∉p::(as++[a])→(zbG g H2 (p::(as++[a])) i p).h0 c = g.h0 c := fun c hc => by show (if c∈p::(as++[a]) then _ else g.h0 c) = _; rw [if_neg hc]
  have k0i : ∀ c,c∈p::(as++[a])→(zbG g H2 (p::(as++[a])) i p).h0 c = H2 c := fun c hc => by show (if c∈p::(as++[a]) then H2 c else g.h0 c) = _; rw [if_pos hc]
  have unp : G' p = none := R1.un p List.mem_cons_self
  have s1 := si.grow wg
  refine ⟨p,as++[a],⟨e2p,?_,fun b hb' => ?_,?_⟩,fun b hb' => ?_,⟨fun c d e => ?_,fun c u e => ?_,s1.ge,fun c h => ?_,s1.lm,s1.lr,s1.sh,fun j d h1 h2 => ?_,fun j d h1 h2 => ?_,s1.dis,s1.lk⟩,hm⟩
  · rw [List.nodup_cons,List.nodup_append]
    refine ⟨fun z => (List.mem_append.mp z).elim nd.1 fun z => hap' (List.mem_singleton.mp z).symm,nd.2,by simp,?_⟩
    intro x hx y hy e
    rw [List.mem_singleton.mp hy] at e
    subst e
    exact hap (List.mem_cons_of_mem _ hx)
  · rcases (sub b).mp hb' with z | rfl
    · exact R1.un b z
    · exact ho.un
  · refine Paired.snoc (zeb R1.rw fun b hb' ds' q => q.mono (Gle.refl _) (e2 b (by rintro rfl; exact nd.1 hb'))) ?_
    cases ho.ob with
    | lst e1 rs => exact ⟨_,by rw [e2 a hap']; exact e1,rs⟩
  · rcases (sub b).mp hb' with z | rfl
    · exact h0 b z
    · exact hga
  · have hc : c≠p := by rintro rfl; rw [unp] at e; cases e
    exact (s1.gok c d e).mono (fun _ _ z => z) fun u z => by rw [e2 c hc]; exact z
  · by_cases hc : c∈p::(as++[a])
    · rw [k0i c hc] at e; exact e
    · rw [k0' c hc] at e
      have hc1 : c∉p::as := fun z => hc ((sub c).mpr (.inl z))
      have hcp : c≠p := by rintro rfl; exact hc1 List.mem_cons_self
      rw [e2 c hcp]
      exact s1.old c u (by rw [h0' c hc1]; exact e)
  · by_cases hc : c∈p::as
    · exact s1.gf c (by rw [h0i c hc]; exact R.isS hc)
    · by_cases hca : c = a
      · subst hca
        rw [ho.un]
        show none = g.gh c
        cases z : g.gh c with
        | none => rfl
        | some d => exact absurd hn (si.gok c d (si.ge c d z)).isS
      · rw [k0' c fun z => ((sub c).mp z).elim hc hca] at h
        exact s1.gf c (by rw [h0' c hc]; exact h)
  · obtain ⟨b,q1,q2,q3⟩ := si.ow j d h1 h2
    have hbf : b∉p::as := fun z => by rw [h0i b z] at q3; exact R.isS z q3
    have hba : b≠a := by rintro rfl; exact q2.ob.isS hn
    have hbp : b≠p := by rintro rfl; exact hbf List.mem_cons_self
    rw [h0' b hbf] at q3
    have q2' := q2.mono wg
    exact ⟨b,q1,⟨q2'.un,q2'.ob.mono (fun _ _ z => z) fun u z => by rw [e2 b hbp]; exact z⟩,by rw [k0' b fun z => ((sub b).mp z).elim hbf hba]; exact q3⟩
  · by_cases hj : j = i
    · subst hj
      have := (si.lk j (some (V.ref p),none) (by show (if j = j then _ else _) = _; rw [if_pos rfl]) hm).2 d h1
      cases this
    · exact absurd h2 (hb j hj)
noncomputable def appR (f : FE) : FS2 := fun r w => match f r with
  | .ok (.lst ds) => if w.length < sizeLine then some (r,w++[ds]) else none
  | _ => none
theorem zmq (hm : m[i]? = some .bw) (hb : ∀ j,j≠i→m[j]?≠some .bw) (hN : X.N[i]? = some x) (hv : Vis X.env.scope x) (he : ∀ g',SO X g' m (.List es p1) f)
    (hd : (x == ("__debug__" : Str)) = false := by decide) (hcd : (x == ("__classdict__" : Str)) = false := by decide)
    (hbase : attributeBase (.Name x p2) "append" X.env (eval (.Name x p2) X.env) = eval (.Name x p2) X.env := by rfl)
    (hfew : ((backTo cpos (starEach [.List es p1] X.env)).all (fun x => ! x.1) && (backToKw cpos (keywordEach [] X.env)).all (fun x => x.1.isSome) && decide (([.List es p1] : List Expr).length + ([] : List Keyword).length + (if ([] : List Keyword).isEmpty then 0 else 1) < 30)) = true := by rfl)
    (hline : (apos.endLine == cpos.line) = true := by rfl) (hst : starEach [.List es p1] X.env = (false,eval (.List es p1) X.env)::starEach [] X.env := by rfl) (hplain : (backTo cpos (starEach [] X.env)).any (·.1) = false := by rfl) :
    SS2 X g i m (.Expr (.Call (.Attribute (.Name x p2) "append" apos) [.List es p1] [] cpos) pos) (appR f) m := by
  have heA : PE X (.List es p1) (fun σ H Q => ∃ g',tO X g' m f σ H Q) := fun pins s σ H Q I ⟨g',k⟩ => he g' pins s σ H Q I k
  refine PS.imp (zfn (zkM PySem.F.plainAttrs_list PySem.F.slot_list_append PySem.F.type_list_append zbA (zdS hN hv hd hcd) (zbR heA zdT hst) hbase hfew hline hst hplain)) fun D0 σ H ⟨r,w,G,⟨p,as,R,h0,si,_⟩,r',w',e,k⟩ => ?_
  have hst : σ[i]? = some (some (V.ref p)) := (si.lk i (some (V.ref p),none) (by show (if i = i then _ else _) = _; rw [if_pos rfl]) hm).1
  refine ⟨_,hst,.inl ⟨rfl,_,SqL.of R.out⟩,_,r,G,si,?_⟩
  unfold appR at e
  cases z : f r with
  | exc x => rw [z] at e; cases e
  | stuck => rw [z] at e; cases e
  | ok d =>
    rw [z] at e
    cases d with
    | lst ds =>
      by_cases hl : w.length < sizeLine
      · simp only [if_pos hl] at e
        cases e
        intro a G1 H1 w1 hn ho
        have hlen := Paired.length R.rw
        exact ⟨p,as.map V.ref,V.ref a,rfl,rfl,(R.grow w1).out,by rw [List.length_map]; omega,k σ G1 _ w1.ge (SI.addRow si R h0 hm hb w1 hn ho)⟩
      · simp only [if_neg hl] at e; cases e
    | _ => cases e
noncomputable def ze1 (w : List (List D)) (k : Int) (d : D) : Option (List (List D)) := (ixN w.length k).bind fun j => (w[j]?).bind fun row => if row.length < sizeLine then some (w.set j (row++[d])) else none
noncomputable def zhZ (fi f : FE) : FS2 := fun r w => match fi r with
  | .ok (.int k) => (match f r with
    | .ok d => (ze1 w k d).map fun w' => (r,w')
    | _ => none)
  | _ => none
theorem zmp (hm : m[i]? = some .bw) (hb : ∀ j,j≠i→m[j]?≠some .bw) (hN : X.N[i]? = some x) (hv : Vis X.env.scope x) (hk : ∀ g',SB X g' m ie fi) (he : ∀ g',SE X g' m e f)
    (hd : (x == ("__debug__" : Str)) = false := by decide) (hcd : (x == ("__classdict__" : Str)) = false := by decide) (hpl : zg7 ie := by intro _ _; rfl)
    (hbase : attributeBase (.Subscript (.Name x p2) ie p1) "append" X.env (eval (.Subscript (.Name x p2) ie p1) X.env) = eval (.Subscript (.Name x p2) ie p1) X.env := by rfl)
    (hfew : ((backTo cpos (starEach [e] X.env)).all (fun x => ! x.1) && (backToKw cpos (keywordEach [] X.env)).all (fun x => x.1.isSome) && decide (([e] : List Expr).length + ([] : List Keyword).length + (if ([] : List Keyword).isEmpty then 0 else 1) < 30)) = true := by rfl)
    (hline : (apos.endLine == cpos.line) = true := by rfl) (hst : starEach [e] X.env = (false,eval e X.env)::starEach [] X.env := by rfl) (hplain : (backTo cpos (starEach [] X.env)).any (·.1) = false := by rfl) :
    SS2 X g i m (.Expr (.Call (.Attribute (.Subscript (.Name x p2) ie p1) "append" apos) [e] [] cpos) pos) (zhZ fi f) m := by
  have hkA : PE X ie (fun σ H Q => ∃ g',tB X g' m fi σ H Q) := fun pins s σ H Q I ⟨g',k⟩ => hk g' pins s σ H Q I k
  have heA : PE X e (fun σ H Q => ∃ g',tE X g' m f σ H Q) := fun pins s σ H Q I ⟨g',k⟩ => he g' pins s σ H Q I k
  refine PS.imp (zfn (zkM PySem.F.plainAttrs_list PySem.F.slot_list_append PySem.F.type_list_append zbA (zoC zjz (zdS hN hv hd hcd) hkA hpl) (zbR heA zdT hst) hbase hfew hline hst hplain)) fun D0 σ H ⟨r,w,G,⟨p,as,R,h0,si,_⟩,r',w',ee,k⟩ => ?_
  have hst : σ[i]? = some (some (V.ref p)) := (si.lk i (some (V.ref p),none) (by show (if i = i then _ else _) = _; rw [if_pos rfl]) hm).1
  refine ⟨_,hst,_,r,G,si,?_⟩
  unfold zhZ at ee
  cases z : fi r with
  | exc x => rw [z] at ee; cases ee
  | stuck => rw [z] at ee; cases ee
  | ok d => cases d with
    | int kk =>
      simp only [z] at ee
      cases z2 : f r with
      | exc x => rw [z2] at ee; cases ee
      | stuck => rw [z2] at ee; cases ee
      | ok d2 =>
        simp only [z2] at ee
        cases z3 : ze1 w kk d2 with
        | none => rw [z3] at ee; cases ee
        | some w1 =>
          rw [z3] at ee
          cases ee
          intro v G1 H1 wg1 rv
          have rv := rv.int wg1.ok
          subst rv
          have R1 := R.grow wg1
          obtain ⟨j,row,e1,e2,e3,rfl⟩ : ∃ j row,ixN w.length kk = some j∧w[j]? = some row∧row.length < sizeLine∧w' = w.set j (row++[d2]) := by
            unfold ze1 at z3
            cases y1 : ixN w.length kk with
            | none => rw [y1] at z3; cases z3
            | some j =>
              rw [y1] at z3
              simp only [Option.bind_some] at z3
              cases y2 : w[j]? with
              | none => rw [y2] at z3; cases z3
              | some row =>
                rw [y2] at z3
                simp only [Option.bind_some] at z3
                by_cases hl : row.length < sizeLine
                · rw [if_pos hl] at z3; cases z3; exact ⟨j,row,rfl,y2,hl,rfl⟩
                · rw [if_neg hl] at z3; cases z3
          obtain ⟨b,hbj,xs,hx,rs⟩ := Paired.get R1.rw e2
          have at1 : atI (as.map V.ref) kk = some (V.ref b) := by
            unfold atI
            rw [List.length_map,Paired.length R1.rw,e1]
            show (as.map V.ref)[j]? = _
            rw [List.getElem?_map,hbj]; rfl
          refine ⟨p,_,kk,_,rfl,rfl,SqL.of R1.out,at1,.inl ⟨rfl,_,SqL.of hx⟩,_,r,G1,(si.grow wg1),?_⟩
          rw [z2]
          intro v2 G2 H2 wg2 rv2
          have R2 := R1.grow wg2
          obtain ⟨b2,hb2,xs2,hx2,rs2⟩ := Paired.get R2.rw e2
          rw [hbj] at hb2; cases hb2
          have hbm : b∈as := List.mem_of_getElem? hbj
          have nd := List.nodup_cons.mp R.nd
          have hbp : b≠p := by rintro rfl; exact nd.1 hbm
          have hh : ∀ c∈p::as,H2 c = H c := fun c hc => by
            cases y : H c with
            | none => exact absurd y (R.isS hc)
            | some o => rw [wg2.he c o (wg1.he c o y)]
          have si2 : SI X (zbG g H2 (p::as) i p) m r G2 σ H2 := by rw [zhy hh]; exact (si.grow wg1).grow wg2
          refine ⟨b,xs2,v2,rfl,rfl,hx2,by rw [Paired.length rs2]; exact e3,?_⟩
          refine k σ G2 _ (Gle.trans wg1.ge wg2.ge) ⟨p,as,⟨by rw [zal (Ne.symm hbp)]; exact R2.out,R2.nd,R2.un,?_⟩,h0,SI.row R2 si2 hm hb (List.mem_cons_of_mem _ hbm) _,hm⟩
          exact zkN R2.rw nd.2 hbj ⟨_,zan,Paired.snoc rs2 rv2⟩ fun b' x' hne ⟨xs',q1,q2⟩ => ⟨xs',by rw [zal hne]; exact q1,q2⟩
    | _ => rw [z] at ee; cases ee
end
end DL
end
section
namespace DL
open PySem PySem.Spec PyProof.Rows L2
noncomputable def zk2 : List D→Option D
  | [.bl b] => some (.int (if b then 1 else 0))
  | _ => none
theorem zj8 {X : Cx} : zdn X (.type "int") (fun xs H Q => ∃ b : Bool,xs = [.bl b]∧Q (.int (if b then 1 else 0)) H) := by
  intro pins s σ H xs us Q I r h
  obtain ⟨b,rfl,q⟩ := h
  obtain ⟨u,rfl,rx⟩ := zfP r
  cases rx
  exact call_int_bool ⟨.int (if b then 1 else 0),H,I.tok _,⟨_,rfl⟩,q⟩
theorem zm7 {K : PySem.W.Frag} : zif K (fun xs H Q => ∃ b : Bool,xs = [.bl b]∧Q (.int (if b then 1 else 0)) H) zk2 := by
  intro G H vs ds d Q gk rs e q
  unfold zk2 at e
  split at e
  · cases e
    cases rs with
    | cons r1 t =>
      cases t
      exact ⟨_,by rw [r1.bl gk],q _ G H (Grow.refl gk) (.scl (.int _))⟩
  · cases e
theorem zn2 {X : Cx} {g : GE} {m : List Md} {e : Expr} {es : List Expr} {fl : Rho→Res (List D)} {pos p : Pos} (hg : Gl X "int") (hm : X.mg "int" = none) (ha : SAB X g m (e::es) fl) (he : starEach (e::es) X.env = (false,eval e X.env)::starEach es X.env := by rfl) (hpl : (backTo pos (starEach es X.env)).any (·.1) = false := by rfl) :
    SE X g m (.Call (.Name "int" p) (e::es) [] pos) (fC fl zk2) := s_cb zm7 (zf6 zj8 hg hm rfl ha (by decide) (by decide) he hpl)
end DL
end
section
namespace DL
open PySem PySem.Spec PyProof.Rows L2
noncomputable def insI (x : Int) : List Int→List Int
  | [] => [x]
  | y::l => if x≤y then x::y::l else y::insI x l
noncomputable def srtI : List Int→List Int
  | [] => []
  | x::l => insI x (srtI l)
theorem zez (x : Int) : ∀ l : List Int,(insI x l).Perm (x::l)
  | [] => .refl _
  | y::l => by
    unfold insI
    by_cases h : x≤y
    · rw [if_pos h]
    · rw [if_neg h]; exact ((zez x l).cons y).trans (.swap x y l)
theorem zep : ∀ l : List Int,(srtI l).Perm l
  | [] => .refl _
  | x::l => (zez x (srtI l)).trans ((zep l).cons x)
theorem zjG (x : Int) : ∀ l : List Int,l.Pairwise (·≤·)→(insI x l).Pairwise (·≤·)
  | [],_ => by unfold insI; simp
  | y::l,h => by
    rw [List.pairwise_cons] at h
    unfold insI
    by_cases hx : x≤y
    · rw [if_pos hx,List.pairwise_cons,List.pairwise_cons]
      refine ⟨fun z hz => ?_,h⟩
      rcases List.mem_cons.mp hz with rfl | hz
      · exact hx
      · exact Int.le_trans hx (h.1 z hz)
    · rw [if_neg hx,List.pairwise_cons]
      refine ⟨fun z hz => ?_,zjG x l h.2⟩
      rcases List.mem_cons.mp ((zez x l).mem_iff.mp hz) with rfl | hz
      · omega
      · exact h.1 z hz
theorem zgD : ∀ l : List Int,(srtI l).Pairwise (·≤·)
  | [] => .nil
  | x::l => zjG x _ (zgD l)
theorem zmb : ∀ {a b : List Int},a.Perm b→a.Pairwise (·≤·)→b.Pairwise (·≤·)→a = b
  | [],b,p,_,_ => (List.nil_perm.mp p).symm
  | x::a,[],p,_,_ => absurd (List.perm_nil.mp p) (by simp)
  | x::a,y::b,p,ha,hb => by
    rw [List.pairwise_cons] at ha hb
    have h1 : y≤x := by
      rcases List.mem_cons.mp (p.mem_iff.mp List.mem_cons_self) with e | e
      · omega
      · exact hb.1 x e
    have h2 : x≤y := by
      rcases List.mem_cons.mp (p.mem_iff.mpr List.mem_cons_self) with e | e
      · omega
      · exact ha.1 y e
    have e : x = y := by omega
    subst e
    rw [zmb (List.Perm.cons_inv p) ha.2 hb.2]
section
variable {X : Cx} {pins : List (Addr × Obj)} {σ : L2.St} {H : Hp} {s : Shared}
theorem zgr : zdn X (.builtin "sorted") (fun xs H Q => ∃ p ks,xs = [.ref p]∧SqL X.K H p (ks.map V.int)∧ks.length < 64∧∀ l,H l = none→Q (.ref l) (upd H l (.lst ((srtI ks).map V.int)))) := by
  intro pins s σ H xs us Q I r h
  obtain ⟨p,ks,rfl,hq,h64,q⟩ := h
  obtain ⟨u,rfl,rx⟩ := zfP r
  cases rx
  obtain ⟨its,rv,pl,hz⟩ := I.list hq
  have ia : IntsAre its ks := by simpa using zh8 rv
  obtain ⟨mF,F⟩ := I.fr
  refine PySem.W.kso_sorted F (zkT (g := X.base) (h := s.heap) (L := X.env.locals)) pl.isList ia h64 fun D vs' ns' c h' F' N' hlt iv hln hpm hup _ => ?_
  have hDs : s.heap.get? D = none := by
    cases z : s.heap.get? D with
    | none => rfl
    | some o =>
      have zn := (N' _ (List.mem_cons_self)).2
      exact absurd (hlt (D,o) (zev zn.1 zn.2 z)) (Nat.lt_irrefl _)
  have keepN : ∀ b o,b≠X.env.locals→s.heap.get? b = some o→h'.get? b = some o := fun b o hb e => by
    cases z : X.base.get? b with
    | some o' =>
      have := I.bk b o' z
      rw [e] at this; cases this
      exact F'.keep b o z
    | none => exact (N' (b,o) (List.mem_cons_of_mem _ (zev hb z e))).1
  have oD := (N' _ List.mem_cons_self)
  have e : ns' = srtI ks := zmb (hpm.trans (zep ks).symm) hup (zgD ks)
  subst e
  refine ⟨.ref D,_,Inv.laidN (t' := _) (its := vs') I hDs oD.2.1 keepN (fun m hm => by rw [zmV hm F.ns]; exact F'.ns) oD.1 (zeh iv) ?_,rfl,q D ?_⟩
  · rw [List.length_map,hln,sizeLine_eq]; omega
  · cases z : H D with
    | none => rfl
    | some u => exact absurd hDs (za8.isS (I.hok D u z))
end
noncomputable def zhl : List D→Option D
  | [.lst ds] => (zdw ds).bind fun ks => if ks.length < 64 then some (.lst ((srtI ks).map .int)) else none
  | _ => none
section
variable {X : Cx} {g : GE} {m : List Md} {a b : Expr} {fl : Rho → Res (List D)} {fa fb : FE} {pos p : Pos}
theorem zja {k : Nat} (hr : Room k X.A) (hg : Gl X "sorted") (hm : X.mg "sorted" = none) (ha : SAB X g m [a] fl) (hs : starEach [a] X.env = (false,eval a X.env)::starEach [] X.env := by rfl) :
    SO X g m (.Call (.Name "sorted" p) [a] [] pos) (fC fl zhl) := by
  refine zqi (R := fun xs H Q => ∃ p ks,xs = [.ref p]∧SqL X.K H p (ks.map V.int)∧ks.length < 64∧∀ l,H l = none→Q (.ref l) (upd H l (.lst ((srtI ks).map V.int)))) ?_ (zdt zgr hg hm (by first | exact PyProof.Rows.boot_sorted | rfl) ha (by decide) (by decide) hs rfl)
  intro G H vs ds d Q gk rs e q
  unfold zhl at e
  split at e
  · rename_i zs
    cases ek : zdw zs with
    | none => rw [ek] at e; cases e
    | some ks =>
      rw [ek] at e
      have e' : (if ks.length < 64 then some (D.lst ((srtI ks).map .int)) else none) = some d := e
      by_cases h64 : ks.length < 64
      · rw [if_pos h64] at e'
        cases e'
        cases rs with
        | cons r1 t =>
          cases t
          obtain ⟨b,xs,rfl,s,r⟩ := r1.lst gk
          have ex := zlt gk r ek
          subst ex
          refine ⟨b,ks,rfl,s,h64,fun l hl' => q l G _ (Grow.new gk hl' _) hl' ⟨gk.isN hl',.lst zan ?_⟩⟩
          have : ∀ l : List Int,RGs X.K G (l.map V.int) (l.map D.int) := fun l => by
            induction l with
            | nil => exact .nil
            | cons x l ih => exact .cons (.scl (.int x)) ih
          exact this _
      · rw [if_neg h64] at e'; cases e'
  · cases e
open Classical in
noncomputable def ninE (x c : D) : Option D := match c with
  | .lst ds => if Shp 60 x∧Shp 60 (.lst ds) then some (.bl (!(ds.any fun y => eqb y x))) else none
  | _ => none
noncomputable def zok (K : PySem.W.Frag) : R2 := fun x y H Q => ∃ (G : GH) (d : D) (ds : List D),GOk K G H∧RB K G H x d∧RB K G H y (.lst ds)∧Shp 60 d∧Shp 60 (.lst ds)∧Q (.bl (!(ds.any fun z => eqb z d))) H
theorem zmH (hu : X.A.units + 64 < cLine) : OpR X (compareOp .NotIn) (zok X.K) := by
  intro pins s σ H x y v u Q I rx ry h
  obtain ⟨G,d,ds,gk,r1,r2,s1,s2,q⟩ := h
  obtain ⟨as,h1⟩ := zb1 I gk 60 d x v s1 r1 rx
  obtain ⟨bs,h2⟩ := zb1 I gk 60 (.lst ds) y u s2 r2 ry
  have e : toPy (.lst ds) = PyData.list (zbg ds) := by rw [toPy]
  rw [e] at h2
  obtain ⟨c1,c2⟩ := zfV 60 d s1
  obtain ⟨k1,k2⟩ := zeq (k := 59) (zfV 59) ds (zdB.mp s2)
  refine SeqAt.notIn_list_reads h2 h1 k1 c1 ?_ ⟨.bl _,H,I,rfl,?_⟩
  · have : min (PyData.depthAll (zbg ds)) (toPy d).depth≤60 := Nat.le_trans (Nat.min_le_right _ _) c2
    omega
  · rw [zei,List.any_map]
    exact q
theorem zmX {K : PySem.W.Frag} : OpD K (zok K) ninE := by
  intro G H v1 v2 d1 d2 d Q gk r1 r2 e q
  unfold ninE at e
  split at e
  · rename_i ds
    split at e
    · rename_i hs
      cases e
      exact ⟨G,d1,ds,gk,r1,r2,hs.1,hs.2,q _ G H (Grow.refl gk) (.scl (.bl _))⟩
    · cases e
  · cases e
theorem zoo (hu : X.A.units + 64 < cLine) (ha : SB X g m a fa) (hb : SB X g m b fb) (hm : behindInMarks .NotIn b = false := by rfl) : SQ X g m (.Compare a [.NotIn] [b] pos) (za1 (f2 fa fb ninE)) := zgJ (zmH hu) zmX ha hb hm
end
end DL
end
section
namespace Rg
theorem zft {α : Type} [DecidableEq α] : ∀ {l m : List α},l.Nodup→(∀ x∈l,x∈m)→l.length≤m.length
  | [],_,_,_ => Nat.zero_le _
  | a::l,m,hn,hs => by
    have hn' := List.nodup_cons.mp hn
    have h1 := zft (l := l) (m := m.erase a) hn'.2 fun x hx => by
      have hxa : x≠a := by rintro rfl; exact hn'.1 hx
      exact (List.mem_erase_of_ne hxa).mpr (hs x (List.mem_cons_of_mem _ hx))
    have ha : a∈m := hs a List.mem_cons_self
    rw [List.length_erase_of_mem ha] at h1
    have := List.length_pos_of_mem ha
    simp only [List.length_cons]; omega
structure S where
  line : List Nat
  things : List Nat
section
variable (W : Nat → List Nat) (O : Nat → Option Nat)
noncomputable def best (row things : List Nat) : Nat := (row.find? fun x => decide (x∈things)).getD 0
noncomputable def tgt (s : S) (h : Nat) : Nat := best (W h) s.things
noncomputable def pt (s : S) (x : Nat) : Nat := (s.line.find? fun h => decide (O h = some x)).getD (s.line.headD 0)
noncomputable def nxt (s : S) (h : Nat) : Nat := pt O s (tgt W s h)
noncomputable def minus (s : S) (C : List Nat) : S := ⟨s.line.filter fun h => decide (h∉C),s.things.filter fun x => decide (x∉C.map (tgt W s))⟩
noncomputable def it {α : Type} (f : α→α) : Nat→α→α
  | 0,x => x
  | n + 1,x => it f n (f x)
structure Ok (s : S) : Prop where
  nl : s.line.Nodup
  nt : s.things.Nodup
  le : s.line.length≤s.things.length
  row : ∀ h∈s.line,∀ x∈s.things,x∈W h
  inj : ∀ h k x,O h = some x→O k = some x→h = k
  own : ∀ h∈s.line,∀ x,O h = some x→x∈s.things
structure Cyc (s : S) (C : List Nat) : Prop where
  sub : ∀ h∈C,h∈s.line
  cl : ∀ h∈C,nxt W O s h∈C
  per : ∀ h∈C,∃ k,it (nxt W O s) (k + 1) h = h
variable {W O}
theorem zls {row things : List Nat} (h : ∃ x∈row,x∈things) : best row things∈things := by
  unfold best
  cases e : row.find? fun x => decide (x∈things) with
  | none =>
    obtain ⟨x,h1,h2⟩ := h
    have := List.find?_eq_none.mp e x h1
    simp [h2] at this
  | some x => have := List.find?_some e; simpa using this
variable {s : S}
theorem Cyc.it_mem {C : List Nat} (c : Cyc W O s C) {h : Nat} (hh : h∈C) : ∀ n,it (nxt W O s) n h∈C := by
  intro n
  induction n generalizing h with
  | zero => exact hh
  | succ n ih => exact ih (c.cl h hh)
theorem Cyc.out {C E : List Nat} (c : Cyc W O s C) (e : Cyc W O s E) {h : Nat} (hc : h∈C) (he : h∉E) : nxt W O s h∉E := by
  intro z
  obtain ⟨k,hk⟩ := c.per h hc
  exact he (by rw [← hk]; exact e.it_mem z k)
noncomputable def less (E C : List Nat) : List Nat := E.filter fun h => decide (h∉C)
inductive TTC (W : Nat→List Nat) (O : Nat→Option Nat) (a : Nat→Nat) : S→Prop where
  | nil {s : S} : s.line = []→TTC W O a s
  | step {s : S} (C : List Nat) : Cyc W O s C→(∀ h∈C,a h = tgt W s h)→TTC W O a (minus W s C)→TTC W O a s
end
end Rg
end
section
namespace Rg
section
variable {W : Nat → List Nat} {O : Nat → Option Nat} {s : S} {a : Nat → Nat}
theorem least {P : Nat→Prop} : (∃ n,P n)→∃ n,P n∧∀ k,k < n→¬ P k := by
  rintro ⟨n,hn⟩
  induction n using Nat.strongRecOn with
  | _ n ih =>
    by_cases h : ∃ k,k < n∧P k
    · obtain ⟨k,h1,h2⟩ := h; exact ih k h1 h2
    · exact ⟨n,hn,fun k hk hp => h ⟨k,hk,hp⟩⟩
end
end Rg
end
section
namespace Rg
section
variable {W W' : Nat → List Nat} {O : Nat → Option Nat} {s : S} {a b : Nat → Nat}
end
end Rg
end
section
namespace Rg
section
variable (W : Nat → List Nat) (d : Nat → Nat)
variable {W d}
end
end Rg
end
section
namespace Fq
theorem zhz (a : Int) (b : Nat) : Int.gcd a b = Int.gcd b (a % (b : Int)) := by
  refine Nat.dvd_antisymm (Int.dvd_gcd (Int.gcd_dvd_right _ _) ?_) (Int.dvd_gcd ?_ (Int.gcd_dvd_left _ _))
  · rw [Int.emod_def]
    exact Int.dvd_sub (Int.gcd_dvd_left _ _) (Int.dvd_trans (Int.gcd_dvd_right a b) (Int.dvd_mul_right _ _))
  · have h := Int.mul_ediv_add_emod a b
    rw [← h]
    exact Int.dvd_add (Int.dvd_trans (Int.gcd_dvd_left (b : Int) _) (Int.dvd_mul_right _ _)) (by rw [h]; exact Int.gcd_dvd_right _ _)
theorem zfw (t : Int) {b : Nat} (h : 0 < b) : 0 < Int.gcd t b := Nat.pos_of_ne_zero fun z => by
  have := Int.gcd_eq_zero_iff.mp z
  omega
noncomputable def low (t : Int) (b : Nat) : Int × Nat := (t / (Int.gcd t b : Int),b / Int.gcd t b)
noncomputable def ziX (a b : Int × Nat) : Int × Nat := low (a.1 * b.2 + b.1 * a.2) (a.2 * b.2)
noncomputable def Same (a b : Int × Nat) : Prop := a.1 * (b.2 : Int) = b.1 * (a.2 : Int)
theorem zjm (t : Int) {b : Nat} (h : 0 < b) : Int.gcd (low t b).1 ((low t b).2 : Nat) = 1 := by
  have := Int.gcd_ediv_gcd_ediv_gcd (zfw t h)
  unfold low
  rw [Int.natCast_ediv]
  exact this
theorem zde (t : Int) {b : Nat} (h : 0 < b) : 0 < (low t b).2 := by
  have h1 : Int.gcd t b ∣ b := Int.natCast_dvd_natCast.mp (Int.gcd_dvd_right t b)
  exact Nat.div_pos (Nat.le_of_dvd h h1) (zfw t h)
theorem zo3 (t : Int) (b : Nat) : (low t b).2≤b := Nat.div_le_self _ _
theorem zm0 (t : Int) (b : Nat) : (low t b).1.natAbs≤t.natAbs := Int.natAbs_ediv_le_natAbs _ _
theorem zcN (t : Int) (b : Nat) : Same (low t b) (t,b) := by
  unfold Same low
  have h1 : (Int.gcd t b : Int) ∣ t := Int.gcd_dvd_left t b
  have h2 : (Int.gcd t b : Int) ∣ (b : Int) := Int.gcd_dvd_right t b
  obtain ⟨x,hx⟩ := h1
  obtain ⟨y,hy⟩ := h2
  generalize hg : (Int.gcd t b : Int) = g at hx hy
  show t / g * (b : Int) = t * ((b / Int.gcd t b : Nat) : Int)
  rw [Int.natCast_ediv,hg]
  by_cases z : g = 0
  · subst z
    rw [Int.zero_mul] at hx hy
    rw [hx,hy]; simp
  · rw [hx,hy,Int.mul_ediv_cancel_left _ z,Int.mul_ediv_cancel_left _ z]
    rw [← Int.mul_assoc,Int.mul_comm x g]
structure Bd (k : Nat) (a : Int × Nat) : Prop where
  pos : 0 < a.2
  bot : a.2 < 2 ^ k
  top : a.1.natAbs < 2 ^ k
theorem Bd.mono {k l : Nat} {a : Int × Nat} (h : Bd k a) (hl : k≤l) : Bd l a :=
  ⟨h.pos,Nat.lt_of_lt_of_le h.bot (Nat.pow_le_pow_right (by omega) hl),Nat.lt_of_lt_of_le h.top (Nat.pow_le_pow_right (by omega) hl)⟩
theorem Bd.low {k : Nat} {t : Int} {b : Nat} (h : 0 < b) (h1 : b < 2 ^ k) (h2 : t.natAbs < 2 ^ k) : Bd k (low t b) :=
  ⟨zde t h,Nat.lt_of_le_of_lt (zo3 t b) h1,Nat.lt_of_le_of_lt (zm0 t b) h2⟩
theorem zdE {a b k l : Nat} (h1 : a < 2 ^ k) (h2 : b < 2 ^ l) : a * b < 2 ^ (k + l) := by
  rw [Nat.pow_add]
  exact Nat.mul_lt_mul'' h1 h2
theorem zch {k l : Nat} {a b : Int × Nat} (ha : Bd k a) (hb : Bd l b) : 0 < a.2 * b.2∧a.2 * b.2 < 2 ^ (k + l) := ⟨Nat.mul_pos ha.pos hb.pos,zdE ha.bot hb.bot⟩
theorem zkI {k l : Nat} {a b : Int × Nat} (ha : Bd k a) (hb : Bd l b) : (a.1 * b.2 + b.1 * a.2).natAbs < 2 ^ (k + l + 1) := by
  have h1 : (a.1 * (b.2 : Int)).natAbs < 2 ^ (k + l) := by rw [Int.natAbs_mul,Int.natAbs_natCast]; exact zdE ha.top hb.bot
  have h2 : (b.1 * (a.2 : Int)).natAbs < 2 ^ (k + l) := by rw [Int.natAbs_mul,Int.natAbs_natCast,Nat.add_comm k l]; exact zdE hb.top ha.bot
  have h3 := Int.natAbs_add_le (a.1 * (b.2 : Int)) (b.1 * (a.2 : Int))
  rw [Nat.pow_succ]
  omega
theorem Bd.plus {k l : Nat} {a b : Int × Nat} (ha : Bd k a) (hb : Bd l b) : Bd (k + l + 1) (ziX a b) := by
  obtain ⟨h1,h2⟩ := zch ha hb
  exact Bd.low h1 (Nat.lt_of_lt_of_le h2 (Nat.pow_le_pow_right (by omega) (by omega))) (zkI ha hb)
noncomputable def zjo (a b : Int × Nat) : Bool := decide (a.1 * (b.2 : Int) < b.1 * (a.2 : Int))
end Fq
end
section
namespace Rg
theorem znj {α : Type} (f : α→Nat) (os : List α) : ∀ P : List Nat,P.Nodup→(P.map fun t => os.countP fun o => decide (f o = t)).sum = os.countP fun o => decide (f o∈P)
  | [],_ => by simp
  | t::P,hn => by
    have hn' := List.nodup_cons.mp hn
    rw [List.map_cons,List.sum_cons,znj f os P hn'.2]
    clear hn
    induction os with
    | nil => rfl
    | cons o os ih =>
      rw [List.countP_cons,List.countP_cons,List.countP_cons,← ih]
      by_cases h1 : f o = t
      · have h2 : f o∉P := by rw [h1]; exact hn'.1
        simp [h1,hn'.1]; omega
      · by_cases h2 : f o∈P
        · simp [h1,h2]; omega
        · simp [h1,h2]
end Rg
namespace Fq
noncomputable def W (N : Nat) (a : Int × Nat) (S : Nat) : Prop := 0 < a.2∧a.1 * (N : Int) = (S : Int) * (a.2 : Int)
theorem W.low {N c : Nat} (hN : 0 < N) : W N (low c N) c := by
  have := zcN (c : Int) N
  exact ⟨zde _ hN,this⟩
theorem W.plus {N S c : Nat} {a b : Int × Nat} (ha : W N a S) (hb : W N b c) : W N (ziX a b) (S + c) := by
  have hp : 0 < a.2 * b.2 := Nat.mul_pos ha.1 hb.1
  refine ⟨zde _ hp,?_⟩
  have h := zcN (a.1 * (b.2 : Int) + b.1 * (a.2 : Int)) (a.2 * b.2)
  unfold Same at h
  unfold ziX
  generalize Fq.low (a.1 * (b.2 : Int) + b.1 * (a.2 : Int)) (a.2 * b.2) = p at h ⊢
  have h1 := ha.2
  have h2 := hb.2
  have hq : ((a.2 * b.2 : Nat) : Int)≠0 := by omega
  refine Int.eq_of_mul_eq_mul_right hq ?_
  have e1 : p.1 * (N : Int) * ((a.2 * b.2 : Nat) : Int) = (p.1 * ((a.2 * b.2 : Nat) : Int)) * (N : Int) := by
    rw [Int.mul_assoc,Int.mul_comm (N : Int),← Int.mul_assoc]
  rw [e1,h]
  show (a.1 * (b.2 : Int) + b.1 * (a.2 : Int)) * (p.2 : Int) * (N : Int) = (((S + c : Nat) : Int)) * (p.2 : Int) * ((a.2 * b.2 : Nat) : Int)
  have e2 : (a.1 * (b.2 : Int) + b.1 * (a.2 : Int)) * (p.2 : Int) * (N : Int) = ((a.1 * (N : Int)) * (b.2 : Int) + (b.1 * (N : Int)) * (a.2 : Int)) * (p.2 : Int) := by
    rw [Int.add_mul,Int.add_mul,Int.add_mul]
    congr 1
    · simp only [Int.mul_assoc,Int.mul_comm,Int.mul_left_comm]
    · simp only [Int.mul_assoc,Int.mul_comm,Int.mul_left_comm]
  rw [e2,h1,h2,Int.natCast_add,Int.natCast_mul]
  simp only [Int.add_mul]
  congr 1 <;> simp only [Int.mul_assoc,Int.mul_comm,Int.mul_left_comm]
theorem W.ge {N S S' : Nat} {a b : Int × Nat} (hN : 0 < N) (ha : W N a S) (hb : W N b S') (h : S'≤S) : zjo a b = false := by
  refine decide_eq_false fun hlt => ?_
  have h1 := Int.mul_lt_mul_of_pos_right hlt (show (0 : Int) < (N : Int) by omega)
  have e1 : a.1 * (b.2 : Int) * (N : Int) = (S : Int) * ((a.2 : Int) * (b.2 : Int)) := by
    rw [Int.mul_assoc,Int.mul_comm (b.2 : Int),← Int.mul_assoc,ha.2,Int.mul_assoc]
  have e2 : b.1 * (a.2 : Int) * (N : Int) = (S' : Int) * ((a.2 : Int) * (b.2 : Int)) := by
    rw [Int.mul_assoc,Int.mul_comm (a.2 : Int),← Int.mul_assoc,hb.2,Int.mul_assoc,Int.mul_comm (b.2 : Int)]
  rw [e1,e2] at h1
  have hp : (0 : Int)≤(a.2 : Int) * (b.2 : Int) := by
    rw [← Int.natCast_mul]; exact Int.natCast_nonneg _
  have := Int.lt_of_mul_lt_mul_right h1 hp
  omega
end Fq
end
section
namespace Fq
theorem zbd {t u : Int} {b d : Nat} (hb : 0 < b) (hd : 0 < d) (h : t * (d : Int) = u * (b : Int)) : low t b = low u d := by
  have s1 : (low t b).1 * (b : Int) = t * ((low t b).2 : Int) := zcN t b
  have s2 : (low u d).1 * (d : Int) = u * ((low u d).2 : Int) := zcN u d
  have c1 := zjm t hb
  have c2 := zjm u hd
  have p1 := zde t hb
  have p2 := zde u hd
  generalize low t b = p at *
  generalize low u d = q at *
  have hx : p.1 * (q.2 : Int) = q.1 * (p.2 : Int) := by
    have hne : ((b * d : Nat) : Int)≠0 := by have := Nat.mul_pos hb hd; omega
    refine Int.eq_of_mul_eq_mul_right hne ?_
    rw [Int.natCast_mul]
    have e1 : p.1 * (q.2 : Int) * ((b : Int) * (d : Int)) = (p.1 * (b : Int)) * ((d : Int) * (q.2 : Int)) := by simp only [Int.mul_assoc,Int.mul_comm,Int.mul_left_comm]
    have e2 : q.1 * (p.2 : Int) * ((b : Int) * (d : Int)) = (q.1 * (d : Int)) * ((b : Int) * (p.2 : Int)) := by simp only [Int.mul_assoc,Int.mul_comm,Int.mul_left_comm]
    rw [e1,e2,s1,s2]
    have e3 : t * (p.2 : Int) * ((d : Int) * (q.2 : Int)) = (t * (d : Int)) * ((p.2 : Int) * (q.2 : Int)) := by simp only [Int.mul_assoc,Int.mul_comm,Int.mul_left_comm]
    have e4 : u * (q.2 : Int) * ((b : Int) * (p.2 : Int)) = (u * (b : Int)) * ((p.2 : Int) * (q.2 : Int)) := by simp only [Int.mul_assoc,Int.mul_comm,Int.mul_left_comm]
    rw [e3,e4,h]
  have hab : p.1.natAbs * q.2 = q.1.natAbs * p.2 := by
    have := congrArg Int.natAbs hx
    rw [Int.natAbs_mul,Int.natAbs_mul,Int.natAbs_natCast,Int.natAbs_natCast] at this
    exact this
  have k1 : Nat.Coprime p.2 p.1.natAbs := by
    have : Nat.gcd p.1.natAbs p.2 = 1 := c1
    rw [Nat.gcd_comm] at this; exact this
  have k2 : Nat.Coprime q.2 q.1.natAbs := by
    have : Nat.gcd q.1.natAbs q.2 = 1 := c2
    rw [Nat.gcd_comm] at this; exact this
  have d1 : p.2 ∣ q.2 := k1.dvd_of_dvd_mul_left (by rw [hab]; exact Nat.dvd_mul_left _ _)
  have d2 : q.2 ∣ p.2 := k2.dvd_of_dvd_mul_left (by rw [← hab]; exact Nat.dvd_mul_left _ _)
  have e : p.2 = q.2 := Nat.dvd_antisymm d1 d2
  have e' : p.1 = q.1 := by
    rw [e] at hx
    exact Int.eq_of_mul_eq_mul_right (by omega) hx
  exact Prod.ext e' e
noncomputable def DD : Nat := 420 ^ 7
theorem DD_pos : 0 < DD := by decide
theorem zpW : DD < 2 ^ 61 := by decide
noncomputable def Qd (z : Int) : Int × Nat := low z DD
theorem zbV (z : Int) : (Qd z).1 * (DD : Int) = z * ((Qd z).2 : Int) := zcN z DD
theorem zdx (z : Int) : 0 < (Qd z).2 := zde z DD_pos
theorem zns (a b : Int) : ziX (Qd a) (Qd b) = Qd (a + b) := by
  have h1 := zbV a
  have h2 := zbV b
  refine zbd (Nat.mul_pos (zdx a) (zdx b)) DD_pos ?_
  rw [Int.natCast_mul,Int.add_mul,Int.add_mul]
  have e1 : (Qd a).1 * ((Qd b).2 : Int) * (DD : Int) = ((Qd a).1 * (DD : Int)) * ((Qd b).2 : Int) := by simp only [Int.mul_assoc,Int.mul_comm,Int.mul_left_comm]
  have e2 : (Qd b).1 * ((Qd a).2 : Int) * (DD : Int) = ((Qd b).1 * (DD : Int)) * ((Qd a).2 : Int) := by simp only [Int.mul_assoc,Int.mul_comm,Int.mul_left_comm]
  rw [e1,e2,h1,h2]
  simp only [Int.mul_assoc,Int.mul_comm,Int.mul_left_comm]
noncomputable def zlU (a b : Int × Nat) : Int × Nat := low (a.1 * b.2 - b.1 * a.2) (a.2 * b.2)
theorem zlw (a b : Int) : zlU (Qd a) (Qd b) = Qd (a - b) := by
  have h1 := zbV a
  have h2 := zbV b
  refine zbd (Nat.mul_pos (zdx a) (zdx b)) DD_pos ?_
  rw [Int.natCast_mul,Int.sub_mul,Int.sub_mul]
  have e1 : (Qd a).1 * ((Qd b).2 : Int) * (DD : Int) = ((Qd a).1 * (DD : Int)) * ((Qd b).2 : Int) := by simp only [Int.mul_assoc,Int.mul_comm,Int.mul_left_comm]
  have e2 : (Qd b).1 * ((Qd a).2 : Int) * (DD : Int) = ((Qd b).1 * (DD : Int)) * ((Qd a).2 : Int) := by simp only [Int.mul_assoc,Int.mul_comm,Int.mul_left_comm]
  rw [e1,e2,h1,h2]
  simp only [Int.mul_assoc,Int.mul_comm,Int.mul_left_comm]
noncomputable def zin (a b : Int × Nat) : Int × Nat := low (a.1 * b.1) (a.2 * b.2)
theorem zlv (c : Int) (a : Int) : zin (c,1) (Qd a) = Qd (c * a) := by
  have h1 := zbV a
  refine zbd (Nat.mul_pos (show 0 < ((c : Int),1).2 from Nat.one_pos) (zdx a)) DD_pos ?_
  show c * (Qd a).1 * (DD : Int) = c * a * ((1 * (Qd a).2 : Nat) : Int)
  rw [Nat.one_mul,Int.mul_assoc,h1,Int.mul_assoc]
theorem zpT {c : Nat} {a : Nat} (hc : 0 < c) (h : c ∣ a) : zin (Qd a) (1,c) = Qd ((a / c : Nat) : Int) := by
  have h1 := zbV (a : Int)
  refine zbd (Nat.mul_pos (zdx _) hc) DD_pos ?_
  show (Qd (a : Int)).1 * 1 * (DD : Int) = ((a / c : Nat) : Int) * (((Qd (a : Int)).2 * c : Nat) : Int)
  obtain ⟨k,rfl⟩ := h
  rw [Nat.mul_div_cancel_left k hc,Int.mul_one,h1,Int.natCast_mul,Int.natCast_mul]
  simp only [Int.mul_assoc,Int.mul_comm,Int.mul_left_comm]
theorem zke (a b : Int) : zjo (Qd a) (Qd b) = decide (a < b) := by
  have h1 := zbV a
  have h2 := zbV b
  have p1 := zdx a
  have p2 := zdx b
  have hp : (0 : Int) < ((Qd a).2 : Int) * ((Qd b).2 : Int) := by rw [← Int.natCast_mul]; have := Nat.mul_pos p1 p2; omega
  have hD : (0 : Int) < (DD : Int) := by have := DD_pos; omega
  unfold zjo
  rw [Bool.eq_iff_iff,decide_eq_true_iff,decide_eq_true_iff]
  have e1 : (Qd a).1 * ((Qd b).2 : Int) * (DD : Int) = a * (((Qd a).2 : Int) * ((Qd b).2 : Int)) := by
    rw [Int.mul_assoc,Int.mul_comm ((Qd b).2 : Int),← Int.mul_assoc,h1,Int.mul_assoc]
  have e2 : (Qd b).1 * ((Qd a).2 : Int) * (DD : Int) = b * (((Qd a).2 : Int) * ((Qd b).2 : Int)) := by
    rw [Int.mul_assoc,Int.mul_comm ((Qd a).2 : Int),← Int.mul_assoc,h2,Int.mul_assoc,Int.mul_comm ((Qd b).2 : Int)]
  constructor
  · intro h
    have := Int.mul_lt_mul_of_pos_right h hD
    rw [e1,e2] at this
    exact Int.lt_of_mul_lt_mul_right this (Int.le_of_lt hp)
  · intro h
    have := Int.mul_lt_mul_of_pos_right h hp
    rw [← e1,← e2] at this
    exact Int.lt_of_mul_lt_mul_right this (Int.le_of_lt hD)
theorem zl7 {a b : Int} (h : Qd a = Qd b) : a = b := by
  have h1 := zbV a
  have h2 := zbV b
  rw [h] at h1
  have := zdx b
  exact Int.eq_of_mul_eq_mul_right (show ((Qd b).2 : Int)≠0 by omega) (h1.symm.trans h2)
theorem low1 (t : Int) : low t 1 = (t,1) := by
  unfold low
  have : Int.gcd t (1 : Nat) = 1 := by show Int.gcd t 1 = 1; simp
  rw [this]; simp
theorem zo4 (c : Nat) : low 1 c = (1,c) := by
  unfold low
  have : Int.gcd 1 (c : Nat) = 1 := by simp
  rw [this]; simp
theorem Qd_0 : Qd 0 = (0,1) := by
  rw [← low1 0]; exact zbd DD_pos (by decide) (by simp)
theorem Qd_1 : Qd (DD : Int) = (1,1) := by
  rw [← low1 1]; exact zbd DD_pos (by decide) (by simp)
theorem zeX {a : Nat} (h : a≤DD) : Bd 61 (Qd (a : Int)) := Bd.low DD_pos zpW (by rw [Int.natAbs_natCast]; have := zpW; omega)
end Fq
namespace Et
open Rg
noncomputable def leastN : List Nat→Nat
  | [] => 0
  | x::l => l.foldl (fun m y => if y < m then y else m) x
theorem zgU : ∀ (l : List Nat) (m : Nat),l.foldl (fun m y => if y < m then y else m) m≤m∧(∀ y∈l,l.foldl (fun m y => if y < m then y else m) m≤y)∧(l.foldl (fun m y => if y < m then y else m) m = m∨l.foldl (fun m y => if y < m then y else m) m∈l)
  | [],m => ⟨Nat.le_refl _,fun _ h => (nomatch h),.inl rfl⟩
  | y::l,m => by
    rw [List.foldl_cons]
    obtain ⟨h1,h2,h3⟩ := zgU l (if y < m then y else m)
    have hm : (if y < m then y else m)≤m∧(if y < m then y else m)≤y := by split <;> omega
    refine ⟨Nat.le_trans h1 hm.1,fun z hz => ?_,?_⟩
    · rcases List.mem_cons.mp hz with rfl | hz
      · exact Nat.le_trans h1 hm.2
      · exact h2 z hz
    · rcases h3 with h3 | h3
      · rw [h3]
        by_cases hy : y < m
        · rw [if_pos hy]; exact .inr List.mem_cons_self
        · rw [if_neg hy]; exact .inl rfl
      · exact .inr (List.mem_cons_of_mem _ h3)
theorem zkY {l : List Nat} {y : Nat} (h : y∈l) : leastN l≤y := by
  cases l with
  | nil => cases h
  | cons x l =>
    obtain ⟨h1,h2,_⟩ := zgU l x
    rcases List.mem_cons.mp h with rfl | h
    · exact h1
    · exact h2 y h
theorem zjp {l : List Nat} (h : l≠[]) : leastN l∈l := by
  cases l with
  | nil => exact absurd rfl h
  | cons x l =>
    obtain ⟨_,_,h3⟩ := zgU l x
    rcases h3 with h3 | h3
    · show l.foldl (fun m y => if y < m then y else m) x∈_
      rw [h3]; exact List.mem_cons_self
    · exact List.mem_cons_of_mem _ h3
variable (W : Nat → List Nat) (n : Nat)
noncomputable def tgs (T : List Nat) : List Nat := (List.range n).map fun h => best (W h) T
noncomputable def spn (T : List Nat) (a : Nat→Nat) : Nat := leastN ((tgs W n T).map fun x => a x / (tgs W n T).count x)
noncomputable def aft (T : List Nat) (a : Nat→Nat) (x : Nat) : Nat := a x - (tgs W n T).count x * spn W n T a
noncomputable def lft (T : List Nat) (a : Nat→Nat) : List Nat := T.filter fun x => decide (aft W n T a x≠0)
noncomputable def eat : Nat→List Nat→(Nat→Nat)→List (List Nat × Nat × List Nat)
  | 0,_,_ => []
  | k + 1,T,a => if T = [] then [] else (tgs W n T,spn W n T a,T.filter fun x => decide (x∉lft W n T a))::eat k (lft W n T a) (aft W n T a)
structure Ok (T : List Nat) (a : Nat→Nat) : Prop where
  nd : T.Nodup
  lt : ∀ x∈T,x < n
  pos : ∀ x∈T,0 < a x
  dv : ∀ x∈T,420 ^ T.length ∣ a x
variable {W n}
variable {T : List Nat} {a : Nat → Nat}
structure Rw (W : Nat→List Nat) (n : Nat) : Prop where
  n1 : 1≤n
  n7 : n≤7
  has : ∀ h x,h < n→x < n→x∈W h
theorem zio (R : Rw W n) (S : Ok n T a) (hT : T≠[]) {h : Nat} (hh : h < n) : best (W h) T∈T := by
  have hp := List.length_pos_iff.mpr hT
  exact zls ⟨T[0],R.has h _ hh (S.lt _ (List.getElem_mem _)),List.getElem_mem _⟩
theorem tgs_len : (tgs W n T).length = n := by unfold tgs; simp
theorem tgs_mem (R : Rw W n) (S : Ok n T a) (hT : T≠[]) {x : Nat} (h : x∈tgs W n T) : x∈T := by
  obtain ⟨k,hk,rfl⟩ := List.mem_map.mp h
  exact zio R S hT (List.mem_range.mp hk)
theorem zl6 (x : Nat) : (tgs W n T).count x≤n := by
  have := List.count_le_length (a := x) (l := tgs W n T)
  rw [tgs_len] at this; exact this
theorem zl5 {c : Nat} (h1 : 1≤c) (h7 : c≤7) : c ∣ 420 := by
  match c,h1,h7 with
  | 1,_,_ => decide
  | 2,_,_ => decide
  | 3,_,_ => decide
  | 4,_,_ => decide
  | 5,_,_ => decide
  | 6,_,_ => decide
  | 7,_,_ => decide
theorem cnt_dvd (R : Rw W n) (S : Ok n T a) (hT : T≠[]) {x : Nat} (hx : x∈tgs W n T) : (tgs W n T).count x ∣ a x∧0 < (tgs W n T).count x := by
  have h1 : 0 < (tgs W n T).count x := List.count_pos_iff.mpr hx
  have h2 := zl6 (W := W) (n := n) (T := T) x
  have hp := List.length_pos_iff.mpr hT
  have hd := S.dv x (tgs_mem R S hT hx)
  obtain ⟨k,hk⟩ : ∃ k,T.length = k + 1 := ⟨T.length - 1,by omega⟩
  rw [hk,Nat.pow_succ] at hd
  exact ⟨Nat.dvd_trans (zl5 h1 (by have := R.n7; omega)) (Nat.dvd_trans (Nat.dvd_mul_left _ _) hd),h1⟩
theorem znP (x : Nat) (hx : x∈tgs W n T) : spn W n T a≤a x / (tgs W n T).count x := zkY (List.mem_map.mpr ⟨x,hx,rfl⟩)
theorem spn_mul (x : Nat) : (tgs W n T).count x * spn W n T a≤a x := by
  by_cases hx : x∈tgs W n T
  · have h1 := znP (a := a) x hx
    have h2 := Nat.mul_le_mul_left ((tgs W n T).count x) h1
    exact Nat.le_trans h2 (Nat.mul_div_le _ _)
  · rw [List.count_eq_zero.mpr hx]; simp
theorem spn_at (R : Rw W n) : ∃ x∈tgs W n T,spn W n T a = a x / (tgs W n T).count x := by
  have hne : (tgs W n T).map (fun x => a x / (tgs W n T).count x)≠[] := by
    intro e
    have h1 := congrArg List.length e
    rw [List.length_map,tgs_len] at h1
    have h2 := R.n1
    rw [List.length_nil] at h1; omega
  obtain ⟨x,h1,h2⟩ := List.mem_map.mp (zjp hne)
  exact ⟨x,h1,h2.symm⟩
theorem znQ (R : Rw W n) (S : Ok n T a) (hT : T≠[]) : 420 ^ (T.length - 1) ∣ spn W n T a := by
  obtain ⟨x,h1,h2⟩ := spn_at (T := T) (a := a) R
  have hp := List.length_pos_iff.mpr hT
  have hd := S.dv x (tgs_mem R S hT h1)
  obtain ⟨hc,hc0⟩ := cnt_dvd R S hT h1
  have hc7 := zl5 (c := (tgs W n T).count x) hc0 (by have := zl6 (W := W) (n := n) (T := T) x; have := R.n7; omega)
  obtain ⟨k,hk⟩ : ∃ k,T.length = k + 1 := ⟨T.length - 1,by omega⟩
  rw [hk,Nat.pow_succ] at hd
  obtain ⟨q,hq⟩ := hd
  obtain ⟨m,hm⟩ := hc7
  rw [h2,hk,Nat.add_sub_cancel,hq]
  generalize (tgs W n T).count x = c at *
  refine ⟨m * q,?_⟩
  rw [hm]
  have : 420 ^ k * (c * m) * q = c * (420 ^ k * (m * q)) := by simp only [Nat.mul_assoc,Nat.mul_comm,Nat.mul_left_comm]
  rw [← hm] at this ⊢
  rw [hm] at this ⊢
  rw [this,Nat.mul_div_cancel_left _ hc0]
theorem lft_lt (R : Rw W n) (S : Ok n T a) (hT : T≠[]) : (lft W n T a).length < T.length := by
  obtain ⟨x,h1,h2⟩ := spn_at (T := T) (a := a) R
  obtain ⟨hc,hc0⟩ := cnt_dvd R S hT h1
  have hx := tgs_mem R S hT h1
  have h0 : aft W n T a x = 0 := by
    unfold aft
    rw [h2,Nat.mul_div_cancel' hc,Nat.sub_self]
  unfold lft
  refine Nat.lt_of_le_of_ne (List.length_filter_le _ _) fun e => ?_
  have := List.length_filter_eq_length_iff.mp e x hx
  simp [h0] at this
theorem Ok.next (R : Rw W n) (S : Ok n T a) (hT : T≠[]) : Ok n (lft W n T a) (aft W n T a) where
  nd := S.nd.sublist List.filter_sublist
  lt := fun x hx => S.lt x (List.mem_filter.mp hx).1
  pos := fun x hx => Nat.pos_of_ne_zero (by simpa using (List.mem_filter.mp hx).2)
  dv := fun x hx => by
    have hx' := (List.mem_filter.mp hx).1
    have hlt := lft_lt R S hT
    have h1 : 420 ^ (T.length - 1) ∣ a x := Nat.dvd_trans (Nat.pow_dvd_pow 420 (by omega)) (S.dv x hx')
    have h2 : 420 ^ (T.length - 1) ∣ (tgs W n T).count x * spn W n T a := Nat.dvd_trans (znQ R S hT) (Nat.dvd_mul_left _ _)
    exact Nat.dvd_trans (Nat.pow_dvd_pow 420 (by omega)) (Nat.dvd_sub h1 h2)
noncomputable def shr (ms : List (List Nat × Nat × List Nat)) (h x : Nat) : Nat := (ms.map fun p => if p.1.getD h 0 = x then p.2.1 else 0).sum
noncomputable def tot (ms : List (List Nat × Nat × List Nat)) : Nat := (ms.map fun p => p.2.1).sum
theorem shr_cons (p : List Nat × Nat × List Nat) (ms) (h x : Nat) : shr (p::ms) h x = (if p.1.getD h 0 = x then p.2.1 else 0) + shr ms h x := by unfold shr; rw [List.map_cons,List.sum_cons]
theorem tot_cons (p : List Nat × Nat × List Nat) (ms) : tot (p::ms) = p.2.1 + tot ms := by unfold tot; rw [List.map_cons,List.sum_cons]
theorem zfh {α : Type} (f g : α→Nat) : ∀ l : List α,(l.map fun x => f x + g x).sum = (l.map f).sum + (l.map g).sum
  | [] => rfl
  | x::l => by rw [List.map_cons,List.map_cons,List.map_cons,List.sum_cons,List.sum_cons,List.sum_cons,zfh f g l]; omega
theorem zit (s : Nat) (p : Nat→Nat) (x : Nat) : ∀ l : List Nat,(l.map fun h => if p h = x then s else 0).sum = (l.map p).count x * s
  | [] => by simp
  | h::l => by
    rw [List.map_cons,List.sum_cons,zit s p x l,List.map_cons,List.count_cons]
    by_cases e : p h = x
    · rw [if_pos e,if_pos (by simpa using e),Nat.add_mul]; omega
    · rw [if_neg e,if_neg (by simpa using e),Nat.add_zero,Nat.zero_add]
theorem zir (s y : Nat) : ∀ l : List Nat,l.Nodup→(l.map fun x => if y = x then s else 0).sum = if y∈l then s else 0
  | [],_ => by simp
  | x::l,hn => by
    have hn' := List.nodup_cons.mp hn
    rw [List.map_cons,List.sum_cons,zir s y l hn'.2]
    by_cases e : y = x
    · subst e
      rw [if_pos rfl,if_neg hn'.1,if_pos List.mem_cons_self]; rfl
    · rw [if_neg e]
      by_cases hy : y∈l
      · rw [if_pos hy,if_pos (List.mem_cons_of_mem _ hy)]; omega
      · rw [if_neg hy,if_neg fun z => (List.mem_cons.mp z).elim e hy]
theorem ziq {h : Nat} (hh : h < n) : (tgs W n T).getD h 0 = best (W h) T := by
  unfold tgs
  rw [List.getD_eq_getElem?_getD,List.getElem?_map,List.getElem?_range hh]; rfl
theorem zmd : (List.range n).map (fun h => (tgs W n T).getD h 0) = tgs W n T := by
  unfold tgs
  refine List.map_congr_left fun h hh => ?_
  exact ziq (W := W) (T := T) (List.mem_range.mp hh)
theorem zmh (ts : List Nat) : ∀ T : List Nat,T.Nodup→(∀ x∈ts,x∈T)→(T.map fun x => ts.count x).sum = ts.length := by
  intro T hn hs
  have := Rg.znj id ts T hn
  have e : (T.map fun x => ts.count x) = T.map fun t => ts.countP fun o => decide (id o = t) := by
    refine List.map_congr_left fun x _ => ?_
    rw [List.count_eq_countP]
    refine List.countP_congr fun y _ => ?_
    simp
  rw [e,this]
  exact List.countP_eq_length.mpr fun y hy => by simpa using hs y hy
theorem zis (s : Nat) (f : Nat→Nat) : ∀ l : List Nat,(l.map fun x => f x * s).sum = (l.map f).sum * s
  | [] => by simp
  | x::l => by rw [List.map_cons,List.sum_cons,zis s f l,List.map_cons,List.sum_cons,Nat.add_mul]
theorem zdA (f : Nat→Nat) : ∀ l : List Nat,((l.filter fun x => decide (f x≠0)).map f).sum = (l.map f).sum
  | [] => rfl
  | x::l => by
    rw [List.filter_cons]
    by_cases h : f x = 0
    · rw [if_neg (by simpa using h),zdA f l,List.map_cons,List.sum_cons,h]; omega
    · rw [if_pos (by simpa using h),List.map_cons,List.sum_cons,zdA f l,List.map_cons,List.sum_cons]
theorem zcE {α : Type} (c : Nat) : ∀ l : List α,(l.map fun _ => c).sum = l.length * c
  | [] => by simp
  | _::l => by rw [List.map_cons,List.sum_cons,zcE c l,List.length_cons,Nat.add_mul]; omega
theorem zdp {α : Type} : ∀ l : List α,(l.map fun _ => 0).sum = 0
  | [] => rfl
  | _::l => by rw [List.map_cons,List.sum_cons,zdp l]
theorem zgX (R : Rw W n) : ∀ (k : Nat) (T : List Nat) (a : Nat→Nat),Ok n T a→T.length≤k →
    (∀ x,((List.range n).map fun h => shr (eat W n k T a) h x).sum = if x∈T then a x else 0)∧n * tot (eat W n k T a) = (T.map a).sum ∧
    (∀ h,h < n→((List.range n).map fun x => shr (eat W n k T a) h x).sum = tot (eat W n k T a))
  | 0,T,a,S,hk => by
    have : T = [] := List.length_eq_zero_iff.mp (by omega)
    subst this
    refine ⟨fun x => ?_,?_,fun h hh => ?_⟩
    · show ((List.range n).map fun h => 0).sum = _
      rw [zdp]; simp
    · show n * 0 = _
      simp
    · show ((List.range n).map fun x => 0).sum = 0
      exact zdp _
  | k + 1,T,a,S,hk => by
    by_cases hT : T = []
    · subst hT
      refine ⟨fun x => ?_,?_,fun h hh => ?_⟩
      · show ((List.range n).map fun h => 0).sum = _
        rw [zdp]; simp
      · show n * 0 = _
        simp
      · show ((List.range n).map fun x => 0).sum = 0
        exact zdp _
    · have hlt := lft_lt R S hT
      obtain ⟨i1,i2,i3⟩ := zgX R k (lft W n T a) (aft W n T a) (S.next R hT) (by omega)
      have e : eat W n (k + 1) T a = (tgs W n T,spn W n T a,T.filter fun x => decide (x∉lft W n T a))::eat W n k (lft W n T a) (aft W n T a) := by
        show (if T = [] then [] else _) = _
        rw [if_neg hT]
      rw [e]
      refine ⟨fun x => ?_,?_,fun h hh => ?_⟩
      · have e1 : (List.range n).map (fun h => shr ((tgs W n T,spn W n T a,T.filter fun x => decide (x∉lft W n T a))::eat W n k (lft W n T a) (aft W n T a)) h x) = (List.range n).map fun h => (if (tgs W n T).getD h 0 = x then spn W n T a else 0) + shr (eat W n k (lft W n T a) (aft W n T a)) h x := List.map_congr_left fun h _ => shr_cons _ _ _ _
        rw [e1,zfh,i1 x,zit,zmd]
        have hle := spn_mul (W := W) (n := n) (T := T) (a := a) x
        by_cases hx : x∈T
        · rw [if_pos hx]
          by_cases hl : x∈lft W n T a
          · rw [if_pos hl]; unfold aft; omega
          · rw [if_neg hl]
            have : aft W n T a x = 0 := Classical.byContradiction fun z => hl (List.mem_filter.mpr ⟨hx,by simpa using z⟩)
            unfold aft at this; omega
        · rw [if_neg hx,if_neg (show x∉lft W n T a from fun z => hx (List.mem_filter.mp z).1)]
          have : (tgs W n T).count x = 0 := List.count_eq_zero.mpr fun z => hx (tgs_mem R S hT z)
          rw [this]; simp
      · rw [tot_cons,Nat.mul_add,i2]
        have h1 : ((lft W n T a).map (aft W n T a)).sum = (T.map (aft W n T a)).sum := zdA _ _
        have h2 : (T.map a).sum = (T.map fun x => aft W n T a x + (tgs W n T).count x * spn W n T a).sum := by
          congr 1
          refine List.map_congr_left fun x _ => ?_
          have hle := spn_mul (W := W) (n := n) (T := T) (a := a) x
          unfold aft; omega
        rw [h1,h2,zfh,zis,zmh _ T S.nd (fun x hx => tgs_mem R S hT hx),tgs_len]
        show n * spn W n T a + _ = _
        omega
      · have e1 : (List.range n).map (fun x => shr ((tgs W n T,spn W n T a,T.filter fun x => decide (x∉lft W n T a))::eat W n k (lft W n T a) (aft W n T a)) h x) = (List.range n).map fun x => (if best (W h) T = x then spn W n T a else 0) + shr (eat W n k (lft W n T a) (aft W n T a)) h x := List.map_congr_left fun x _ => by
          rw [shr_cons]
          show (if (tgs W n T).getD h 0 = x then _ else _) + _ = _
          rw [ziq hh]
        rw [e1,zfh,i3 h hh,zir _ _ _ List.nodup_range,if_pos (List.mem_range.mpr (S.lt _ (zio R S hT hh))),tot_cons]
theorem Ok.init (R : Rw W n) : Ok n (List.range n) fun _ => Fq.DD :=
  ⟨List.nodup_range,fun x hx => List.mem_range.mp hx,fun _ _ => Fq.DD_pos,fun _ _ => by
    rw [List.length_range]
    exact Nat.pow_dvd_pow 420 R.n7⟩
theorem eat_tot (R : Rw W n) {k : Nat} (hk : n≤k) : tot (eat W n k (List.range n) fun _ => Fq.DD) = Fq.DD := by
  have h := (zgX R k (List.range n) (fun _ => Fq.DD) (Ok.init R) (by simpa using hk)).2.1
  have e : ((List.range n).map fun _ => Fq.DD).sum = n * Fq.DD := by rw [zcE,List.length_range]
  rw [e] at h
  exact Nat.eq_of_mul_eq_mul_left R.n1 h
end Et
end
section
namespace Et
open Rg Fq
structure Co (W : Nat→List Nat) (n : Nat) (co : Nat→Nat) (own : Nat→List Nat) : Prop where
  pre : ∀ h,h < n→∃ rest,W h = own (co h)++rest
  nd : ∀ h,h < n→(own (co h)).Nodup
  dis : ∀ h g,h < n→g < n→∀ x,x∈own (co h)→x∈own (co g)→co h = co g
  sz : ∀ h,h < n→(own (co h)).length = (List.range n).countP fun g => decide (co g = co h)
  cov : ∀ x,x < n→∃ h,h < n∧x∈own (co h)
  lt : ∀ h,h < n→∀ x∈own (co h),x < n
structure At (o : List Nat) (T : List Nat) (a : Nat→Nat) (u k : Nat) : Prop where
  iff : ∀ x∈o,(x∈T↔x∈o.drop k)
  full : ∀ x∈o.drop (k + 1),a x = DD
  sum : ((o.drop k).map a).sum = o.length * u
noncomputable def CI (n : Nat) (co : Nat→Nat) (own : Nat→List Nat) (T : List Nat) (a : Nat→Nat) (u : Nat) : Prop := ∀ h,h < n→∃ k,At (own (co h)) T a u k
variable {W : Nat → List Nat} {n : Nat} {co : Nat → Nat} {own : Nat → List Nat} {T : List Nat} {a : Nat → Nat} {u k : Nat} {o : List Nat}
theorem At.lt (A : At o T a u k) (ho : 0 < o.length) (hu : 0 < u) : k < o.length := by
  refine Nat.lt_of_not_le fun h => ?_
  have := A.sum
  rw [List.drop_eq_nil_of_le h] at this
  have hp : 0 < o.length * u := Nat.mul_pos ho hu
  simp at this
  omega
theorem At.best (A : At o T a u k) (nd : o.Nodup) (hk : k < o.length) (rest : List Nat) : best (o++rest) T = o[k] := by
  have e : o = o.take k++o[k]::o.drop (k + 1) := by rw [← List.drop_eq_getElem_cons hk,List.take_append_drop]
  have hin : o[k]∈T := (A.iff _ (List.getElem_mem hk)).mpr (by rw [List.drop_eq_getElem_cons hk]; exact List.mem_cons_self)
  have hno : ∀ x∈o.take k,x∉T := fun x hx hT => by
    have h1 := (A.iff x (List.mem_of_mem_take hx)).mp hT
    have hd : (o.take k++o.drop k).Nodup := by rw [List.take_append_drop]; exact nd
    exact (List.nodup_append.mp hd).2.2 x hx x h1 rfl
  unfold Rg.best
  conv => lhs; rw [e]
  rw [List.append_assoc,List.find?_append,List.find?_eq_none.mpr (fun x hx => by simpa using hno x hx)]
  rw [List.cons_append,List.find?_cons_of_pos (by simpa using hin)]; rfl
theorem CI.best (C : Co W n co own) (I : CI n co own T a u) (hu : 0 < u) {h : Nat} (hh : h < n) : ∃ k,∃ hk : k < (own (co h)).length,At (own (co h)) T a u k∧∀ g,g < n→co g = co h→best (W g) T = (own (co h))[k] := by
  obtain ⟨k,A⟩ := I h hh
  have ho : 0 < (own (co h)).length := by
    rw [C.sz h hh]
    exact List.countP_pos_iff.mpr ⟨h,List.mem_range.mpr hh,by simp⟩
  have hk := A.lt ho hu
  refine ⟨k,hk,A,fun g hg e => ?_⟩
  obtain ⟨rest,er⟩ := C.pre g hg
  rw [er,e]
  exact A.best (C.nd h hh) hk rest
theorem zme (C : Co W n co own) (I : CI n co own T a u) (hu : 0 < u) {h : Nat} (hh : h < n) : ∃ k,∃ hk : k < (own (co h)).length,At (own (co h)) T a u k∧(∀ g,g < n→co g = co h→best (W g) T = (own (co h))[k]) ∧
    ∀ x∈own (co h),(tgs W n T).count x = if x = (own (co h))[k] then (own (co h)).length else 0 := by
  obtain ⟨k,hk,A,hb⟩ := CI.best C I hu hh
  refine ⟨k,hk,A,hb,fun x hx => ?_⟩
  unfold tgs
  rw [List.count_eq_countP,List.countP_map]
  by_cases e : x = (own (co h))[k]
  · rw [if_pos e,C.sz h hh]
    refine List.countP_congr fun g hg => ?_
    have hg := List.mem_range.mp hg
    simp only [Function.comp_apply,beq_iff_eq,decide_eq_true_eq]
    constructor
    · intro hbg
      obtain ⟨kg,hkg,_,hbg'⟩ := CI.best C I hu hg
      have : (own (co g))[kg] = x := by rw [← hbg' g hg rfl]; exact hbg
      exact C.dis g h hg hh x (by rw [← this]; exact List.getElem_mem hkg) hx
    · intro hc
      rw [hb g hg hc]; exact e.symm
  · rw [if_neg e]
    refine List.countP_eq_zero.mpr fun g hg => ?_
    have hg := List.mem_range.mp hg
    simp only [Function.comp_apply,beq_iff_eq]
    intro hbg
    obtain ⟨kg,hkg,_,hbg'⟩ := CI.best C I hu hg
    have h1 : (own (co g))[kg] = x := by rw [← hbg' g hg rfl]; exact hbg
    have hc := C.dis g h hg hh x (by rw [← h1]; exact List.getElem_mem hkg) hx
    exact e (by rw [← hbg]; exact hb g hg hc)
theorem At.next (C : Co W n co own) (I : CI n co own T a u) (hu : 0 < u) {h : Nat} (hh : h < n) : spn W n T a≤u∧∃ k,∃ hk : k < (own (co h)).length,(∀ g,g < n→co g = co h→Rg.best (W g) T = (own (co h))[k])∧(∀ x∈own (co h),(tgs W n T).count x = if x = (own (co h))[k] then (own (co h)).length else 0) ∧
    ((aft W n T a (own (co h))[k]≠0∧At (own (co h)) (lft W n T a) (aft W n T a) (u - spn W n T a) k)∨(aft W n T a (own (co h))[k] = 0∧At (own (co h)) (lft W n T a) (aft W n T a) (u - spn W n T a) (k + 1)∧(own (co h)).length * (u - spn W n T a) = ((own (co h)).length - (k + 1)) * DD)) := by
  obtain ⟨k,hk,A,hb,hc⟩ := zme C I hu hh
  have nd := C.nd h hh
  generalize own (co h) = o at *
  generalize hs : spn W n T a = s
  have hd : o.drop k = o[k]::o.drop (k + 1) := List.drop_eq_getElem_cons hk
  have hm : o.length * s≤a o[k] := by
    have := spn_mul (W := W) (n := n) (T := T) (a := a) o[k]
    rw [hc _ (List.getElem_mem hk),if_pos rfl,hs] at this
    exact this
  have hsum : a o[k] + ((o.drop (k + 1)).map a).sum = o.length * u := by
    have := A.sum
    rw [hd,List.map_cons,List.sum_cons] at this; exact this
  have ho : 0 < o.length := by omega
  have hsu : s≤u := Nat.le_of_mul_le_mul_left (by omega : o.length * s≤o.length * u) ho
  have hne : ∀ x∈o.drop (k + 1),x≠o[k] := fun x hx e => by
    have h1 : (o[k]::o.drop (k + 1)).Nodup := by rw [← hd]; exact (List.drop_sublist k o).nodup nd
    exact (List.nodup_cons.mp h1).1 (e ▸ hx)
  have aft_r : ∀ x∈o.drop (k + 1),aft W n T a x = a x := fun x hx => by
    unfold aft
    rw [hc x (List.mem_of_mem_drop hx),if_neg (hne x hx)]; simp
  have aft_0 : aft W n T a o[k] = a o[k] - o.length * s := by
    unfold aft
    rw [hc _ (List.getElem_mem hk),if_pos rfl,hs]
  have sum_r : ((o.drop (k + 1)).map (aft W n T a)).sum = ((o.drop (k + 1)).map a).sum := by
    rw [List.map_congr_left aft_r]
  have hmul : o.length * (u - s) = o.length * u - o.length * s := Nat.mul_sub _ _ _
  have inl : ∀ x,x∈lft W n T a↔x∈T∧aft W n T a x≠0 := fun x => by unfold lft; rw [List.mem_filter]; simp
  have pos : DD≠0 := by have := DD_pos; omega
  refine ⟨hsu,k,hk,hb,hc,?_⟩
  by_cases hz : aft W n T a o[k] = 0
  · refine .inr ⟨hz,⟨fun x hx => ?_,fun x hx => ?_,?_⟩,?_⟩
    · rw [inl,A.iff x hx,hd,List.mem_cons]
      constructor
      · rintro ⟨e | e,h0⟩
        · subst e; exact absurd hz h0
        · exact e
      · intro e
        exact ⟨.inr e,by rw [aft_r x e,A.full x e]; exact pos⟩
    · have h1 : x∈o.drop (k + 1) := by
        rw [show k + 1 + 1 = 1 + (k + 1) by omega,← List.drop_drop] at hx
        exact List.mem_of_mem_drop (by simpa [Nat.add_comm] using hx)
      rw [aft_r x h1]; exact A.full x h1
    · rw [sum_r,hmul]
      rw [aft_0] at hz
      omega
    · have e1 : ((o.drop (k + 1)).map a).sum = (o.length - (k + 1)) * DD := by
        rw [List.map_congr_left (g := fun _ => DD) A.full,zcE,List.length_drop]
      rw [hmul,← e1]
      rw [aft_0] at hz
      omega
  · refine .inl ⟨hz,⟨fun x hx => ?_,fun x hx => ?_,?_⟩⟩
    · rw [inl,A.iff x hx]
      refine ⟨fun z => z.1,fun z => ⟨z,?_⟩⟩
      rw [hd,List.mem_cons] at z
      rcases z with e | e
      · subst e; exact hz
      · rw [aft_r x e,A.full x e]; exact pos
    · rw [aft_r x hx]; exact A.full x hx
    · rw [hd,List.map_cons,List.sum_cons,sum_r,aft_0,hmul]
      omega
theorem CI.next (C : Co W n co own) (I : CI n co own T a u) (hu : 0 < u) : CI n co own (lft W n T a) (aft W n T a) (u - spn W n T a) := fun h hh => by
  obtain ⟨_,k,hk,_,_,z | z⟩ := At.next C I hu hh
  · exact ⟨k,z.2⟩
  · exact ⟨k + 1,z.2.1⟩
theorem CI.init (C : Co W n co own) : CI n co own (List.range n) (fun _ => DD) DD := fun h hh => by
  refine ⟨0,fun x hx => ?_,fun _ _ => rfl,?_⟩
  · rw [List.drop_zero]
    exact ⟨fun _ => hx,fun _ => List.mem_range.mpr (C.lt h hh x hx)⟩
  · rw [List.drop_zero,zcE]
theorem zlV {f : Nat→Nat} : ∀ {l : List Nat} {x : Nat},x∈l→f x≤(l.map f).sum
  | y::l,x,h => by
    rw [List.map_cons,List.sum_cons]
    rcases List.mem_cons.mp h with rfl | h
    · omega
    · have := zlV (f := f) h; omega
theorem CI.pos (C : Co W n co own) (I : CI n co own T a u) (S : Ok n T a) (hT : T≠[]) : 0 < u := by
  refine Nat.pos_of_ne_zero fun e => ?_
  subst e
  obtain ⟨x,hx⟩ := List.exists_mem_of_ne_nil T hT
  obtain ⟨h,hh,hxo⟩ := C.cov x (S.lt x hx)
  obtain ⟨k,A⟩ := I h hh
  have h1 := (A.iff x hxo).mp hx
  have h2 : a x≤(((own (co h)).drop k).map a).sum := zlV h1
  have h3 := S.pos x hx
  rw [A.sum] at h2
  simp at h2
  omega
theorem zgn (k : Nat) (hT : T≠[]) : eat W n (k + 1) T a = (tgs W n T,spn W n T a,T.filter fun x => decide (x∉lft W n T a))::eat W n k (lft W n T a) (aft W n T a) := by
  show (if T = [] then [] else _) = _
  rw [if_neg hT]
theorem zhE (R : Rw W n) (C : Co W n co own) : ∀ (k : Nat) (T : List Nat) (a : Nat→Nat) (u : Nat),Ok n T a→CI n co own T a u →
    (∀ h,h < n→∀ x,0 < shr (eat W n k T a) h x→x∈own (co h))∧∀ h g,h < n→g < n→co h = co g→∀ x,shr (eat W n k T a) h x = shr (eat W n k T a) g x
  | 0,T,a,u,S,I => ⟨fun h _ x z => absurd z (by show ¬ 0 < 0; omega),fun _ _ _ _ _ _ => rfl⟩
  | k + 1,T,a,u,S,I => by
    by_cases hT : T = []
    · subst hT
      exact ⟨fun h _ x z => absurd z (by show ¬ 0 < 0; omega),fun _ _ _ _ _ _ => rfl⟩
    · have hu := CI.pos C I S hT
      obtain ⟨i1,i2⟩ := zhE R C k _ _ _ (S.next R hT) (CI.next C I hu)
      rw [zgn k hT]
      refine ⟨fun h hh x z => ?_,fun h g hh hg e x => ?_⟩
      · rw [shr_cons] at z
        by_cases hx : (tgs W n T).getD h 0 = x
        · obtain ⟨j,hj,_,hb⟩ := CI.best C I hu hh
          rw [ziq hh,hb h hh rfl] at hx
          rw [← hx]; exact List.getElem_mem hj
        · exact i1 h hh x (by simp only [if_neg hx] at z; omega)
      · rw [shr_cons,shr_cons,i2 h g hh hg e x]
        obtain ⟨j,hj,_,hb⟩ := CI.best C I hu hh
        show (if (tgs W n T).getD h 0 = x then _ else _) + _ = (if (tgs W n T).getD g 0 = x then _ else _) + _
        rw [ziq hh,ziq hg,hb h hh rfl,hb g hg e.symm]
theorem zhg (p : Nat→Bool) (v : Nat) : ∀ l : List Nat,(l.map fun g => if p g = true then v else 0).sum = l.countP p * v
  | [] => by simp
  | g::l => by
    rw [List.map_cons,List.sum_cons,zhg p v l,List.countP_cons]
    cases p g <;> simp <;> rw [Nat.add_mul] <;> omega
theorem comp_tab (R : Rw W n) (C : Co W n co own) {k : Nat} (hk : n≤k) {h x : Nat} (hh : h < n) (hx : x < n) : (x∈own (co h)→(own (co h)).length * shr (eat W n k (List.range n) fun _ => DD) h x = DD)∧(x∉own (co h)→shr (eat W n k (List.range n) fun _ => DD) h x = 0) := by
  obtain ⟨i1,i2⟩ := zhE R C k _ _ _ (Ok.init R) (CI.init C)
  refine ⟨fun hm => ?_,fun hm => ?_⟩
  · have hs := (zgX R k _ _ (Ok.init R) (by simpa using hk)).1 x
    rw [if_pos (List.mem_range.mpr hx)] at hs
    have e : ∀ g∈List.range n,shr (eat W n k (List.range n) fun _ => DD) g x = if decide (co g = co h) = true then shr (eat W n k (List.range n) fun _ => DD) h x else 0 := fun g hg => by
      have hg := List.mem_range.mp hg
      by_cases e : co g = co h
      · rw [if_pos (by simpa using e)]; exact i2 g h hg hh e x
      · rw [if_neg (by simpa using e)]
        refine Nat.eq_zero_of_not_pos fun z => e (C.dis g h hg hh x (i1 g hg x z) hm)
    rw [List.map_congr_left e,zhg,← C.sz h hh] at hs
    exact hs
  · exact Nat.eq_zero_of_not_pos fun z => hm (i1 h hh x z)
noncomputable def logE : Nat→List (List Nat × Nat × List Nat)→List (Nat × List Nat)
  | _,[] => []
  | s,p::ms => (s + p.2.1,p.2.2)::logE (s + p.2.1) ms
theorem ziz (R : Rw W n) (S : Ok n T a) (hT : T≠[]) : 0 < spn W n T a := by
  obtain ⟨x,hx,e⟩ := spn_at (W := W) (n := n) (T := T) (a := a) R
  obtain ⟨hd,hp⟩ := cnt_dvd R S hT hx
  rw [e]
  exact Nat.div_pos (Nat.le_of_dvd (S.pos x (tgs_mem R S hT hx)) hd) hp
theorem zpQ (x : Nat) : aft W n T a x≤a x := Nat.sub_le _ _
theorem log_comp (R : Rw W n) (C : Co W n co own) : ∀ (k : Nat) (T : List Nat) (a : Nat→Nat) (u s : Nat),Ok n T a→CI n co own T a u→(∀ x,a x≤DD)→s + u = DD→∀ e∈logE s (eat W n k T a),s < e.1∧e.1≤DD∧e.2≠[]∧(∀ x,x∈e.2→x∈T) ∧
    ∀ x,x∈e.2↔∃ h,h < n∧∃ j,(own (co h))[j]? = some x∧(own (co h)).length * e.1 = (j + 1) * DD
  | 0,T,a,u,s,_,_,_,_ => fun e he => by cases he
  | k + 1,T,a,u,s,S,I,ha,hsu => by
    by_cases hT : T = []
    · subst hT
      exact fun e he => by cases he
    have hu := CI.pos C I S hT
    have hp := ziz R S hT
    obtain ⟨h0,hh0,_⟩ := C.cov 0 R.n1
    have hle := (At.next C I hu hh0).1
    rw [zgn k hT]
    intro e he
    have he' : e = (s + spn W n T a,T.filter fun x => decide (x∉lft W n T a))∨e∈logE (s + spn W n T a) (eat W n k (lft W n T a) (aft W n T a)) := List.mem_cons.mp he
    rcases he' with rfl | he'
    · have gone : ∀ x,x∈T.filter (fun x => decide (x∉lft W n T a))↔x∈T∧aft W n T a x = 0 := fun x => by
        rw [List.mem_filter]
        unfold lft
        simp only [List.mem_filter,decide_eq_true_eq,not_and,Decidable.not_not]
        exact ⟨fun z => ⟨z.1,z.2 z.1⟩,fun z => ⟨z.1,fun _ => z.2⟩⟩
      have key : ∀ x,x∈T.filter (fun x => decide (x∉lft W n T a))↔∃ h,h < n∧∃ j,(own (co h))[j]? = some x∧(own (co h)).length * (s + spn W n T a) = (j + 1) * DD := fun x => by
        rw [gone]
        constructor
        · rintro ⟨hx,h0⟩
          obtain ⟨h,hh,hxo⟩ := C.cov x (S.lt x hx)
          obtain ⟨_,j,hj,hb,hc,z⟩ := At.next C I hu hh
          have ex : x = (own (co h))[j] := by
            refine Decidable.byContradiction fun ne => ?_
            have h1 : aft W n T a x = a x := by
              unfold aft
              rw [hc x hxo,if_neg ne]; simp
            have := S.pos x hx
            omega
          refine ⟨h,hh,j,by rw [ex]; exact List.getElem?_eq_getElem hj,?_⟩
          rcases z with z | ⟨_,_,z⟩
          · rw [← ex] at z; exact absurd h0 z.1
          · have e1 : (own (co h)).length * (s + spn W n T a) + (own (co h)).length * (u - spn W n T a) = (own (co h)).length * DD := by rw [← Nat.mul_add,← hsu]; congr 1; omega
            have e2 : ((own (co h)).length - (j + 1)) * DD + (j + 1) * DD = (own (co h)).length * DD := by rw [← Nat.add_mul]; congr 1; omega
            omega
        · rintro ⟨h,hh,i,hi,ht⟩
          obtain ⟨_,j,hj,hb,hc,z⟩ := At.next C I hu hh
          obtain ⟨kk,A⟩ := I h hh
          have e1 : (own (co h)).length * (s + spn W n T a) + (own (co h)).length * (u - spn W n T a) = (own (co h)).length * DD := by rw [← Nat.mul_add,← hsu]; congr 1; omega
          have e2 : ((own (co h)).length - (j + 1)) * DD + (j + 1) * DD = (own (co h)).length * DD := by rw [← Nat.add_mul]; congr 1; omega
          rcases z with ⟨z0,z⟩ | ⟨z0,z,z1⟩
          · exfalso
            have sm := z.sum
            rw [List.drop_eq_getElem_cons hj,List.map_cons,List.sum_cons] at sm
            have e3 : (((own (co h)).drop (j + 1)).map (aft W n T a)).sum = ((own (co h)).length - (j + 1)) * DD := by
              rw [List.map_congr_left (g := fun _ => DD) z.full,zcE,List.length_drop]
            rw [e3] at sm
            have hlt : aft W n T a (own (co h))[j] < DD := by
              have : aft W n T a (own (co h))[j] = a (own (co h))[j] - (own (co h)).length * spn W n T a := by
                unfold aft; rw [hc _ (List.getElem_mem hj),if_pos rfl]
              have h2 := ha (own (co h))[j]
              have h3 : 0 < (own (co h)).length * spn W n T a := Nat.mul_pos (by omega) hp
              have := DD_pos
              omega
            have e4 : (i + 1) * DD + aft W n T a (own (co h))[j] = (j + 1) * DD := by omega
            have h5 : (i + 1) * DD < (j + 1) * DD := by omega
            have h6 : i + 1 < j + 1 := Nat.lt_of_mul_lt_mul_right h5
            have h7 : (i + 1 + 1) * DD≤(j + 1) * DD := Nat.mul_le_mul_right _ h6
            rw [Nat.add_mul (i + 1) 1] at h7
            omega
          · have h5 : (i + 1) * DD = (j + 1) * DD := by omega
            have h6 : i + 1 = j + 1 := Nat.eq_of_mul_eq_mul_right DD_pos h5
            have h7 : i = j := by omega
            subst h7
            rw [List.getElem?_eq_getElem hj] at hi
            cases hi
            refine ⟨?_,z0⟩
            have := zio R S hT hh
            rw [hb h hh rfl] at this
            exact this
      refine ⟨by show s < s + _; omega,by show s + _≤DD; omega,?_,fun x hx => (List.mem_filter.mp hx).1,key⟩
      intro z
      have hl := lft_lt R S hT
      have : lft W n T a = T := by
        unfold lft
        refine List.filter_eq_self.mpr fun x hx => ?_
        rw [decide_eq_true_iff]
        intro h0
        have : x∈T.filter (fun x => decide (x∉lft W n T a)) := (gone x).mpr ⟨hx,h0⟩
        have z' : T.filter (fun x => decide (x∉lft W n T a)) = [] := z
        rw [z'] at this; cases this
      rw [this] at hl
      omega
    · obtain ⟨q1,q2,q3,q4,q5⟩ := log_comp R C k _ _ (u - spn W n T a) (s + spn W n T a) (S.next R hT) (CI.next C I hu) (fun x => Nat.le_trans (zpQ x) (ha x)) (by omega) e he'
      exact ⟨by omega,q2,q3,fun x hx => (List.mem_filter.mp (q4 x hx)).1,q5⟩
theorem log_all (R : Rw W n) : ∀ (k : Nat) (T : List Nat) (a : Nat→Nat) (s : Nat),Ok n T a→T.length≤k→∀ x∈T,∃ e∈logE s (eat W n k T a),x∈e.2
  | 0,T,a,s,S,hk => fun x hx => by rw [List.length_eq_zero_iff.mp (by omega : T.length = 0)] at hx; cases hx
  | k + 1,T,a,s,S,hk => fun x hx => by
    have hT : T≠[] := List.ne_nil_of_mem hx
    rw [zgn k hT]
    by_cases h : x∈lft W n T a
    · obtain ⟨e,he,hxe⟩ := log_all R k _ _ (s + spn W n T a) (S.next R hT) (by have := lft_lt R S hT; omega) x h
      exact ⟨e,List.mem_cons_of_mem _ he,hxe⟩
    · exact ⟨_,List.mem_cons_self,List.mem_filter.mpr ⟨hx,by simpa using h⟩⟩
theorem log_rise (R : Rw W n) : ∀ (k : Nat) (T : List Nat) (a : Nat→Nat) (s : Nat),Ok n T a→(logE s (eat W n k T a)).Pairwise (fun e f => e.1 < f.1)∧∀ e∈logE s (eat W n k T a),s < e.1
  | 0,T,a,s,S => ⟨.nil,fun e he => by cases he⟩
  | k + 1,T,a,s,S => by
    by_cases hT : T = []
    · subst hT; exact ⟨.nil,fun e he => by cases he⟩
    · have hp := ziz R S hT
      obtain ⟨i1,i2⟩ := log_rise R k _ _ (s + spn W n T a) (S.next R hT)
      rw [zgn k hT]
      refine ⟨List.Pairwise.cons i2 i1,fun e he => ?_⟩
      rcases List.mem_cons.mp he with rfl | he
      · exact Nat.lt_add_of_pos_right hp
      · have := i2 e he; omega
end Et
end
section
namespace Et
open Rg Fq
noncomputable def off (cs : List (List Nat)) (i : Nat) : Nat := (cs.take i).flatten.length
noncomputable def ownI (th : List Nat) (cs : List (List Nat)) (i : Nat) : List Nat := (th.drop (off cs i)).take (cs.getD i []).length
noncomputable def coI (cs : List (List Nat)) (h : Nat) : Nat := cs.findIdx fun z => decide (h∈z)
theorem zfr {cs : List (List Nat)} {i : Nat} (h : i < cs.length) : off cs (i + 1) = off cs i + (cs.getD i []).length := by
  unfold off
  rw [List.take_succ,List.flatten_append,List.length_append,List.getD_eq_getElem?_getD,List.getElem?_eq_getElem h]
  simp
theorem zlO {cs : List (List Nat)} {i : Nat} : ∀ j,off cs i≤off cs (i + j)
  | 0 => Nat.le_refl _
  | j + 1 => by
    have := zlO (cs := cs) (i := i) j
    by_cases h : i + j < cs.length
    · rw [← Nat.add_assoc,zfr h]; omega
    · have e : off cs (i + (j + 1)) = off cs (i + j) := by
        unfold off
        rw [List.take_of_length_le (by omega),List.take_of_length_le (by omega)]
      omega
theorem zgN (cs : List (List Nat)) : off cs cs.length = cs.flatten.length := by unfold off; rw [List.take_length]
theorem zhr {cs : List (List Nat)} {i j : Nat} (hi : i < cs.length) (h : i < j) : off cs i + (cs.getD i []).length≤off cs j := by
  rw [← zfr hi]
  have := zlO (cs := cs) (i := i + 1) (j - (i + 1))
  rw [show i + 1 + (j - (i + 1)) = j by omega] at this
  exact this
theorem zkR {cs : List (List Nat)} {p : Nat} (hp : p < cs.flatten.length) : ∃ i,i < cs.length∧off cs i≤p∧p < off cs i + (cs.getD i []).length := by
  have : ∀ j,j≤cs.length→p < off cs j→∃ i,i < cs.length∧off cs i≤p∧p < off cs i + (cs.getD i []).length := by
    intro j
    induction j with
    | zero => intro _ h; exact absurd h (by show ¬ p < 0; omega)
    | succ j ih =>
      intro hj h
      by_cases hq : p < off cs j
      · exact ih (by omega) hq
      · rw [zfr (by omega)] at h
        exact ⟨j,by omega,by omega,h⟩
  exact this cs.length (Nat.le_refl _) (by rw [zgN]; exact hp)
theorem zeu {th : List Nat} (nd : th.Nodup) {x a m : Nat} (hx : x∈(th.drop a).take m) : a≤th.idxOf x∧th.idxOf x < a + m∧x∈th := by
  obtain ⟨i,hi,e⟩ := List.mem_iff_getElem.mp hx
  have h1 : i < m := by rw [List.length_take] at hi; omega
  have h2 : a + i < th.length := by rw [List.length_take,List.length_drop] at hi; omega
  have e2 : th[a + i] = x := by rw [← e]; simp
  have : th.idxOf x = a + i := by rw [← e2]; exact nd.idxOf_getElem (a + i) h2
  exact ⟨by omega,by omega,List.mem_of_mem_drop (List.mem_of_mem_take hx)⟩
theorem ziB {th : List Nat} {x a m : Nat} (hx : x∈th) (h1 : a≤th.idxOf x) (h2 : th.idxOf x < a + m) : x∈(th.drop a).take m := by
  have hl := List.idxOf_lt_length_iff.mpr hx
  have e : th[th.idxOf x] = x := List.getElem_idxOf hl
  refine List.mem_iff_getElem.mpr ⟨th.idxOf x - a,by rw [List.length_take,List.length_drop]; omega,?_⟩
  rw [List.getElem_take,List.getElem_drop]
  simp only [show a + (th.idxOf x - a) = th.idxOf x by omega]
  exact e
structure Cut (n : Nat) (cs : List (List Nat)) (th : List Nat) : Prop where
  fl : cs.flatten.Perm (List.range n)
  ne : ∀ z∈cs,z≠[]
  th : th.Perm (List.range n)
variable {n : Nat} {cs : List (List Nat)} {th : List Nat}
theorem Cut.nd (C : Cut n cs th) : cs.flatten.Nodup := C.fl.nodup_iff.mpr List.nodup_range
theorem Cut.ln (C : Cut n cs th) : cs.flatten.length = n := by rw [C.fl.length_eq]; simp
theorem co_lt (C : Cut n cs th) {h : Nat} (hh : h < n) : ∃ hi : coI cs h < cs.length,h∈cs[coI cs h] := by
  have hm : h∈cs.flatten := C.fl.mem_iff.mpr (List.mem_range.mpr hh)
  obtain ⟨z,hz,hzh⟩ := List.mem_flatten.mp hm
  have hi : coI cs h < cs.length := List.findIdx_lt_length_of_exists ⟨z,hz,by simpa using hzh⟩
  refine ⟨hi,?_⟩
  have := List.findIdx_getElem (w := hi)
  have t : h∈cs[List.findIdx (fun z => decide (h∈z)) cs]'hi := by simpa using this
  exact t
theorem uniq : ∀ {cs : List (List Nat)},cs.flatten.Nodup→∀ {i j h : Nat} (hi : i < cs.length) (hj : j < cs.length),h∈cs[i]→h∈cs[j]→i = j
  | [],_,i,_,_,hi,_,_,_ => absurd hi (by simp)
  | z::cs,nd,i,j,h,hi,hj,h1,h2 => by
    rw [List.flatten_cons,List.nodup_append] at nd
    cases i with
    | zero =>
      cases j with
      | zero => rfl
      | succ j => exact absurd rfl (nd.2.2 h h1 h (List.mem_flatten.mpr ⟨_,List.getElem_mem (by simpa using hj),h2⟩))
    | succ i =>
      cases j with
      | zero => exact absurd rfl (nd.2.2 h h2 h (List.mem_flatten.mpr ⟨_,List.getElem_mem (by simpa using hi),h1⟩))
      | succ j => exact congrArg (· + 1) (uniq nd.2.1 (i := i) (j := j) (h := h) (by simpa using hi) (by simpa using hj) h1 h2)
theorem co_eq (C : Cut n cs th) {g i : Nat} (hg : g < n) (hi : i < cs.length) : coI cs g = i↔g∈cs[i] := by
  obtain ⟨h1,h2⟩ := co_lt C hg
  constructor
  · rintro rfl; exact h2
  · intro h; exact uniq C.nd h1 hi h2 h
theorem own_len (C : Cut n cs th) {i : Nat} (hi : i < cs.length) : (ownI th cs i).length = (cs[i]).length := by
  unfold ownI
  have h1 := zhr (cs := cs) hi hi
  rw [zgN,C.ln] at h1
  have h2 : th.length = n := by rw [C.th.length_eq]; simp
  rw [List.length_take,List.length_drop,List.getD_eq_getElem?_getD,List.getElem?_eq_getElem hi] at *
  simp only [Option.getD_some] at *
  omega
theorem znL {l : List (List Nat)} (h : l.flatten.Nodup) {i : Nat} (hi : i < l.length) : (l[i]).Nodup :=
  (List.sublist_flatten_of_mem (List.getElem_mem hi)).nodup h
theorem co_of (C : Cut n cs th) {W : Nat→List Nat} (hW : ∀ h,h < n→∃ rest,W h = ownI th cs (coI cs h)++rest) : Co W n (coI cs) (ownI th cs) where
  pre := hW
  nd := fun h hh => ((List.take_sublist _ _).trans (List.drop_sublist _ _)).nodup (C.th.nodup_iff.mpr List.nodup_range)
  dis := fun h g hh hg x h1 h2 => by
    obtain ⟨i1,_⟩ := co_lt C hh
    obtain ⟨i2,_⟩ := co_lt C hg
    have tn := C.th.nodup_iff.mpr List.nodup_range
    obtain ⟨a1,a2,_⟩ := zeu tn h1
    obtain ⟨b1,b2,_⟩ := zeu tn h2
    rcases Nat.lt_trichotomy (coI cs h) (coI cs g) with e | e | e
    · have := zhr i1 e; omega
    · exact e
    · have := zhr i2 e; omega
  sz := fun h hh => by
    obtain ⟨hi,_⟩ := co_lt C hh
    rw [own_len C hi,List.countP_eq_length_filter]
    have zn := znL C.nd hi
    have : ((List.range n).filter fun g => decide (coI cs g = coI cs h)).Perm cs[coI cs h] := by
      refine (List.perm_ext_iff_of_nodup (List.nodup_range.filter _) zn).mpr fun g => ?_
      rw [List.mem_filter,List.mem_range,decide_eq_true_iff]
      constructor
      · rintro ⟨a,b⟩; exact (co_eq C a hi).mp b
      · intro b
        have hg : g < n := List.mem_range.mp (C.fl.mem_iff.mp (List.mem_flatten.mpr ⟨_,List.getElem_mem hi,b⟩))
        exact ⟨hg,(co_eq C hg hi).mpr b⟩
    exact this.length_eq.symm
  cov := fun x hx => by
    have hm : x∈th := C.th.mem_iff.mpr (List.mem_range.mpr hx)
    have hl := List.idxOf_lt_length_iff.mpr hm
    have h2 : th.length = n := by rw [C.th.length_eq]; simp
    obtain ⟨i,hi,a1,a2⟩ := zkR (cs := cs) (p := th.idxOf x) (by rw [C.ln]; omega)
    have ne := C.ne cs[i] (List.getElem_mem hi)
    obtain ⟨g,hg⟩ := List.exists_mem_of_ne_nil _ ne
    have hgn : g < n := List.mem_range.mp (C.fl.mem_iff.mp (List.mem_flatten.mpr ⟨_,List.getElem_mem hi,hg⟩))
    refine ⟨g,hgn,?_⟩
    rw [(co_eq C hgn hi).mpr hg]
    exact ziB hm a1 a2
  lt := fun h hh x hx => by
    obtain ⟨_,_,hm⟩ := zeu (C.th.nodup_iff.mpr List.nodup_range) hx
    exact List.mem_range.mp (C.th.mem_iff.mp hm)
end Et
end
section
namespace Et
open Rg Fq
variable {W : Nat → List Nat} {n : Nat} {T : List Nat} {a : Nat → Nat}
theorem log_up : ∀ (k : Nat) (T : List Nat) (a : Nat→Nat) (s : Nat),T.Pairwise (· < ·)→∀ e∈logE s (eat W n k T a),e.2.Pairwise (· < ·)
  | 0,T,a,s,_ => fun e he => by cases he
  | k + 1,T,a,s,h => by
    by_cases hT : T = []
    · subst hT; exact fun e he => by cases he
    · rw [zgn k hT]
      intro e he
      rcases List.mem_cons.mp he with rfl | he
      · exact h.filter _
      · exact log_up k _ _ _ (h.filter _) e he
variable {cs : List (List Nat)} {th : List Nat}
theorem own_at (C : Cut n cs th) {i j : Nat} (hi : i < cs.length) (hj : j < (cs[i]).length) : (ownI th cs i)[j]? = some (th.getD (off cs i + j) 0) := by
  have h2 : th.length = n := by rw [C.th.length_eq]; simp
  have h1 := zhr (cs := cs) hi hi
  rw [zgN,C.ln] at h1
  have e : cs.getD i [] = cs[i] := by rw [List.getD_eq_getElem?_getD,List.getElem?_eq_getElem hi]; rfl
  rw [e] at h1
  unfold ownI
  rw [e,List.getElem?_take,if_pos hj,List.getElem?_drop,List.getD_eq_getElem?_getD,List.getElem?_eq_getElem (by omega)]
  rfl
theorem over_iff (C : Cut n cs th) {s p q : Nat} (hp : 0 < p) (hpq : p≤q) (e : p * DD = s * q) {x : Nat} :
    (∃ h,h < n∧∃ j,(ownI th cs (coI cs h))[j]? = some x∧(ownI th cs (coI cs h)).length * s = (j + 1) * DD)↔∃ i,∃ hi : i < cs.length,(p * cs[i].length) % q = 0∧x = th.getD (off cs i + p * cs[i].length / q - 1) 0 := by
  have hq : 0 < q := by omega
  constructor
  · rintro ⟨h,hh,j,h1,h2⟩
    obtain ⟨hi,_⟩ := co_lt C hh
    have hl := own_len C hi
    rw [hl] at h2
    have hj : j < (cs[coI cs h]).length := by rw [← hl]; exact (List.getElem?_eq_some_iff.mp h1).1
    rw [own_at C hi hj] at h1
    have e2 : p * (cs[coI cs h]).length = (j + 1) * q := by
      have : (p * (cs[coI cs h]).length) * DD = ((j + 1) * q) * DD := by
        calc (p * (cs[coI cs h]).length) * DD = (p * DD) * (cs[coI cs h]).length := by rw [Nat.mul_right_comm]
          _ = (s * q) * (cs[coI cs h]).length := by rw [e]
          _ = ((cs[coI cs h]).length * s) * q := by rw [Nat.mul_right_comm,Nat.mul_comm s]
          _ = ((j + 1) * DD) * q := by rw [h2]
          _ = ((j + 1) * q) * DD := by rw [Nat.mul_right_comm]
      exact Nat.eq_of_mul_eq_mul_right DD_pos this
    refine ⟨coI cs h,hi,by rw [e2]; exact Nat.mul_mod_left _ _,?_⟩
    rw [e2,Nat.mul_div_cancel _ hq]
    injection h1 with h1
    rw [← h1]; rfl
  · rintro ⟨i,hi,h1,h2⟩
    obtain ⟨g,hg⟩ := List.exists_mem_of_ne_nil _ (C.ne cs[i] (List.getElem_mem hi))
    have hgn : g < n := List.mem_range.mp (C.fl.mem_iff.mp (List.mem_flatten.mpr ⟨_,List.getElem_mem hi,hg⟩))
    have hco := (co_eq C hgn hi).mpr hg
    have hm : 0 < (cs[i]).length := List.length_pos_of_mem hg
    have hd := Nat.dvd_of_mod_eq_zero h1
    have hpos : 0 < p * (cs[i]).length / q := Nat.div_pos (Nat.le_of_dvd (Nat.mul_pos hp hm) hd) hq
    have hle : p * (cs[i]).length / q≤(cs[i]).length := Nat.div_le_of_le_mul (Nat.mul_le_mul_right _ hpq)
    have ed : p * (cs[i]).length / q * q = p * (cs[i]).length := Nat.div_mul_cancel hd
    generalize p * (cs[i]).length / q = c at *
    refine ⟨g,hgn,c - 1,?_,?_⟩
    · rw [hco,own_at C hi (by omega),h2]
      congr 2
      omega
    · rw [hco,own_len C hi,show c - 1 + 1 = c by omega]
      have : ((cs[i]).length * s) * q = (c * DD) * q := by
        calc ((cs[i]).length * s) * q = (s * q) * (cs[i]).length := by rw [Nat.mul_comm _ s,Nat.mul_right_comm]
          _ = (p * DD) * (cs[i]).length := by rw [e]
          _ = (p * (cs[i]).length) * DD := by rw [Nat.mul_right_comm]
          _ = (c * q) * DD := by rw [ed]
          _ = (c * DD) * q := by rw [Nat.mul_right_comm]
      exact Nat.eq_of_mul_eq_mul_right hq this
end Et
end
section
namespace Law
open PySem PySem.Spec PyProof.Rows L2 DL
noncomputable abbrev gv (i : Nat) : DL.FE := fun r => DL.getV r i
noncomputable abbrev ci (i : Int) : DL.FE := fun _ => .ok (.int i)
noncomputable abbrev q0 : List DL.Md := [.bw,.bw]
noncomputable abbrev q101 : List DL.Md := [.sh,.sh,.sh]
noncomputable abbrev q102 : List DL.Md := [.sh,.sh]
noncomputable abbrev q103 : List DL.Md := [.sh,.sh,.sh,.sh,.ow,.ow,.sh,.sh,.sh,.sh,.sh,.sh,.sh,.sh]
noncomputable abbrev q104 : List DL.Md := [.bw,.bw,.sh,.sh]
noncomputable abbrev q105 : List DL.Md := [.bw,.sh,.sh]
noncomputable abbrev q106 : List DL.Md := [.bw,.bw,.sh,.sh,.sh,.sh,.ow,.ow,.sh]
noncomputable abbrev q107 : List DL.Md := [.sh,.sh,.bw,.sh]
noncomputable abbrev q108 : List DL.Md := [.bw,.bw,.ow,.sh,.sh,.sh,.sh,.sh,.sh]
noncomputable abbrev q109 : List DL.Md := [.sh,.bw,.ow,.sh]
noncomputable abbrev q110 : List DL.Md := [.sh,.ow,.sh]
noncomputable abbrev q111 : List DL.Md := [.bw,.ow,.sh,.sh,.sh,.sh,.sh]
noncomputable abbrev q112 : List DL.Md := [.bw,.ow,.sh,.ow,.sh,.sh,.sh]
noncomputable abbrev q113 : List DL.Md := [.bw,.bw,.bw,.ow,.sh,.sh,.sh,.sh]
noncomputable abbrev q114 : List DL.Md := [.sh,.sh,.sh,.sh,.sh,.sh,.sh,.sh,.sh,.sh,.sh,.sh,.sh,.sh]
noncomputable abbrev q115 : List DL.Md := [.bw,.ow,.sh,.sh,.sh,.sh]
noncomputable abbrev q116 : List DL.Md := [.sh,.bw,.bw,.ow,.sh,.sh]
noncomputable abbrev q117 : List DL.Md := [.sh,.bw,.bw,.sh,.sh,.sh]
noncomputable abbrev q118 : List DL.Md := [.bw,.sh,.sh,.sh,.sh,.sh]
noncomputable abbrev q119 : List DL.Md := [.bw,.bw,.sh,.sh,.sh,.sh,.sh,.sh,.sh]
noncomputable abbrev q120 : List DL.Md := [.bw,.bw,.sh,.sh,.sh,.sh,.ow,.sh,.sh]
noncomputable abbrev q121 : List DL.Md := [.sh,.sh,.sh,.sh,.ow,.sh,.sh,.sh,.sh,.sh,.sh,.sh,.sh,.sh]
theorem zeU {α : Type} (us : List α) (h : us.length = 1) : ∃ a0,us = [a0] := by
  match us,h with
  | [_],_ => exact ⟨_,rfl⟩
theorem zdf {α : Type} (us : List α) (h : us.length = 2) : ∃ a0 a1,us = [a0,a1] := by
  match us,h with
  | [_,_],_ => exact ⟨_,_,rfl⟩
theorem zo7 {α : Type} (us : List α) (h : us.length = 3) : ∃ a0 a1 a2,us = [a0,a1,a2] := by
  match us,h with
  | [_,_,_],_ => exact ⟨_,_,_,rfl⟩
noncomputable def top (i : Nat) : Stmt := PySem.Challenge.pw_ringtrade_k28_eaten_shares_known.main.body.getD i (.Pass ⟨0,0,0,0⟩)
structure Txt (K : PySem.W.Frag) (mg : Str→Option Value) : Prop where
  b_range : mg "range" = none
  b_tuple : mg "tuple" = none
  b_len : mg "len" = none
  b_abs : mg "abs" = none
  b_isinstance : mg "isinstance" = none
  b_bool : mg "bool" = none
  b_int : mg "int" = none
  b_sorted : mg "sorted" = none
  b_zip : mg "zip" = none
  b_all : mg "all" = none
  k_NOUGHT : ∃ a,mg "NOUGHT" = some (.ref a)∧KC K a (.tup [.int 0,.int 1])
  k_ONE : ∃ a,mg "ONE" = some (.ref a)∧KC K a (.tup [.int 1,.int 1])
noncomputable abbrev zca : Stmt := top 35
noncomputable abbrev zcy : List Str := ["_law_cell_here","_law_row_here","_law_found","_law_one"]
noncomputable abbrev zbD : List Str := ["_law_cell_here","_law_row_here"]
theorem za0 : FnScope zcy zbD (zab zca) := ⟨rfl,rfl,rfl,by decide +kernel,rfl,by decide +kernel,by decide +kernel⟩
noncomputable def zba : FS :=
  (zkU (newR 2 (mkL (zac (f2 (gv 1) (ci 0) ixA) lNil))) (zkc (zgb (fSeq za7 (fSl (gv 1) (zfz (ci 1)) (fun _ => Res.ok none))) (ftN 3) (zcX (if2 (za1 (f2 (f2 (gv 0) (ci 3) modI) (ci 0) eqD)) (zcX (appR (mkL (zac (gv 3) lNil))) (fun r w => some (r,w))) (zcX (zhZ (f1 (ci 1) negI) (gv 3)) (fun r w => some (r,w)))) (zcX (embF (setF q107 0 (f2 (gv 0) (ci 3) zfy))) (fun r w => some (r,w))))) (zpF 2 (seqF (retF [.sh,.sh,.sh,.sh] (gv 2)) zap))))
noncomputable def za9 : List D→Res D := fun ds => outR false (zba (zar zcy.length ds))
theorem zh2 {P : Program} {w : World} {K : PySem.W.Frag} {mg : Str→Option Value} {base : Heap} (T : Txt K mg) (A : DefAt K mg "_law_companies" zca) : Callee P w K mg base "_law_companies" zbD [] 1 false q102 za9 := by
  refine zaL (k := 0) (fs := zba) (m' := [.sh,.sh,.sh,.sh]) A za0 rfl (fun _ _ _ _ _ _ us hl => by obtain ⟨u0,u1,rfl⟩ := zdf us hl; kernel_rfl) fun f cdv A outer s H g E hr => ?_
  have hu1 := zbl hr
  have hu64 := hr.units
  exact (znO (i := 2) (by rfl) (znZ 2 (m := [.sh,.sh,.sh,.sh]) (by decide) za0.nd (by rfl) (by first | exact Or.inl rfl | exact Or.inr rfl) (zeT (zaJ (zaH hu1 (vb_ 1) (SE.toB zam)) zbC)))
      (zkr (by rfl) (zoa PassesOwn.never rfl (fun _ => (zk4 (znW (vb_ 1) (zhq (SE.toB zam)) zlG))) (fun _ => (zaD 3 za0.nd (by rfl) (by first | exact Or.inl rfl | exact Or.inr rfl))) (zd7 (zqk (fun _ => (q_eq hu64 (SE.toB (zd2 (vb_ 0) (SE.toB zam))) (SE.toB zam))) (zd7 (zmq (by rfl) (zmW (by decide)) (by rfl) (by first | exact Or.inl rfl | exact Or.inr (Or.inl rfl) | exact Or.inr (Or.inr rfl)) (fun _ => (zeT (zaJ (v_ 3) zbC)))) zgC) (zd7 (zmp (by rfl) (zmW (by decide)) (by rfl) (by first | exact Or.inl rfl | exact Or.inr (Or.inl rfl) | exact Or.inr (Or.inr rfl)) (fun _ => (SE.toB (zn0 (SE.toB zam)))) (fun _ => (v_ 3))) zgC)) (zd7 (zob (ro := false) (mb := q107) (m := q107) (m' := q107) (fun _ => (zaV 0 za0.nd (by rfl) (by first | exact Or.inl rfl | exact Or.inr rfl) (ziH (vb_ 0) (SE.toB zam)))) (by rfl)) zgC)) (by rfl))
      (zmi (zaa (zbk (v_ 2))
      zaj) (zmW (by decide)))))
noncomputable abbrev zen : Stmt := top 31
noncomputable abbrev zfd : List Str := ["_law_cell_here","_law_m","_law_row_here","_law_thing"]
noncomputable abbrev zdJ : List Str := ["_law_cell_here","_law_m"]
theorem zcf : FnScope zfd zdJ (zab zen) := ⟨rfl,rfl,rfl,by decide +kernel,rfl,by decide +kernel,by decide +kernel⟩
noncomputable abbrev zd1 : FS :=
  (seqF (mutF "list" q109 2 (zac (f2 (gv 0) (f2 (gv 3) (ci 1) addA) modI) (zac (gv 3) lNil)) insD) (seqF (setF q109 0 (f2 (gv 0) (f2 (gv 3) (ci 1) addA) zfy)) zap))
noncomputable def zcV : FS :=
  (seqF (setF [.sh,.bw,.sh,.sh] 2 (mkL lNil)) (seqF (zcb q109 (fRng rng1 (zac (gv 1) lNil)) (ftN 3) zd1) (seqF (retF q109 (fC (zac (gv 2) lNil) tupD)) zap)))
noncomputable def zbe : List D→Res D := fun ds => outR false (zcV (zar zfd.length ds))
theorem zmS {P : Program} {w : World} {K : PySem.W.Frag} {mg : Str→Option Value} {base : Heap} (T : Txt K mg) (A : DefAt K mg "_law_row" zen) : Callee P w K mg base "_law_row" zdJ [] 1 false [.sh,.bw] zbe := by
  refine zaL (k := 0) (fs := zcV) (m' := q109) A zcf rfl (fun _ _ _ _ _ _ us hl => by obtain ⟨u0,u1,rfl⟩ := zdf us hl; kernel_rfl) fun f cdv A outer s H g E hr => ?_
  have hu1 := zbl hr
  have hu64 := hr.units
  exact (zaa (zcG 2 zcf.nd (by rfl) (by first | exact Or.inl rfl | exact Or.inr rfl) (zeT zbC))
      (zaa (zhS PassesOwn.never rfl (zci (by rfl) T.b_range (zav (vb_ 1) zaQ)) (zaD 3 zcf.nd (by rfl) (by first | exact Or.inl rfl | exact Or.inr rfl)) (zaa (zhR 2 rfl PySem.F.plainAttrs_list PySem.F.slot_list_insert PySem.F.type_list_insert zje zpj (by rfl) (by first | exact Or.inl rfl | exact Or.inr (Or.inl rfl) | exact Or.inr (Or.inr rfl)) (zaJ (zd2 (vb_ 0) (SE.toB (zbQ (vb_ 3) (SE.toB zam)))) (zaJ (v_ 3) zbC)))
      (zaa (zaV 0 zcf.nd (by rfl) (by first | exact Or.inl rfl | exact Or.inr rfl) (ziH (vb_ 0) (SE.toB (zbQ (vb_ 3) (SE.toB zam)))))
      zaj)))
      (zaa (zbk (zcg (by rfl) T.b_tuple (zav (vb_ 2) zaQ)))
      zaj)))
noncomputable abbrev zdL : Stmt := top 6
noncomputable abbrev zeI : List Str := ["wishes"]
noncomputable abbrev zbW : List Str := ["wishes"]
theorem zfW : FnScope zeI zbW (zab zdL) := ⟨rfl,rfl,rfl,by decide +kernel,rfl,by decide +kernel,by decide +kernel⟩
noncomputable def zcp : FS :=
  (seqF (retF [Md.bw] (fC (zac (f2 (gv 0) (ci 0) ixA) lNil) lenD)) zap)
noncomputable def zaR : List D→Res D := fun ds => outR false (zcp (zar zeI.length ds))
theorem zlI {P : Program} {w : World} {K : PySem.W.Frag} {mg : Str→Option Value} {base : Heap} (T : Txt K mg) (A : DefAt K mg "things_in" zdL) : Callee P w K mg base "things_in" zbW [] 1 false [Md.bw] zaR := by
  refine zaL (k := 0) (fs := zcp) (m' := [Md.bw]) A zfW rfl (fun _ _ _ _ _ _ us hl => by obtain ⟨u0,rfl⟩ := zeU us hl; kernel_rfl) fun f cdv A outer s H g E hr => ?_
  have hu1 := zbl hr
  have hu64 := hr.units
  exact (zaa (zbk (zdd (by rfl) T.b_len (zav (SE.toB (zaH hu1 (vb_ 0) (SE.toB zam))) zaQ)))
      zaj)
noncomputable abbrev zdN : Stmt := top 7
noncomputable abbrev zeK : List Str := ["wishes"]
noncomputable abbrev zdj : List Str := ["wishes"]
theorem zfX : FnScope zeK zdj (zab zdN) := ⟨rfl,rfl,rfl,by decide +kernel,rfl,by decide +kernel,by decide +kernel⟩
noncomputable def zcr : FS :=
  (seqF (retF [Md.bw] (f2 (zau (zac (gv 0) lNil) [] zaR) (fC (zac (gv 0) lNil) lenD) eqD)) zap)
noncomputable def zco : List D→Res D := fun ds => outR false (zcr (zar zeK.length ds))
theorem zlK {P : Program} {w : World} {K : PySem.W.Frag} {mg : Str→Option Value} {base : Heap} (T : Txt K mg) (A : DefAt K mg "is_square" zdN) (c_things_in : Callee P w K mg base "things_in" zbW [] 1 false [Md.bw] zaR) : Callee P w K mg base "is_square" zdj [] 2 false [Md.bw] zco := by
  refine zaL (k := 1) (fs := zcr) (m' := [Md.bw]) A zfX rfl (fun _ _ _ _ _ _ us hl => by obtain ⟨u0,rfl⟩ := zeU us hl; kernel_rfl) fun f cdv A outer s H g E hr => ?_
  have hu1 := zbl hr
  have hu64 := hr.units
  exact (zaa (zbk (s_eq hu64 (SE.toB (zat (dds := []) c_things_in (hr.mono (by decide)) (m_bw (vb_ 0) zaK))) (SE.toB (zdd (by rfl) T.b_len (zav (vb_ 0) zaQ)))))
      zaj)
noncomputable abbrev zbh : Stmt := top 8
noncomputable abbrev zbo : List Str := ["wishes"]
noncomputable abbrev zaT : List Str := ["wishes"]
theorem zce : FnScope zbo zaT (zab zbh) := ⟨rfl,rfl,rfl,by decide +kernel,rfl,by decide +kernel,by decide +kernel⟩
noncomputable def zaw : FS :=
  (seqF (ifF [Md.bw] (fNot (fTru (zau (zac (gv 0) lNil) [] zco))) (seqF (fun _ => Out.stuck) zap) zap) zap)
noncomputable def zaG : List D→Res D := fun ds => outR false (zaw (zar zbo.length ds))
theorem zfq {P : Program} {w : World} {K : PySem.W.Frag} {mg : Str→Option Value} {base : Heap} (T : Txt K mg) (A : DefAt K mg "refuse_unless_square" zbh) (c_is_square : Callee P w K mg base "is_square" zdj [] 2 false [Md.bw] zco) : Callee P w K mg base "refuse_unless_square" zaT [] 3 false [Md.bw] zaG := by
  refine zaL (k := 2) (fs := zaw) (m' := [Md.bw]) A zce rfl (fun _ _ _ _ _ _ us hl => by obtain ⟨u0,rfl⟩ := zeU us hl; kernel_rfl) fun f cdv A outer s H g E hr => ?_
  have hu1 := zbl hr
  have hu64 := hr.units
  exact (zaa (s_if (zkD (zhY (SE.toB (zat (dds := []) c_is_square (hr.mono (by decide)) (m_bw (vb_ 0) zaK))))) (zaa ziG
      zaj)
      zaj)
      zaj)
noncomputable abbrev ziw : Stmt := top 19
noncomputable abbrev zl9 : List Str := ["a","b"]
noncomputable abbrev zkg : List Str := ["a","b"]
theorem zmm : FnScope zl9 zkg (zab ziw) := ⟨rfl,rfl,rfl,by decide +kernel,rfl,by decide +kernel,by decide +kernel⟩
noncomputable def zma : FS :=
  (seqF (retF q0 (f2 (f2 (f2 (gv 0) (ci 0) ixA) (f2 (gv 1) (ci 1) ixA) mulW) (f2 (f2 (gv 1) (ci 0) ixA) (f2 (gv 0) (ci 1) ixA) mulW) ltI)) zap)
noncomputable def zgA : List D→Res D := fun ds => outR false (zma (zar zl9.length ds))
theorem zqv {P : Program} {w : World} {K : PySem.W.Frag} {mg : Str→Option Value} {base : Heap} (T : Txt K mg) (A : DefAt K mg "less" ziw) : Callee P w K mg base "less" zkg [] 1 false q0 zgA := by
  refine zaL (k := 0) (fs := zma) (m' := q0) A zmm rfl (fun _ _ _ _ _ _ us hl => by obtain ⟨u0,u1,rfl⟩ := zdf us hl; kernel_rfl) fun f cdv A outer s H g E hr => ?_
  have hu1 := zbl hr
  have hu64 := hr.units
  exact (zaa (zbk (s_lt (SE.toB (zcw (SE.toB (zaH hu1 (vb_ 0) (SE.toB zam))) (SE.toB (zaH hu1 (vb_ 1) (SE.toB zam))))) (SE.toB (zcw (SE.toB (zaH hu1 (vb_ 1) (SE.toB zam))) (SE.toB (zaH hu1 (vb_ 0) (SE.toB zam)))))))
      zaj)
noncomputable abbrev zhk : Stmt := top 20
noncomputable abbrev zkj : List Str := ["shares","told","share"]
noncomputable abbrev zg9 : List Str := ["shares"]
theorem zd8 : FnScope zkj zg9 (zab zhk) := ⟨rfl,rfl,rfl,by decide +kernel,rfl,by decide +kernel,by decide +kernel⟩
noncomputable abbrev zgz : FS :=
  (seqF (ifF q105 (fTru (zau (zac (gv 2) (zac (gv 1) lNil)) [] zgA)) (seqF (setF q105 1 (gv 2)) zap) zap) zap)
noncomputable def zfN : FS :=
  (seqF (setF q105 1 (f2 (gv 0) (ci 0) ixA)) (seqF (zcb q105 (fSeq za7 (gv 0)) (ftN 2) zgz) (seqF (retF q105 (gv 1)) zap)))
noncomputable def zfI : List D→Res D := fun ds => outR false (zfN (zar zkj.length ds))
theorem zpZ {P : Program} {w : World} {K : PySem.W.Frag} {mg : Str→Option Value} {base : Heap} (T : Txt K mg) (A : DefAt K mg "least" zhk) (c_less : Callee P w K mg base "less" zkg [] 1 false q0 zgA) : Callee P w K mg base "least" zg9 [] 2 false [Md.bw] zfI := by
  refine zaL (k := 1) (fs := zfN) (m' := q105) A zd8 rfl (fun _ _ _ _ _ _ us hl => by obtain ⟨u0,rfl⟩ := zeU us hl; kernel_rfl) fun f cdv A outer s H g E hr => ?_
  have hu1 := zbl hr
  have hu64 := hr.units
  exact (zaa (zaV 1 zd8.nd (by rfl) (by first | exact Or.inl rfl | exact Or.inr rfl) (zaH hu1 (vb_ 0) (SE.toB zam)))
      (zaa (zn3 PassesOwn.never rfl (ze8 (vb_ 0)) (fun _ => (zaD 2 zd8.nd (by rfl) (by first | exact Or.inl rfl | exact Or.inr rfl))) (fun _ => (zaa (s_if (zhY (SE.toB (zat (dds := []) c_less (hr.mono (by decide)) (m_bw (vb_ 2) (m_bw (vb_ 1) zaK))))) (zaa (zaV 1 zd8.nd (by rfl) (by first | exact Or.inl rfl | exact Or.inr rfl) (v_ 2))
      zaj)
      zaj)
      zaj)))
      (zaa (zbk (v_ 1))
      zaj)))
noncomputable abbrev zbN : Stmt := top 14
noncomputable abbrev zb3 : List Str := ["one","other","rest"]
noncomputable abbrev zbj : List Str := ["one","other"]
theorem zaP : FnScope zb3 zbj (zab zbN) := ⟨rfl,rfl,rfl,by decide +kernel,rfl,by decide +kernel,by decide +kernel⟩
noncomputable abbrev zcY : FQ :=
  (za1 (f2 (gv 1) (ci 0) neD))
noncomputable abbrev zcZ : FS :=
  (seqF (setF q101 2 (f2 (gv 0) (gv 1) modI)) (seqF (setF q101 0 (gv 1)) (seqF (setF q101 1 (gv 2)) zap)))
noncomputable def zb6 : FS :=
  (seqF (zbf q101 zcY zcZ 1000) (seqF (retF q101 (fC (zac (gv 0) lNil) absD)) zap))
noncomputable def zaU : List D→Res D := fun ds => outR false (zb6 (zar zb3.length ds))
theorem zgM {P : Program} {w : World} {K : PySem.W.Frag} {mg : Str→Option Value} {base : Heap} (T : Txt K mg) (A : DefAt K mg "greatest_divisor" zbN) : Callee P w K mg base "greatest_divisor" zbj [] 1 false q102 zaU := by
  refine zaL (k := 0) (fs := zb6) (m' := q101) A zaP rfl (fun _ _ _ _ _ _ us hl => by obtain ⟨u0,u1,rfl⟩ := zdf us hl; kernel_rfl) fun f cdv A outer s H g E hr => ?_
  have hu1 := zbl hr
  have hu64 := hr.units
  exact (zaa (zgF 1000 PassesOwn.never (q_ne hu64 (vb_ 1) (SE.toB zam)) (zaa (zaV 2 zaP.nd (by rfl) (by first | exact Or.inl rfl | exact Or.inr rfl) (zd2 (vb_ 0) (vb_ 1)))
      (zaa (zaV 0 zaP.nd (by rfl) (by first | exact Or.inl rfl | exact Or.inr rfl) (v_ 1))
      (zaa (zaV 1 zaP.nd (by rfl) (by first | exact Or.inl rfl | exact Or.inr rfl) (v_ 2))
      zaj))))
      (zaa (zbk (zn8 (by rfl) T.b_abs (zav (vb_ 0) zaQ)))
      zaj))
noncomputable abbrev zel : Stmt := top 5
noncomputable abbrev zfb : List Str := ["value"]
noncomputable abbrev zdI : List Str := ["value"]
theorem zgE : FnScope zfb zdI (zab zel) := ⟨rfl,rfl,rfl,by decide +kernel,rfl,by decide +kernel,by decide +kernel⟩
noncomputable def zfg : FS :=
  (seqF (retF [Md.bw] (vAnd (f1 (gv 0) (isiD "int")) (vNot (f1 (gv 0) (isiD "bool"))))) zap)
noncomputable def zcd : List D→Res D := fun ds => outR false (zfg (zar zfb.length ds))
theorem zmQ {P : Program} {w : World} {K : PySem.W.Frag} {mg : Str→Option Value} {base : Heap} (T : Txt K mg) (A : DefAt K mg "is_whole" zel) : Callee P w K mg base "is_whole" zdI [] 1 false [Md.bw] zcd := by
  refine zaL (k := 0) (fs := zfg) (m' := [Md.bw]) A zgE rfl (fun _ _ _ _ _ _ us hl => by obtain ⟨u0,rfl⟩ := zeU us hl; kernel_rfl) fun f cdv A outer s H g E hr => ?_
  have hu1 := zbl hr
  have hu64 := hr.units
  exact (zaa (zbk (zn6 (zn1 "int" "int" rfl (zm5 _) (by rfl) T.b_isinstance (by rfl) T.b_int (vb_ 0)) (znY (zqg (zn1 "bool" "bool" rfl (zk0 _) (by rfl) T.b_isinstance (by rfl) T.b_bool (vb_ 0))))))
      zaj)
noncomputable abbrev zem : Stmt := top 15
noncomputable abbrev zfc : List Str := ["top","bottom","divisor"]
noncomputable abbrev zbt : List Str := ["top","bottom"]
theorem zdc : FnScope zfc zbt (zab zem) := ⟨rfl,rfl,rfl,by decide +kernel,rfl,by decide +kernel,by decide +kernel⟩
noncomputable def zcU : FS :=
  (seqF (ifF q101 (fOr (fNot (fTru (zau (zac (gv 0) lNil) [] zcd))) (fOr (fNot (fTru (zau (zac (gv 1) lNil) [] zcd))) (za1 (f2 (gv 1) (ci 0) eqD)))) (seqF (fun _ => Out.stuck) zap) zap) (seqF (setF q101 2 (zau (zac (gv 0) (zac (gv 1) lNil)) [] zaU)) (seqF (ifF q101 (za1 (f2 (gv 1) (ci 0) ltI)) (seqF (setF q101 2 (f1 (gv 2) negI)) zap) zap) (seqF (retF q101 (mkT (zac (f2 (gv 0) (gv 2) zgV) (zac (f2 (gv 1) (gv 2) zgV) lNil)))) zap))))
noncomputable def zax : List D→Res D := fun ds => outR false (zcU (zar zfc.length ds))
theorem zmR {P : Program} {w : World} {K : PySem.W.Frag} {mg : Str→Option Value} {base : Heap} (T : Txt K mg) (A : DefAt K mg "fraction" zem) (c_is_whole : Callee P w K mg base "is_whole" zdI [] 1 false [Md.bw] zcd) (c_greatest_divisor : Callee P w K mg base "greatest_divisor" zbj [] 1 false q102 zaU) : Callee P w K mg base "fraction" zbt [] 2 false q102 zax := by
  refine zaL (k := 1) (fs := zcU) (m' := q101) A zdc rfl (fun _ _ _ _ _ _ us hl => by obtain ⟨u0,u1,rfl⟩ := zdf us hl; kernel_rfl) fun f cdv A outer s H g E hr => ?_
  have hu1 := zbl hr
  have hu64 := hr.units
  exact (zaa (s_if (SW.toQ (q_or (zkD (zhY (SE.toB (zat (dds := []) c_is_whole (hr.mono (by decide)) (m_bw (vb_ 0) zaK))))) (q_or (zkD (zhY (SE.toB (zat (dds := []) c_is_whole (hr.mono (by decide)) (m_bw (vb_ 1) zaK))))) (zon (q_eq hu64 (vb_ 1) (SE.toB zam)))))) (zaa ziG
      zaj)
      zaj)
      (zaa (zaV 2 zdc.nd (by rfl) (by first | exact Or.inl rfl | exact Or.inr rfl) (zat (dds := []) c_greatest_divisor (hr.mono (by decide)) (m_sh (v_ 0) (m_sh (v_ 1) zaK))))
      (zaa (s_if (q_lt (vb_ 1) (SE.toB zam)) (zaa (zaV 2 zdc.nd (by rfl) (by first | exact Or.inl rfl | exact Or.inr rfl) (zn0 (vb_ 2)))
      zaj)
      zaj)
      (zaa (zbk (zeP (zaJ (zfl (vb_ 0) (vb_ 2)) (zaJ (zfl (vb_ 1) (vb_ 2)) zbC))))
      zaj))))
noncomputable abbrev zhi : Stmt := top 18
noncomputable abbrev zkh : List Str := ["a","b"]
noncomputable abbrev zfF : List Str := ["a","b"]
theorem zkv : FnScope zkh zfF (zab zhi) := ⟨rfl,rfl,rfl,by decide +kernel,rfl,by decide +kernel,by decide +kernel⟩
noncomputable def zfL : FS :=
  (seqF (retF q0 (zau (zac (f2 (f2 (gv 0) (ci 0) ixA) (f2 (gv 1) (ci 0) ixA) mulW) (zac (f2 (f2 (gv 0) (ci 1) ixA) (f2 (gv 1) (ci 1) ixA) mulW) lNil)) [] zax)) zap)
noncomputable def zcm : List D→Res D := fun ds => outR false (zfL (zar zkh.length ds))
theorem zpX {P : Program} {w : World} {K : PySem.W.Frag} {mg : Str→Option Value} {base : Heap} (T : Txt K mg) (A : DefAt K mg "times" zhi) (c_fraction : Callee P w K mg base "fraction" zbt [] 2 false q102 zax) : Callee P w K mg base "times" zfF [] 3 false q0 zcm := by
  refine zaL (k := 2) (fs := zfL) (m' := q0) A zkv rfl (fun _ _ _ _ _ _ us hl => by obtain ⟨u0,u1,rfl⟩ := zdf us hl; kernel_rfl) fun f cdv A outer s H g E hr => ?_
  have hu1 := zbl hr
  have hu64 := hr.units
  exact (zaa (zbk (zat (dds := []) c_fraction (hr.mono (by decide)) (m_sh (zcw (SE.toB (zaH hu1 (vb_ 0) (SE.toB zam))) (SE.toB (zaH hu1 (vb_ 1) (SE.toB zam)))) (m_sh (zcw (SE.toB (zaH hu1 (vb_ 0) (SE.toB zam))) (SE.toB (zaH hu1 (vb_ 1) (SE.toB zam)))) zaK))))
      zaj)
noncomputable abbrev zay : Stmt := top 22
noncomputable abbrev zaz : List Str := ["left","targets"]
noncomputable abbrev zaM : List Str := ["left","targets"]
theorem za6 : FnScope zaz zaM (zab zay) := ⟨rfl,rfl,rfl,by decide +kernel,rfl,by decide +kernel,by decide +kernel⟩
noncomputable def zaB : FS :=
  (seqF (retF q0 (zau (zac (zb8 1 [0,1] (fSeq za7 (gv 1)) (ftN 0) (fun _ => Res.ok true) (zau (zac (f2 (gv 1) (gv 0) ixA) (zac (zau (zac (ci 1) (zac (fM "list" (gv 2) (zac (gv 0) lNil) ze9) lNil)) [] zax) lNil)) [] zcm)) lNil) [] zfI)) zap)
noncomputable def zaA : List D→Res D := fun ds => outR false (zaB (zar zaz.length ds))
theorem zeR {P : Program} {w : World} {K : PySem.W.Frag} {mg : Str→Option Value} {base : Heap} (T : Txt K mg) (A : DefAt K mg "time_until_one_is_gone" zay) (c_fraction : Callee P w K mg base "fraction" zbt [] 2 false q102 zax) (c_times : Callee P w K mg base "times" zfF [] 3 false q0 zcm) (c_least : Callee P w K mg base "least" zg9 [] 2 false [Md.bw] zfI) : Callee P w K mg base "time_until_one_is_gone" zaM [] 4 false q0 zaA := by
  refine zaL (k := 3) (fs := zaB) (m' := q0) A za6 rfl (fun _ _ _ _ _ _ us hl => by obtain ⟨u0,u1,rfl⟩ := zdf us hl; kernel_rfl) fun f cdv A outer s H g E hr => ?_
  have hu1 := zbl hr
  have hu64 := hr.units
  exact (zaa (zbk (zat (dds := []) c_least (hr.mono (by decide)) (m_bw (SO.toB (zdU (X := (cxOf CX0 P w K mg base zaz "time_until_one_is_gone" (zab zay) f cdv A outer s H E).nox) (N' := ["thing","left","targets"]) (nl := 1) (cap := [0,1]) za6.nd rfl (zaX (osc := (zab zay)) (ON := zaz) rfl rfl (by decide +kernel)) (ze8 (vb_ 1)) (fun _ _ _ _ _ _ => (zaD 0 (show List.Nodup (["thing","left","targets"] : List Str) by decide +kernel) (by rfl) (by first | exact Or.inl rfl | exact Or.inr rfl))) (zcx (by decide)) (fun _ _ _ _ _ _ => zdR) (fun _ _ _ _ _ _ => (zat (dds := []) c_times (hr.mono (by decide)) (m_bw (SE.toB (zaH hu1 (vb_ 1) (vb_ 0))) (m_bw (SE.toB (zat (dds := []) c_fraction (hr.mono (by decide)) (m_sh zam (m_sh (s_bm PySem.F.plainAttrs_list PySem.F.slot_list_count PySem.F.type_list_count zga zgo (vb_ 2) (zav (vb_ 0) zaQ)) zaK)))) zaK)))))) zaK)))
      zaj)
noncomputable abbrev zhj : Stmt := top 17
noncomputable abbrev zki : List Str := ["a","b"]
noncomputable abbrev zg8 : List Str := ["a","b"]
theorem zkw : FnScope zki zg8 (zab zhj) := ⟨rfl,rfl,rfl,by decide +kernel,rfl,by decide +kernel,by decide +kernel⟩
noncomputable def zfM : FS :=
  (seqF (retF q0 (zau (zac (f2 (f2 (f2 (gv 0) (ci 0) ixA) (f2 (gv 1) (ci 1) ixA) mulW) (f2 (f2 (gv 1) (ci 0) ixA) (f2 (gv 0) (ci 1) ixA) mulW) subI) (zac (f2 (f2 (gv 0) (ci 1) ixA) (f2 (gv 1) (ci 1) ixA) mulW) lNil)) [] zax)) zap)
noncomputable def zeO : List D→Res D := fun ds => outR false (zfM (zar zki.length ds))
theorem zpY {P : Program} {w : World} {K : PySem.W.Frag} {mg : Str→Option Value} {base : Heap} (T : Txt K mg) (A : DefAt K mg "minus" zhj) (c_fraction : Callee P w K mg base "fraction" zbt [] 2 false q102 zax) : Callee P w K mg base "minus" zg8 [] 3 false q0 zeO := by
  refine zaL (k := 2) (fs := zfM) (m' := q0) A zkw rfl (fun _ _ _ _ _ _ us hl => by obtain ⟨u0,u1,rfl⟩ := zdf us hl; kernel_rfl) fun f cdv A outer s H g E hr => ?_
  have hu1 := zbl hr
  have hu64 := hr.units
  exact (zaa (zbk (zat (dds := []) c_fraction (hr.mono (by decide)) (m_sh (znV (SE.toB (zcw (SE.toB (zaH hu1 (vb_ 0) (SE.toB zam))) (SE.toB (zaH hu1 (vb_ 1) (SE.toB zam))))) (SE.toB (zcw (SE.toB (zaH hu1 (vb_ 1) (SE.toB zam))) (SE.toB (zaH hu1 (vb_ 0) (SE.toB zam)))))) (m_sh (zcw (SE.toB (zaH hu1 (vb_ 0) (SE.toB zam))) (SE.toB (zaH hu1 (vb_ 1) (SE.toB zam)))) zaK))))
      zaj)
noncomputable abbrev zdq : Stmt := top 23
noncomputable abbrev zdX : List Str := ["left","targets","span","after","thing","bites"]
noncomputable abbrev zcJ : List Str := ["left","targets","span"]
theorem zbE : FnScope zdX zcJ (zab zdq) := ⟨rfl,rfl,rfl,by decide +kernel,rfl,by decide +kernel,by decide +kernel⟩
noncomputable abbrev zda : FS :=
  (seqF (setF q116 5 (zau (zac (fM "list" (gv 1) (zac (gv 4) lNil) ze9) (zac (ci 1) lNil)) [] zax)) (seqF (putF q116 3 (gv 4) (zau (zac (f2 (gv 0) (gv 4) ixA) (zac (zau (zac (gv 5) (zac (gv 2) lNil)) [] zcm) lNil)) [] zeO)) zap))
noncomputable def zb5 : FS :=
  (seqF (setF q117 3 (fun _ => Res.ok (D.dic []))) (seqF (zcb q116 (fSeq zdv (gv 0)) (ftN 4) zda) (seqF (retF q117 (gv 3)) zap)))
noncomputable def zb4 : List D→Res D := fun ds => outR false (zb5 (zar zdX.length ds))
theorem zkQ {P : Program} {w : World} {K : PySem.W.Frag} {mg : Str→Option Value} {base : Heap} (T : Txt K mg) (A : DefAt K mg "left_after" zdq) (c_fraction : Callee P w K mg base "fraction" zbt [] 2 false q102 zax) (c_times : Callee P w K mg base "times" zfF [] 3 false q0 zcm) (c_minus : Callee P w K mg base "minus" zg8 [] 3 false q0 zeO) : Callee P w K mg base "left_after" zcJ [] 4 false [.sh,.bw,.bw] zb4 := by
  refine zaL (k := 3) (fs := zb5) (m' := q117) A zbE rfl (fun _ _ _ _ _ _ us hl => by obtain ⟨u0,u1,u2,rfl⟩ := zo7 us hl; kernel_rfl) fun f cdv A outer s H g E hr => ?_
  have hu1 := zbl hr
  have hu64 := hr.units
  exact (zaa (zcG 3 zbE.nd (by rfl) (by first | exact Or.inl rfl | exact Or.inr rfl) zjb)
      (zaa (zlC PassesOwn.never rfl (v_ 0) (fun _ => (zaD 4 zbE.nd (by rfl) (by first | exact Or.inl rfl | exact Or.inr rfl))) (fun _ => (zaa (zaV 5 zbE.nd (by rfl) (by first | exact Or.inl rfl | exact Or.inr rfl) (zat (dds := []) c_fraction (hr.mono (by decide)) (m_sh (s_bm PySem.F.plainAttrs_list PySem.F.slot_list_count PySem.F.type_list_count zga zgo (vb_ 1) (zav (vb_ 4) zaQ)) (m_sh zam zaK))))
      (zaa (zhQ 3 hu1 rfl (by rfl) (by first | exact Or.inl rfl | exact Or.inr (Or.inl rfl) | exact Or.inr (Or.inr rfl)) (vb_ 4) (zat (dds := []) c_minus (hr.mono (by decide)) (m_bw (SE.toB (zaH hu1 (vb_ 0) (vb_ 4))) (m_bw (SE.toB (zat (dds := []) c_times (hr.mono (by decide)) (m_bw (vb_ 5) (m_bw (vb_ 2) zaK)))) zaK))))
      zaj))))
      (zaa (zgG 3 rfl (zbk (v_ 3)))
      zaj)))
noncomputable abbrev zek : Stmt := top 24
noncomputable abbrev zfa : List Str := ["left","told","thing"]
noncomputable abbrev zdG : List Str := ["left"]
theorem zdb : FnScope zfa zdG (zab zek) := ⟨rfl,rfl,rfl,by decide +kernel,rfl,by decide +kernel,by decide +kernel⟩
noncomputable abbrev zdY : FS :=
  (seqF (ifF q110 (za1 (f2 (f2 (gv 0) (gv 2) ixA) (fun _ => Res.ok (D.tup [D.int 0,D.int 1])) neD)) (seqF (putF q110 1 (gv 2) (f2 (gv 0) (gv 2) ixA)) zap) zap) zap)
noncomputable def zcS : FS :=
  (seqF (setF q101 1 (fun _ => Res.ok (D.dic []))) (seqF (zcb q110 (fSeq zdv (gv 0)) (ftN 2) zdY) (seqF (retF q110 (gv 1)) zap)))
noncomputable def zcP : List D→Res D := fun ds => outR true (zcS (zar zfa.length ds))
theorem zmO {P : Program} {w : World} {K : PySem.W.Frag} {mg : Str→Option Value} {base : Heap} (T : Txt K mg) (A : DefAt K mg "not_gone" zek) : Callee P w K mg base "not_gone" zdG [] 1 true [Md.sh] zcP := by
  refine zaL (k := 0) (fs := zcS) (m' := q110) A zdb rfl (fun _ _ _ _ _ _ us hl => by obtain ⟨u0,rfl⟩ := zeU us hl; kernel_rfl) fun f cdv A outer s H g E hr => ?_
  have hu1 := zbl hr
  have hu64 := hr.units
  exact (zaa (zcG 1 zdb.nd (by rfl) (by first | exact Or.inl rfl | exact Or.inr rfl) zjb)
      (zaa (zlC PassesOwn.never rfl (v_ 0) (fun _ => (zaD 2 zdb.nd (by rfl) (by first | exact Or.inl rfl | exact Or.inr rfl))) (fun _ => (zaa (s_if (q_ne hu64 (SE.toB (zaH hu1 (vb_ 0) (vb_ 2))) (SE.toB (zfk (by rfl) T.k_NOUGHT))) (zaa (zhQ 1 hu1 rfl (by rfl) (by first | exact Or.inl rfl | exact Or.inr (Or.inl rfl) | exact Or.inr (Or.inr rfl)) (vb_ 2) (zaH hu1 (vb_ 0) (vb_ 2)))
      zaj)
      zaj)
      zaj)))
      (zaa (znX 1 rfl (by rfl) (by first | exact Or.inl rfl | exact Or.inr (Or.inl rfl) | exact Or.inr (Or.inr rfl)))
      zaj)))
noncomputable abbrev zbZ : Stmt := top 10
noncomputable abbrev zcl : List Str := ["row","things"]
noncomputable abbrev zdk : List Str := ["row","things"]
theorem zdQ : FnScope zcl zdk (zab zbZ) := ⟨rfl,rfl,rfl,by decide +kernel,rfl,by decide +kernel,by decide +kernel⟩
noncomputable def zcs : FS :=
  (seqF (retF q0 (f2 (zb8 1 [1] (fSeq za7 (gv 0)) (ftN 0) (za1 (f2 (gv 0) (gv 1) inD)) (gv 0)) (ci 0) ixA)) zap)
noncomputable def zbu : List D→Res D := fun ds => outR false (zcs (zar zcl.length ds))
theorem zlL {P : Program} {w : World} {K : PySem.W.Frag} {mg : Str→Option Value} {base : Heap} (T : Txt K mg) (A : DefAt K mg "best_left" zbZ) : Callee P w K mg base "best_left" zdk [] 1 false q0 zbu := by
  refine zaL (k := 0) (fs := zcs) (m' := q0) A zdQ rfl (fun _ _ _ _ _ _ us hl => by obtain ⟨u0,u1,rfl⟩ := zdf us hl; kernel_rfl) fun f cdv A outer s H g E hr => ?_
  have hu1 := zbl hr
  have hu64 := hr.units
  exact (zaa (zbk (zaH hu1 (SO.toB (zdU (X := (cxOf CX0 P w K mg base zcl "best_left" (zab zbZ) f cdv A outer s H E).nox) (N' := ["thing","things"]) (nl := 1) (cap := [1]) zdQ.nd rfl (zaX (osc := (zab zbZ)) (ON := zcl) rfl rfl (by decide +kernel)) (ze8 (vb_ 0)) (fun _ _ _ _ _ _ => (zaD 0 (show List.Nodup (["thing","things"] : List Str) by decide +kernel) (by rfl) (by first | exact Or.inl rfl | exact Or.inr rfl))) (zcx (by decide)) (fun _ _ _ _ _ _ => (ziS (q_in hu1 (vb_ 0) (vb_ 1)))) (fun _ _ _ _ _ _ => (v_ 0)))) (SE.toB zam)))
      zaj)
noncomputable abbrev zbp : Stmt := top 25
noncomputable abbrev zbM : List Str := ["wishes","left","thing","told","targets","span","after"]
noncomputable abbrev zdH : List Str := ["wishes"]
theorem zaO : FnScope zbM zdH (zab zbp) := ⟨rfl,rfl,rfl,by decide +kernel,rfl,by decide +kernel,by decide +kernel⟩
noncomputable abbrev zdW : FQ :=
  (fTru (gv 1))
noncomputable abbrev zd0 : FS :=
  (seqF (putF q111 1 (gv 2) (fun _ => Res.ok (D.tup [D.int 1,D.int 1]))) zap)
noncomputable abbrev zdZ : FS :=
  (seqF (setF q112 4 (zb8 1 [1] (fSeq za7 (gv 0)) (ftN 0) (fun _ => Res.ok true) (zau (zac (gv 0) (zac (gv 1) lNil)) [] zbu))) (seqF (setF [.bw,.ow,.sh,.ow,.ow,.sh,.sh] 5 (zau (zac (gv 1) (zac (gv 4) lNil)) [] zaA)) (seqF (setF [.bw,.sh,.sh,.ow,.ow,.sh,.sh] 6 (zau (zac (gv 1) (zac (gv 4) (zac (gv 5) lNil))) [] zb4)) (seqF (setF [.bw,.sh,.sh,.ow,.ow,.sh,.sh] 1 (ownF (zau (zac (gv 6) lNil) [] zcP))) (seqF (mutF "list" q112 3 (zac (mkT (zac (gv 4) (zac (gv 5) (zac (fC (zac (zb8 1 [1] (fSeq zdv (gv 6)) (ftN 0) (za1 (f2 (gv 0) (gv 1) ninD)) (gv 0)) lNil) tupD) lNil)))) lNil) appD) zap)))))
noncomputable def zcT : FS :=
  (seqF (setF [.bw,.sh,.sh,.sh,.sh,.sh,.sh] 1 (fun _ => Res.ok (D.dic []))) (seqF (zcb q111 (fRng rng1 (zac (zau (zac (gv 0) lNil) [] zaR) lNil)) (ftN 2) zd0) (seqF (setF q111 3 (mkL lNil)) (seqF (zbf q112 zdW zdZ 64) (seqF (retF q111 (gv 3)) zap)))))
noncomputable def zcQ : List D→Res D := fun ds => outR false (zcT (zar zbM.length ds))
theorem zmP {P : Program} {w : World} {K : PySem.W.Frag} {mg : Str→Option Value} {base : Heap} (T : Txt K mg) (A : DefAt K mg "meals_of" zbp) (c_things_in : Callee P w K mg base "things_in" zbW [] 1 false [Md.bw] zaR) (c_best_left : Callee P w K mg base "best_left" zdk [] 1 false q0 zbu) (c_time_until_one_is_gone : Callee P w K mg base "time_until_one_is_gone" zaM [] 4 false q0 zaA) (c_left_after : Callee P w K mg base "left_after" zcJ [] 4 false [.sh,.bw,.bw] zb4) (c_not_gone : Callee P w K mg base "not_gone" zdG [] 1 true [Md.sh] zcP) : Callee P w K mg base "meals_of" zdH [] 5 false [Md.bw] zcQ := by
  refine zaL (k := 4) (fs := zcT) (m' := q111) A zaO rfl (fun _ _ _ _ _ _ us hl => by obtain ⟨u0,rfl⟩ := zeU us hl; kernel_rfl) fun f cdv A outer s H g E hr => ?_
  have hu1 := zbl hr
  have hu64 := hr.units
  exact (zaa (zcG 1 zaO.nd (by rfl) (by first | exact Or.inl rfl | exact Or.inr rfl) zjb)
      (zaa (zhS PassesOwn.never rfl (zci (by rfl) T.b_range (zav (SE.toB (zat (dds := []) c_things_in (hr.mono (by decide)) (m_bw (vb_ 0) zaK))) zaQ)) (zaD 2 zaO.nd (by rfl) (by first | exact Or.inl rfl | exact Or.inr rfl)) (zaa (zhQ 1 hu1 rfl (by rfl) (by first | exact Or.inl rfl | exact Or.inr (Or.inl rfl) | exact Or.inr (Or.inr rfl)) (vb_ 2) (zfk (by rfl) T.k_ONE))
      zaj))
      (zaa (zcG 3 zaO.nd (by rfl) (by first | exact Or.inl rfl | exact Or.inr rfl) (zeT zbC))
      (zaa (zgF 64 PassesOwn.never (zhY (vb_ 1)) (zaa (zes 4 (X := (cxOf CX0 P w K mg base zbM "meals_of" (zab zbp) f cdv A outer s H E).nox) (m := q112) (N' := ["row","left"]) (nl := 1) (cap := [1]) zaO.nd rfl (by rfl) (by rfl) (zaX (osc := (zab zbp)) (ON := zbM) rfl rfl (by decide +kernel)) (ze8 (vb_ 0)) (fun _ _ _ _ _ _ => (zaD 0 (show List.Nodup (["row","left"] : List Str) by decide +kernel) (by rfl) (by first | exact Or.inl rfl | exact Or.inr rfl))) (zcx (by decide)) (fun _ _ _ _ _ _ => zdR) (fun _ _ _ _ _ _ => (zat (dds := []) c_best_left (hr.mono (by decide)) (m_bw (vb_ 0) (m_bw (vb_ 1) zaK)))))
      (zaa (zaV 5 zaO.nd (by rfl) (by first | exact Or.inl rfl | exact Or.inr rfl) (zat (dds := []) c_time_until_one_is_gone (hr.mono (by decide)) (m_bw (vb_ 1) (m_bw (vb_ 4) zaK))))
      (zaa (zgG 1 rfl (zaV 6 zaO.nd (by rfl) (by first | exact Or.inl rfl | exact Or.inr rfl) (zat (dds := []) c_left_after (hr.mono (by decide)) (m_sh (v_ 1) (m_bw (vb_ 4) (m_bw (vb_ 5) zaK))))))
      (zaa (zcG 1 zaO.nd (by rfl) (by first | exact Or.inl rfl | exact Or.inr rfl) (zni (dds := []) c_not_gone (hr.mono (by decide)) (m_sh (v_ 6) zaK)))
      (zaa (zgG 4 rfl (zhR 3 rfl PySem.F.plainAttrs_list PySem.F.slot_list_append PySem.F.type_list_append zbA zgy (by rfl) (by first | exact Or.inl rfl | exact Or.inr (Or.inl rfl) | exact Or.inr (Or.inr rfl)) (zaJ (zeP (zaJ (v_ 4) (zaJ (v_ 5) (zaJ (zcg (by rfl) T.b_tuple (zav (SO.toB (zdU (X := (cxOf CX0 P w K mg base zbM "meals_of" (zab zbp) f cdv A outer s H E).nox) (N' := ["thing","left"]) (nl := 1) (cap := [1]) zaO.nd rfl (zaX (osc := (zab zbp)) (ON := zbM) rfl rfl (by decide +kernel)) (zm9 (v_ 6)) (fun _ _ _ _ _ _ => (zaD 0 (show List.Nodup (["thing","left"] : List Str) by decide +kernel) (by rfl) (by first | exact Or.inl rfl | exact Or.inr rfl))) (zcx (by decide)) (fun _ _ _ _ _ _ => (ziS (zop hu1 (vb_ 0) (vb_ 1)))) (fun _ _ _ _ _ _ => (v_ 0)))) zaQ)) zbC)))) zbC)))
      zaj))))))
      (zaa (zgG 3 rfl (zbk (v_ 3)))
      zaj)))))
noncomputable abbrev ziv : Stmt := top 16
noncomputable abbrev zl8 : List Str := ["a","b"]
noncomputable abbrev zhJ : List Str := ["a","b"]
theorem zml : FnScope zl8 zhJ (zab ziv) := ⟨rfl,rfl,rfl,by decide +kernel,rfl,by decide +kernel,by decide +kernel⟩
noncomputable def zhL : FS :=
  (seqF (retF q0 (zau (zac (f2 (f2 (f2 (gv 0) (ci 0) ixA) (f2 (gv 1) (ci 1) ixA) mulW) (f2 (f2 (gv 1) (ci 0) ixA) (f2 (gv 0) (ci 1) ixA) mulW) addA) (zac (f2 (f2 (gv 0) (ci 1) ixA) (f2 (gv 1) (ci 1) ixA) mulW) lNil)) [] zax)) zap)
noncomputable def zeN : List D→Res D := fun ds => outR false (zhL (zar zl8.length ds))
theorem zqu {P : Program} {w : World} {K : PySem.W.Frag} {mg : Str→Option Value} {base : Heap} (T : Txt K mg) (A : DefAt K mg "plus" ziv) (c_fraction : Callee P w K mg base "fraction" zbt [] 2 false q102 zax) : Callee P w K mg base "plus" zhJ [] 3 false q0 zeN := by
  refine zaL (k := 2) (fs := zhL) (m' := q0) A zml rfl (fun _ _ _ _ _ _ us hl => by obtain ⟨u0,u1,rfl⟩ := zdf us hl; kernel_rfl) fun f cdv A outer s H g E hr => ?_
  have hu1 := zbl hr
  have hu64 := hr.units
  exact (zaa (zbk (zat (dds := []) c_fraction (hr.mono (by decide)) (m_sh (zbQ (SE.toB (zcw (SE.toB (zaH hu1 (vb_ 0) (SE.toB zam))) (SE.toB (zaH hu1 (vb_ 1) (SE.toB zam))))) (SE.toB (zcw (SE.toB (zaH hu1 (vb_ 1) (SE.toB zam))) (SE.toB (zaH hu1 (vb_ 0) (SE.toB zam)))))) (m_sh (zcw (SE.toB (zaH hu1 (vb_ 0) (SE.toB zam))) (SE.toB (zaH hu1 (vb_ 1) (SE.toB zam)))) zaK))))
      zaj)
noncomputable abbrev zfS : Stmt := top 27
noncomputable abbrev zhK : List Str := ["meals","log","now","targets","span","gone"]
noncomputable abbrev zfG : List Str := ["meals"]
theorem zbP : FnScope zhK zfG (zab zfS) := ⟨rfl,rfl,rfl,by decide +kernel,rfl,by decide +kernel,by decide +kernel⟩
noncomputable abbrev zff : FS :=
  (seqF (setF q115 2 (zau (zac (gv 2) (zac (gv 4) lNil)) [] zeN)) (seqF (mutF "list" q115 1 (zac (mkT (zac (gv 2) (zac (gv 5) lNil))) lNil) appD) zap))
noncomputable def zeg : FS :=
  (seqF (setF q118 1 (mkL lNil)) (seqF (setF q115 2 (fun _ => Res.ok (D.tup [D.int 0,D.int 1]))) (seqF (zcb q115 (fSeq za7 (gv 0)) (ftT (zbn (ftN 3) (zbn (ftN 4) (zbn (ftN 5) zgg)))) zff) (seqF (retF q118 (gv 1)) zap))))
noncomputable def zef : List D→Res D := fun ds => outR false (zeg (zar zhK.length ds))
theorem zoQ {P : Program} {w : World} {K : PySem.W.Frag} {mg : Str→Option Value} {base : Heap} (T : Txt K mg) (A : DefAt K mg "log_of" zfS) (c_plus : Callee P w K mg base "plus" zhJ [] 3 false q0 zeN) : Callee P w K mg base "log_of" zfG [] 4 false [Md.bw] zef := by
  refine zaL (k := 3) (fs := zeg) (m' := q118) A zbP rfl (fun _ _ _ _ _ _ us hl => by obtain ⟨u0,rfl⟩ := zeU us hl; kernel_rfl) fun f cdv A outer s H g E hr => ?_
  have hu1 := zbl hr
  have hu64 := hr.units
  exact (zaa (zcG 1 zbP.nd (by rfl) (by first | exact Or.inl rfl | exact Or.inr rfl) (zeT zbC))
      (zaa (zaV 2 zbP.nd (by rfl) (by first | exact Or.inl rfl | exact Or.inr rfl) (zfk (by rfl) T.k_NOUGHT))
      (zaa (zhn PassesOwn.never rfl (zhx (vw_ 0)) (zk8 rfl (zc7 (zaD 3 zbP.nd (by rfl) (by first | exact Or.inl rfl | exact Or.inr rfl)) (zc7 (zaD 4 zbP.nd (by rfl) (by first | exact Or.inl rfl | exact Or.inr rfl)) (zc7 (zaD 5 zbP.nd (by rfl) (by first | exact Or.inl rfl | exact Or.inr rfl)) zk9)))) (zaa (zaV 2 zbP.nd (by rfl) (by first | exact Or.inl rfl | exact Or.inr rfl) (zat (dds := []) c_plus (hr.mono (by decide)) (m_bw (vb_ 2) (m_bw (vb_ 4) zaK))))
      (zaa (zhR 1 rfl PySem.F.plainAttrs_list PySem.F.slot_list_append PySem.F.type_list_append zbA zgy (by rfl) (by first | exact Or.inl rfl | exact Or.inr (Or.inl rfl) | exact Or.inr (Or.inr rfl)) (zaJ (zeP (zaJ (v_ 2) (zaJ (v_ 5) zbC))) zbC))
      zaj)))
      (zaa (zgG 1 rfl (zbk (v_ 1)))
      zaj))))
noncomputable abbrev zdM : Stmt := top 26
noncomputable abbrev zeJ : List Str := ["wishes","hand","meals","shares","targets","span","gone","thing"]
noncomputable abbrev zdi : List Str := ["wishes","hand","meals"]
theorem zbb : FnScope zeJ zdi (zab zdM) := ⟨rfl,rfl,rfl,by decide +kernel,rfl,by decide +kernel,by decide +kernel⟩
noncomputable abbrev zdz : FS :=
  (seqF (setF q113 7 (f2 (gv 4) (gv 1) ixA)) (seqF (putF q113 3 (gv 7) (zau (zac (f2 (gv 3) (gv 7) ixA) (zac (gv 5) lNil)) [] zeN)) zap))
noncomputable def zcq : FS :=
  (seqF (setF [.bw,.bw,.bw,.sh,.sh,.sh,.sh,.sh] 3 (f2 (mkL (zac (fun _ => Res.ok (D.tup [D.int 0,D.int 1])) lNil)) (zau (zac (gv 0) lNil) [] zaR) repD)) (seqF (zcb q113 (fSeq za7 (gv 2)) (ftT (zbn (ftN 4) (zbn (ftN 5) (zbn (ftN 6) zgg)))) zdz) (seqF (retF q113 (fC (zac (gv 3) lNil) tupD)) zap)))
noncomputable def zcn : List D→Res D := fun ds => outR false (zcq (zar zeJ.length ds))
theorem zlJ {P : Program} {w : World} {K : PySem.W.Frag} {mg : Str→Option Value} {base : Heap} (T : Txt K mg) (A : DefAt K mg "shares_of" zdM) (c_things_in : Callee P w K mg base "things_in" zbW [] 1 false [Md.bw] zaR) (c_plus : Callee P w K mg base "plus" zhJ [] 3 false q0 zeN) : Callee P w K mg base "shares_of" zdi [] 4 false [.bw,.bw,.bw] zcn := by
  refine zaL (k := 3) (fs := zcq) (m' := q113) A zbb rfl (fun _ _ _ _ _ _ us hl => by obtain ⟨u0,u1,u2,rfl⟩ := zo7 us hl; kernel_rfl) fun f cdv A outer s H g E hr => ?_
  have hu1 := zbl hr
  have hu64 := hr.units
  exact (zaa (zcG 3 zbb.nd (by rfl) (by first | exact Or.inl rfl | exact Or.inr rfl) (zqw (zeT (zaJ (zfk (by rfl) T.k_NOUGHT) zbC)) (SE.toB (zat (dds := []) c_things_in (hr.mono (by decide)) (m_bw (vb_ 0) zaK)))))
      (zaa (zhn PassesOwn.never rfl (zhx (vw_ 2)) (zk8 rfl (zc7 (zaD 4 zbb.nd (by rfl) (by first | exact Or.inl rfl | exact Or.inr rfl)) (zc7 (zaD 5 zbb.nd (by rfl) (by first | exact Or.inl rfl | exact Or.inr rfl)) (zc7 (zaD 6 zbb.nd (by rfl) (by first | exact Or.inl rfl | exact Or.inr rfl)) zk9)))) (zaa (zaV 7 zbb.nd (by rfl) (by first | exact Or.inl rfl | exact Or.inr rfl) (zaH hu1 (vb_ 4) (vb_ 1)))
      (zaa (zhQ 3 hu1 rfl (by rfl) (by first | exact Or.inl rfl | exact Or.inr (Or.inl rfl) | exact Or.inr (Or.inr rfl)) (vb_ 7) (zat (dds := []) c_plus (hr.mono (by decide)) (m_bw (SE.toB (zaH hu1 (vb_ 3) (vb_ 7))) (m_bw (vb_ 5) zaK))))
      zaj)))
      (zaa (zbk (zcg (by rfl) T.b_tuple (zav (vb_ 3) zaQ)))
      zaj)))
noncomputable abbrev zd6 : Stmt := top 28
noncomputable abbrev zfH : List Str := ["wishes","meals","table"]
noncomputable abbrev zha : List Str := ["wishes"]
theorem zd9 : FnScope zfH zha (zab zd6) := ⟨rfl,rfl,rfl,by decide +kernel,rfl,by decide +kernel,by decide +kernel⟩
noncomputable def zfO : FS :=
  (seqF (zle q105 (zau (zac (gv 0) lNil) [] zaG)) (seqF (setF q105 1 (zau (zac (gv 0) lNil) [] zcQ)) (seqF (setF q105 2 (fC (zac (zb8 1 [0,1] (fRng rng1 (zac (fC (zac (gv 0) lNil) lenD) lNil)) (ftN 0) (fun _ => Res.ok true) (zau (zac (gv 1) (zac (gv 0) (zac (gv 2) lNil))) [] zcn)) lNil) tupD)) (seqF (retF q105 (mkT (zac (gv 2) (zac (zau (zac (gv 1) lNil) [] zef) lNil)))) zap))))
noncomputable def zfJ : List D→Res D := fun ds => outR false (zfO (zar zfH.length ds))
theorem zp0 {P : Program} {w : World} {K : PySem.W.Frag} {mg : Str→Option Value} {base : Heap} (T : Txt K mg) (A : DefAt K mg "eaten" zd6) (c_refuse_unless_square : Callee P w K mg base "refuse_unless_square" zaT [] 3 false [Md.bw] zaG) (c_meals_of : Callee P w K mg base "meals_of" zdH [] 5 false [Md.bw] zcQ) (c_shares_of : Callee P w K mg base "shares_of" zdi [] 4 false [.bw,.bw,.bw] zcn) (c_log_of : Callee P w K mg base "log_of" zfG [] 4 false [Md.bw] zef) : Callee P w K mg base "eaten" zha [] 6 false [Md.bw] zfJ := by
  refine zaL (k := 5) (fs := zfO) (m' := q105) A zd9 rfl (fun _ _ _ _ _ _ us hl => by obtain ⟨u0,rfl⟩ := zeU us hl; kernel_rfl) fun f cdv A outer s H g E hr => ?_
  have hu1 := zbl hr
  have hu64 := hr.units
  exact (zaa (zn4 (zat (dds := []) c_refuse_unless_square (hr.mono (by decide)) (m_bw (vb_ 0) zaK)))
      (zaa (zaV 1 zd9.nd (by rfl) (by first | exact Or.inl rfl | exact Or.inr rfl) (zat (dds := []) c_meals_of (hr.mono (by decide)) (m_bw (vb_ 0) zaK)))
      (zaa (zaV 2 zd9.nd (by rfl) (by first | exact Or.inl rfl | exact Or.inr rfl) (zcg (by rfl) T.b_tuple (zav (SO.toB (zdU (X := (cxOf CX0 P w K mg base zfH "eaten" (zab zd6) f cdv A outer s H E).nox) (N' := ["hand","wishes","meals"]) (nl := 1) (cap := [0,1]) zd9.nd rfl (zaX (osc := (zab zd6)) (ON := zfH) rfl rfl (by decide +kernel)) (SIt.toC (zci (by rfl) T.b_range (zav (SE.toB (zdd (by rfl) T.b_len (zav (vb_ 0) zaQ))) zaQ))) (fun _ _ _ _ _ _ => (zaD 0 (show List.Nodup (["hand","wishes","meals"] : List Str) by decide +kernel) (by rfl) (by first | exact Or.inl rfl | exact Or.inr rfl))) (zcx (by decide)) (fun _ _ _ _ _ _ => zdR) (fun _ _ _ _ _ _ => (zat (dds := []) c_shares_of (hr.mono (by decide)) (m_bw (vb_ 1) (m_bw (vb_ 0) (m_bw (vb_ 2) zaK))))))) zaQ)))
      (zaa (zbk (zeP (zaJ (v_ 2) (zaJ (zat (dds := []) c_log_of (hr.mono (by decide)) (m_bw (vb_ 1) zaK)) zbC))))
      zaj))))
noncomputable abbrev zc0 : Stmt := top 32
noncomputable abbrev zdy : List Str := ["_law_one","_law_other","_law_rest"]
noncomputable abbrev zck : List Str := ["_law_one","_law_other"]
theorem zbw : FnScope zdy zck (zab zc0) := ⟨rfl,rfl,rfl,by decide +kernel,rfl,by decide +kernel,by decide +kernel⟩
noncomputable abbrev zaY : FQ :=
  (za1 (f2 (gv 1) (ci 0) neD))
noncomputable abbrev zaZ : FS :=
  (seqF (setF q101 2 (f2 (gv 0) (gv 1) modI)) (seqF (setF q101 0 (gv 1)) (seqF (setF q101 1 (gv 2)) zap)))
noncomputable def zbL : FS :=
  (seqF (zbf q101 zaY zaZ 1000) (seqF (retF q101 (fC (zac (gv 0) lNil) absD)) zap))
noncomputable def zbJ : List D→Res D := fun ds => outR false (zbL (zar zdy.length ds))
theorem zkm {P : Program} {w : World} {K : PySem.W.Frag} {mg : Str→Option Value} {base : Heap} (T : Txt K mg) (A : DefAt K mg "_law_common" zc0) : Callee P w K mg base "_law_common" zck [] 1 false q102 zbJ := by
  refine zaL (k := 0) (fs := zbL) (m' := q101) A zbw rfl (fun _ _ _ _ _ _ us hl => by obtain ⟨u0,u1,rfl⟩ := zdf us hl; kernel_rfl) fun f cdv A outer s H g E hr => ?_
  have hu1 := zbl hr
  have hu64 := hr.units
  exact (zaa (zgF 1000 PassesOwn.never (q_ne hu64 (vb_ 1) (SE.toB zam)) (zaa (zaV 2 zbw.nd (by rfl) (by first | exact Or.inl rfl | exact Or.inr rfl) (zd2 (vb_ 0) (vb_ 1)))
      (zaa (zaV 0 zbw.nd (by rfl) (by first | exact Or.inl rfl | exact Or.inr rfl) (v_ 1))
      (zaa (zaV 1 zbw.nd (by rfl) (by first | exact Or.inl rfl | exact Or.inr rfl) (v_ 2))
      zaj))))
      (zaa (zbk (zn8 (by rfl) T.b_abs (zav (vb_ 0) zaQ)))
      zaj))
noncomputable abbrev zeo : Stmt := top 33
noncomputable abbrev zfe : List Str := ["_law_top","_law_bottom","_law_by"]
noncomputable abbrev zdK : List Str := ["_law_top","_law_bottom"]
theorem zer : FnScope zfe zdK (zab zeo) := ⟨rfl,rfl,rfl,by decide +kernel,rfl,by decide +kernel,by decide +kernel⟩
noncomputable def zcW : FS :=
  (seqF (setF q101 2 (zau (zac (gv 0) (zac (gv 1) lNil)) [] zbJ)) (seqF (retF q101 (mkT (zac (f2 (gv 0) (gv 2) zgV) (zac (f2 (gv 1) (gv 2) zgV) lNil)))) zap))
noncomputable def zcR : List D→Res D := fun ds => outR false (zcW (zar zfe.length ds))
theorem zmT {P : Program} {w : World} {K : PySem.W.Frag} {mg : Str→Option Value} {base : Heap} (T : Txt K mg) (A : DefAt K mg "_law_low" zeo) (c__law_common : Callee P w K mg base "_law_common" zck [] 1 false q102 zbJ) : Callee P w K mg base "_law_low" zdK [] 2 false q102 zcR := by
  refine zaL (k := 1) (fs := zcW) (m' := q101) A zer rfl (fun _ _ _ _ _ _ us hl => by obtain ⟨u0,u1,rfl⟩ := zdf us hl; kernel_rfl) fun f cdv A outer s H g E hr => ?_
  have hu1 := zbl hr
  have hu64 := hr.units
  exact (zaa (zaV 2 zer.nd (by rfl) (by first | exact Or.inl rfl | exact Or.inr rfl) (zat (dds := []) c__law_common (hr.mono (by decide)) (m_sh (v_ 0) (m_sh (v_ 1) zaK))))
      (zaa (zbk (zeP (zaJ (zfl (vb_ 0) (vb_ 2)) (zaJ (zfl (vb_ 1) (vb_ 2)) zbC))))
      zaj))
noncomputable abbrev zcF : Stmt := top 36
noncomputable abbrev zc9 : List Str := ["_law_companies_here","_law_things","_law_moments","_law_company","_law_k","_law_time","_law_log","_law_over","_law_at"]
noncomputable abbrev zb9 : List Str := ["_law_companies_here","_law_things"]
theorem zao : FnScope zc9 zb9 (zab zcF) := ⟨rfl,rfl,rfl,by decide +kernel,rfl,by decide +kernel,by decide +kernel⟩
noncomputable abbrev zcC : FS :=
  (seqF (setF q108 5 (zau (zac (f2 (gv 4) (ci 1) addA) (zac (fC (zac (gv 3) lNil) lenD) lNil)) [] zcR)) (seqF (ifF q108 (za1 (f2 (gv 5) (gv 2) ninE)) (seqF (mutF "list" q108 2 (zac (gv 5) lNil) appD) zap) zap) zap))
noncomputable abbrev zcB : FS :=
  (seqF (zcb q108 (fRng rng1 (zac (fC (zac (gv 3) lNil) lenD) lNil)) (ftN 4) zcC) zap)
noncomputable abbrev zcA : FS :=
  (seqF (ifF q106 (za1 (f2 (f2 (f2 (f2 (gv 5) (ci 0) ixA) (fC (zac (gv 3) lNil) lenD) mulI) (f2 (gv 5) (ci 1) ixA) modI) (ci 0) eqD)) (seqF (mutF "list" q106 7 (zac (f2 (gv 1) (f2 (f2 (gv 8) (f2 (f2 (f2 (gv 5) (ci 0) ixA) (fC (zac (gv 3) lNil) lenD) mulI) (f2 (gv 5) (ci 1) ixA) zfy) addA) (ci 1) subI) ixA) lNil) appD) zap) zap) (seqF (setF q106 8 (f2 (gv 8) (fC (zac (gv 3) lNil) lenD) addA)) zap))
noncomputable abbrev zcz : FS :=
  (seqF (setF q120 7 (mkL lNil)) (seqF (setF q106 8 (ci 0)) (seqF (zcb q106 (fSeq za7 (gv 0)) (ftN 3) zcA) (seqF (mutF "list" q106 6 (zac (mkT (zac (gv 5) (zac (fC (zac (fC (zac (gv 7) lNil) zhl) lNil) tupD) lNil))) lNil) appD) zap))))
noncomputable def zby : FS :=
  (seqF (setF q119 2 (mkL lNil)) (seqF (zcb q108 (fSeq za7 (gv 0)) (ftN 3) zcB) (seqF (setF q108 6 (mkL lNil)) (seqF (zcb q120 (fSeq za7 (gv 2)) (ftN 5) zcz) (seqF (retF q119 (gv 6)) zap)))))
noncomputable def zbx : List D→Res D := fun ds => outR false (zby (zar zc9.length ds))
theorem zi8 {P : Program} {w : World} {K : PySem.W.Frag} {mg : Str→Option Value} {base : Heap} (T : Txt K mg) (A : DefAt K mg "_law_due_log" zcF) (c__law_low : Callee P w K mg base "_law_low" zdK [] 2 false q102 zcR) : Callee P w K mg base "_law_due_log" zb9 [] 3 false q0 zbx := by
  refine zaL (k := 2) (fs := zby) (m' := q119) A zao rfl (fun _ _ _ _ _ _ us hl => by obtain ⟨u0,u1,rfl⟩ := zdf us hl; kernel_rfl) fun f cdv A outer s H g E hr => ?_
  have hu1 := zbl hr
  have hu64 := hr.units
  exact (zaa (zcG 2 zao.nd (by rfl) (by first | exact Or.inl rfl | exact Or.inr rfl) (zeT zbC))
      (zaa (zhn PassesOwn.never rfl (zhx (vw_ 0)) (zaD 3 zao.nd (by rfl) (by first | exact Or.inl rfl | exact Or.inr rfl)) (zaa (zhS PassesOwn.never rfl (zci (by rfl) T.b_range (zav (SE.toB (zdd (by rfl) T.b_len (zav (vb_ 3) zaQ))) zaQ)) (zaD 4 zao.nd (by rfl) (by first | exact Or.inl rfl | exact Or.inr rfl)) (zaa (zaV 5 zao.nd (by rfl) (by first | exact Or.inl rfl | exact Or.inr rfl) (zat (dds := []) c__law_low (hr.mono (by decide)) (m_sh (zbQ (vb_ 4) (SE.toB zam)) (m_sh (zdd (by rfl) T.b_len (zav (vb_ 3) zaQ)) zaK))))
      (zaa (s_if (zoo hu64 (vb_ 5) (vb_ 2)) (zaa (zhR 2 rfl PySem.F.plainAttrs_list PySem.F.slot_list_append PySem.F.type_list_append zbA zgy (by rfl) (by first | exact Or.inl rfl | exact Or.inr (Or.inl rfl) | exact Or.inr (Or.inr rfl)) (zaJ (v_ 5) zbC))
      zaj)
      zaj)
      zaj)))
      zaj))
      (zaa (zcG 6 zao.nd (by rfl) (by first | exact Or.inl rfl | exact Or.inr rfl) (zeT zbC))
      (zaa (zgG 2 rfl (zhS PassesOwn.never rfl (zk4 (v_ 2)) (zaD 5 zao.nd (by rfl) (by first | exact Or.inl rfl | exact Or.inr rfl)) (zix (m' := q106) 7 (zaa (zcG 7 zao.nd (by rfl) (by first | exact Or.inl rfl | exact Or.inr rfl) (zeT zbC))
      (zaa (zaV 8 zao.nd (by rfl) (by first | exact Or.inl rfl | exact Or.inr rfl) zam)
      (zaa (zhn PassesOwn.never rfl (zhx (vw_ 0)) (zaD 3 zao.nd (by rfl) (by first | exact Or.inl rfl | exact Or.inr rfl)) (zaa (s_if (q_eq hu64 (SE.toB (zd2 (SE.toB (zfj (SE.toB (zaH hu1 (vb_ 5) (SE.toB zam))) (SE.toB (zdd (by rfl) T.b_len (zav (vb_ 3) zaQ))))) (SE.toB (zaH hu1 (vb_ 5) (SE.toB zam))))) (SE.toB zam)) (zaa (zhR 7 rfl PySem.F.plainAttrs_list PySem.F.slot_list_append PySem.F.type_list_append zbA zgy (by rfl) (by first | exact Or.inl rfl | exact Or.inr (Or.inl rfl) | exact Or.inr (Or.inr rfl)) (zaJ (zaH hu1 (vb_ 1) (SE.toB (znV (SE.toB (zbQ (vb_ 8) (SE.toB (ziH (SE.toB (zfj (SE.toB (zaH hu1 (vb_ 5) (SE.toB zam))) (SE.toB (zdd (by rfl) T.b_len (zav (vb_ 3) zaQ))))) (SE.toB (zaH hu1 (vb_ 5) (SE.toB zam))))))) (SE.toB zam)))) zbC))
      zaj)
      zaj)
      (zaa (zaV 8 zao.nd (by rfl) (by first | exact Or.inl rfl | exact Or.inr rfl) (zbQ (vb_ 8) (SE.toB (zdd (by rfl) T.b_len (zav (vb_ 3) zaQ)))))
      zaj)))
      (zaa (zhR 6 rfl PySem.F.plainAttrs_list PySem.F.slot_list_append PySem.F.type_list_append zbA zgy (by rfl) (by first | exact Or.inl rfl | exact Or.inr (Or.inl rfl) | exact Or.inr (Or.inr rfl)) (zaJ (zeP (zaJ (v_ 5) (zaJ (zcg (by rfl) T.b_tuple (zav (SO.toB (zja hr (by rfl) T.b_sorted (zav (vb_ 7) zaQ))) zaQ)) zbC))) zbC))
      zaj)))) rfl)))
      (zaa (zgG 6 rfl (zbk (v_ 6)))
      zaj)))))
noncomputable abbrev zdP : Stmt := top 30
noncomputable abbrev zeM : List Str := ["_law_script","_law_k","_law_cell_here","_law_stirred"]
noncomputable abbrev zdm : List Str := ["_law_script","_law_k"]
theorem zb0 : FnScope zeM zdm (zab zdP) := ⟨rfl,rfl,rfl,by decide +kernel,rfl,by decide +kernel,by decide +kernel⟩
noncomputable def zbY : FS :=
  (seqF (setF q104 2 (ci 0)) (seqF (ifF q104 (za1 (f2 (gv 1) (fC (zac (gv 0) lNil) lenD) ltI)) (seqF (setF q104 2 (f2 (f2 (gv 0) (gv 1) ixA) (f2 (ci 10) (ci 60) powI) modI)) zap) zap) (seqF (ifF q104 (fAnd (za1 (f2 (fC (zac (gv 0) lNil) lenD) (ci 0) gtI)) (za1 (f2 (f2 (f2 (gv 0) (ci 0) ixA) (ci 2) modI) (ci 0) eqD))) (seqF (retF q104 (gv 2)) zap) zap) (seqF (setF q104 3 (f2 (f2 (f2 (f2 (f2 (f2 (f2 (gv 2) (f2 (f2 (ci 7) (gv 1) mulI) (gv 1) mulI) addA) (f2 (ci 13) (gv 1) mulI) addA) (ci 5) addA) (ci 48271) mulI) (ci 2147483647) modI) (ci 69621) mulI) (ci 1000000007) modI)) (seqF (retF q104 (f2 (f2 (f2 (f2 (f2 (gv 3) (ci 1) addA) (ci 40692) mulI) (ci 2147483629) modI) (ci 39373) mulI) (ci 999999937) modI)) zap)))))
noncomputable def zaF : List D→Res D := fun ds => outR false (zbY (zar zeM.length ds))
theorem zlN {P : Program} {w : World} {K : PySem.W.Frag} {mg : Str→Option Value} {base : Heap} (T : Txt K mg) (A : DefAt K mg "_law_cell" zdP) : Callee P w K mg base "_law_cell" zdm [] 1 false q0 zaF := by
  refine zaL (k := 0) (fs := zbY) (m' := q104) A zb0 rfl (fun _ _ _ _ _ _ us hl => by obtain ⟨u0,u1,rfl⟩ := zdf us hl; kernel_rfl) fun f cdv A outer s H g E hr => ?_
  have hu1 := zbl hr
  have hu64 := hr.units
  exact (zaa (zaV 2 zb0.nd (by rfl) (by first | exact Or.inl rfl | exact Or.inr rfl) zam)
      (zaa (s_if (q_lt (vb_ 1) (SE.toB (zdd (by rfl) T.b_len (zav (vb_ 0) zaQ)))) (zaa (zaV 2 zb0.nd (by rfl) (by first | exact Or.inl rfl | exact Or.inr rfl) (zd2 (SE.toB (zaH hu1 (vb_ 0) (vb_ 1))) (SE.toB (zqf (SE.toB zam) (SE.toB zam)))))
      zaj)
      zaj)
      (zaa (s_if (SW.toQ (zqn (q_gt (SE.toB (zdd (by rfl) T.b_len (zav (vb_ 0) zaQ))) (SE.toB zam)) (zoq (q_eq hu64 (SE.toB (zd2 (SE.toB (zaH hu1 (vb_ 0) (SE.toB zam))) (SE.toB zam))) (SE.toB zam))))) (zaa (zbk (v_ 2))
      zaj)
      zaj)
      (zaa (zaV 3 zb0.nd (by rfl) (by first | exact Or.inl rfl | exact Or.inr rfl) (zd2 (SE.toB (zfj (SE.toB (zd2 (SE.toB (zfj (SE.toB (zbQ (SE.toB (zbQ (SE.toB (zbQ (vb_ 2) (SE.toB (zfj (SE.toB (zfj (SE.toB zam) (vb_ 1))) (vb_ 1))))) (SE.toB (zfj (SE.toB zam) (vb_ 1))))) (SE.toB zam))) (SE.toB zam))) (SE.toB zam))) (SE.toB zam))) (SE.toB zam)))
      (zaa (zbk (zd2 (SE.toB (zfj (SE.toB (zd2 (SE.toB (zfj (SE.toB (zbQ (vb_ 3) (SE.toB zam))) (SE.toB zam))) (SE.toB zam))) (SE.toB zam))) (SE.toB zam)))
      zaj)))))
noncomputable abbrev zdO : Stmt := top 34
noncomputable abbrev zeL : List Str := ["_law_a","_law_b"]
noncomputable abbrev zdl : List Str := ["_law_a","_law_b"]
theorem zfY : FnScope zeL zdl (zab zdO) := ⟨rfl,rfl,rfl,by decide +kernel,rfl,by decide +kernel,by decide +kernel⟩
noncomputable def zct : FS :=
  (seqF (retF q0 (f2 (f2 (f2 (gv 0) (ci 0) ixA) (f2 (gv 1) (ci 1) ixA) mulW) (f2 (f2 (gv 1) (ci 0) ixA) (f2 (gv 0) (ci 1) ixA) mulW) ltI)) zap)
noncomputable def zbX : List D→Res D := fun ds => outR false (zct (zar zeL.length ds))
theorem zlM {P : Program} {w : World} {K : PySem.W.Frag} {mg : Str→Option Value} {base : Heap} (T : Txt K mg) (A : DefAt K mg "_law_less" zdO) : Callee P w K mg base "_law_less" zdl [] 1 false q0 zbX := by
  refine zaL (k := 0) (fs := zct) (m' := q0) A zfY rfl (fun _ _ _ _ _ _ us hl => by obtain ⟨u0,u1,rfl⟩ := zdf us hl; kernel_rfl) fun f cdv A outer s H g E hr => ?_
  have hu1 := zbl hr
  have hu64 := hr.units
  exact (zaa (zbk (s_lt (SE.toB (zcw (SE.toB (zaH hu1 (vb_ 0) (SE.toB zam))) (SE.toB (zaH hu1 (vb_ 1) (SE.toB zam))))) (SE.toB (zcw (SE.toB (zaH hu1 (vb_ 1) (SE.toB zam))) (SE.toB (zaH hu1 (vb_ 0) (SE.toB zam)))))))
      zaj)
noncomputable abbrev zbv : Stmt := top 37
noncomputable abbrev zbH : List Str := ["_law_log"]
noncomputable abbrev zcj : List Str := ["_law_log"]
theorem zc1 : FnScope zbH zcj (zab zbv) := ⟨rfl,rfl,rfl,by decide +kernel,rfl,by decide +kernel,by decide +kernel⟩
noncomputable def zbK : FS :=
  (seqF (retF [Md.sh] (fC (zac (zb8 2 [] (fZip (gv 0) (fSl (gv 0) (zfz (ci 1)) (fun _ => Res.ok none))) (ftT (zbn (ftN 0) (zbn (ftN 1) zgg))) (fun _ => Res.ok true) (zau (zac (f2 (gv 0) (ci 0) ixA) (zac (f2 (gv 1) (ci 0) ixA) lNil)) [] zbX)) lNil) allD)) zap)
noncomputable def zbI : List D→Res D := fun ds => outR false (zbK (zar zbH.length ds))
theorem zkl {P : Program} {w : World} {K : PySem.W.Frag} {mg : Str→Option Value} {base : Heap} (T : Txt K mg) (A : DefAt K mg "_law_rising" zbv) (c__law_less : Callee P w K mg base "_law_less" zdl [] 1 false q0 zbX) : Callee P w K mg base "_law_rising" zcj [] 2 false [Md.sh] zbI := by
  refine zaL (k := 1) (fs := zbK) (m' := [Md.sh]) A zc1 rfl (fun _ _ _ _ _ _ us hl => by obtain ⟨u0,rfl⟩ := zeU us hl; kernel_rfl) fun f cdv A outer s H g E hr => ?_
  have hu1 := zbl hr
  have hu64 := hr.units
  exact (zaa (zbk (zn7 rfl (by rfl) T.b_all (zav (SO.toB (zdU (X := (cxOf CX0 P w K mg base zbH "_law_rising" (zab zbv) f cdv A outer s H E).nox) (N' := ["_law_one","_law_other"]) (nl := 2) (cap := []) zc1.nd rfl (zaX (osc := (zab zbv)) (ON := zbH) rfl rfl (by decide +kernel)) (SIt.toC (zqE (by rfl) T.b_zip (v_ 0) (znW (vb_ 0) (zhq (SE.toB zam)) zlG))) (fun _ _ _ _ _ _ => (zk8 rfl (zc7 (zaD 0 (show List.Nodup (["_law_one","_law_other"] : List Str) by decide +kernel) (by rfl) (by first | exact Or.inl rfl | exact Or.inr rfl)) (zc7 (zaD 1 (show List.Nodup (["_law_one","_law_other"] : List Str) by decide +kernel) (by rfl) (by first | exact Or.inl rfl | exact Or.inr rfl)) zk9)))) (zpx (zgh (zcx (by decide)) (zgh (zcx (by decide)) zla))) (fun _ _ _ _ _ _ => zdR) (fun _ _ _ _ _ _ => (zat (dds := []) c__law_less (hr.mono (by decide)) (m_bw (SE.toB (zaH hu1 (vb_ 0) (SE.toB zam))) (m_bw (SE.toB (zaH hu1 (vb_ 1) (SE.toB zam))) zaK)))))) zaQ)))
      zaj)
noncomputable abbrev zcu : Stmt := top 38
noncomputable abbrev zd4 : List Str := ["_law_script","_law_n","_law_companies_here","_law_things","_law_wishes","_law_due","_law_at","_law_company","_law_own","_law_hand","_law_row_here","_law_table","_law_log","_law_dues"]
noncomputable abbrev zpU : List Str := ["_law_script"]
theorem zbm : FnScope zd4 zpU (zab zcu) := ⟨rfl,rfl,rfl,by decide +kernel,rfl,by decide +kernel,by decide +kernel⟩
noncomputable abbrev zhc : FS :=
  (seqF (setF q103 10 (zau (zac (zau (zac (gv 0) (zac (f2 (ci 5) (gv 9) addA) lNil)) [] zaF) (zac (gv 1) lNil)) [] zbe)) (seqF (putF q103 4 (gv 9) (f2 (gv 8) (fC (zac (zb8 1 [8] (fSeq za7 (gv 10)) (ftN 0) (za1 (f2 (gv 0) (gv 1) ninD)) (gv 0)) lNil) tupD) addA)) (seqF (putF q103 5 (gv 9) (fC (zac (zb8 1 [8,7] (fRng rng1 (zac (gv 1) lNil)) (ftN 0) (fun _ => Res.ok true) (f2 (mkL (zac (mkT (zac (ci 0) (zac (ci 1) lNil))) (zac (mkT (zac (ci 1) (zac (fC (zac (gv 2) lNil) lenD) lNil))) lNil))) (fC (zac (f2 (gv 0) (gv 1) inD) lNil) zk2) ixA)) lNil) tupD)) zap)))
noncomputable abbrev zkk : FS :=
  (seqF (setF q103 8 (fSlA (gv 3) (zfz (gv 6)) (zfz (f2 (gv 6) (fC (zac (gv 7) lNil) lenD) addA)))) (seqF (setF q103 6 (f2 (gv 6) (fC (zac (gv 7) lNil) lenD) addA)) (seqF (zcb q103 (fSeq za7 (gv 7)) (ftN 9) zhc) zap)))
noncomputable def zlz : FS :=
  (seqF (setF q114 1 (f2 (ci 1) (f2 (zau (zac (gv 0) (zac (ci 1) lNil)) [] zaF) (ci 7) modI) addA)) (seqF (setF q114 2 (zau (zac (zau (zac (gv 0) (zac (ci 2) lNil)) [] zaF) (zac (zau (zac (zau (zac (gv 0) (zac (ci 3) lNil)) [] zaF) (zac (gv 1) lNil)) [] zbe) lNil)) [] za9)) (seqF (setF q114 3 (zau (zac (zau (zac (gv 0) (zac (ci 4) lNil)) [] zaF) (zac (gv 1) lNil)) [] zbe)) (seqF (setF q114 4 (zb8 1 [] (fRng rng1 (zac (gv 1) lNil)) (ftN 0) (fun _ => Res.ok true) (mkT lNil))) (seqF (setF q121 5 (zb8 1 [] (fRng rng1 (zac (gv 1) lNil)) (ftN 0) (fun _ => Res.ok true) (mkT lNil))) (seqF (setF q103 6 (ci 0)) (seqF (zcb q103 (fSeq za7 (gv 2)) (ftN 7) zkk) (seqF (asgF q103 (zau (zac (fC (zac (gv 4) lNil) tupD) lNil) [] zfJ) (ftT (zbn (ftN 11) (zbn (ftN 12) zgg)))) (seqF (ifF q103 (fOr (za1 (f2 (gv 11) (fC (zac (gv 5) lNil) tupD) neD)) (fNot (fTru (zau (zac (gv 12) lNil) [] zbI)))) (seqF (retF q103 (fun _ => Res.ok (D.bl false))) zap) zap) (seqF (setF q103 13 (zau (zac (gv 2) (zac (gv 3) lNil)) [] zbx)) (seqF (retF q103 (vAnd (f2 (fC (zac (gv 12) lNil) lenD) (fC (zac (gv 13) lNil) lenD) eqD) (fC (zac (zb8 1 [13] (fSeq za7 (gv 12)) (ftN 0) (fun _ => Res.ok true) (f2 (gv 0) (gv 1) inE)) lNil) allD))) zap)))))))))))
noncomputable def zpV : List D→Res D := fun ds => outR false (zlz (zar zd4.length ds))
theorem zqT {P : Program} {w : World} {K : PySem.W.Frag} {mg : Str→Option Value} {base : Heap} (T : Txt K mg) {fa : Addr} {fd : FuncData} (A : Fun K "law" "law" zcu fa fd) (c__law_cell : Callee P w K mg base "_law_cell" zdm [] 1 false q0 zaF) (c__law_row : Callee P w K mg base "_law_row" zdJ [] 1 false [.sh,.bw] zbe) (c__law_companies : Callee P w K mg base "_law_companies" zbD [] 1 false q102 za9) (c_eaten : Callee P w K mg base "eaten" zha [] 6 false [Md.bw] zfJ) (c__law_rising : Callee P w K mg base "_law_rising" zcj [] 2 false [Md.sh] zbI) (c__law_due_log : Callee P w K mg base "_law_due_log" zb9 [] 3 false q0 zbx) : FnOk P w K mg base CX0 7 fa fd zpU (spM K false [Md.sh] zpV) := by
  refine zl1 (k := 6) (fs := zlz) (m' := q103) A zbm rfl fun cdv A outer s H g E hr => ?_
  have hu1 := zbl hr
  have hu64 := hr.units
  exact (zaa (zaV 1 zbm.nd (by rfl) (by first | exact Or.inl rfl | exact Or.inr rfl) (zbQ (SE.toB zam) (SE.toB (zd2 (SE.toB (zat (dds := []) c__law_cell (hr.mono (by decide)) (m_bw (vb_ 0) (m_bw (SE.toB zam) zaK)))) (SE.toB zam)))))
      (zaa (zaV 2 zbm.nd (by rfl) (by first | exact Or.inl rfl | exact Or.inr rfl) (zat (dds := []) c__law_companies (hr.mono (by decide)) (m_sh (zat (dds := []) c__law_cell (hr.mono (by decide)) (m_bw (vb_ 0) (m_bw (SE.toB zam) zaK))) (m_sh (zat (dds := []) c__law_row (hr.mono (by decide)) (m_sh (zat (dds := []) c__law_cell (hr.mono (by decide)) (m_bw (vb_ 0) (m_bw (SE.toB zam) zaK))) (m_bw (vb_ 1) zaK))) zaK))))
      (zaa (zaV 3 zbm.nd (by rfl) (by first | exact Or.inl rfl | exact Or.inr rfl) (zat (dds := []) c__law_row (hr.mono (by decide)) (m_sh (zat (dds := []) c__law_cell (hr.mono (by decide)) (m_bw (vb_ 0) (m_bw (SE.toB zam) zaK))) (m_bw (vb_ 1) zaK))))
      (zaa (zes 4 (X := (cxOf CX0 P w K mg base zd4 "law" (zab zcu) fa cdv A outer s H E).nox) (m := q114) (N' := ["_law_hand"]) (nl := 1) (cap := []) zbm.nd rfl (by rfl) (by rfl) (zaX (osc := (zab zcu)) (ON := zd4) rfl rfl (by decide +kernel)) (SIt.toC (zci (by rfl) T.b_range (zav (vb_ 1) zaQ))) (fun _ _ _ _ _ _ => (zaD 0 (show List.Nodup (["_law_hand"] : List Str) by decide +kernel) (by rfl) (by first | exact Or.inl rfl | exact Or.inr rfl))) (zcx (by decide)) (fun _ _ _ _ _ _ => zdR) (fun _ _ _ _ _ _ => (zeP zbC)))
      (zaa (zes 5 (X := (cxOf CX0 P w K mg base zd4 "law" (zab zcu) fa cdv A outer s H E).nox) (m := q121) (N' := ["_law_hand"]) (nl := 1) (cap := []) zbm.nd rfl (by rfl) (by rfl) (zaX (osc := (zab zcu)) (ON := zd4) rfl rfl (by decide +kernel)) (SIt.toC (zci (by rfl) T.b_range (zav (vb_ 1) zaQ))) (fun _ _ _ _ _ _ => (zaD 0 (show List.Nodup (["_law_hand"] : List Str) by decide +kernel) (by rfl) (by first | exact Or.inl rfl | exact Or.inr rfl))) (zcx (by decide)) (fun _ _ _ _ _ _ => zdR) (fun _ _ _ _ _ _ => (zeP zbC)))
      (zaa (zaV 6 zbm.nd (by rfl) (by first | exact Or.inl rfl | exact Or.inr rfl) zam)
      (zaa (zhS PassesOwn.never rfl (zk4 (v_ 2)) (zaD 7 zbm.nd (by rfl) (by first | exact Or.inl rfl | exact Or.inr rfl)) (zaa (zaV 8 zbm.nd (by rfl) (by first | exact Or.inl rfl | exact Or.inr rfl) (zqe (vb_ 3) (zhq (vb_ 6)) (zhq (SE.toB (zbQ (vb_ 6) (SE.toB (zdd (by rfl) T.b_len (zav (vb_ 7) zaQ))))))))
      (zaa (zaV 6 zbm.nd (by rfl) (by first | exact Or.inl rfl | exact Or.inr rfl) (zbQ (vb_ 6) (SE.toB (zdd (by rfl) T.b_len (zav (vb_ 7) zaQ)))))
      (zaa (zhS PassesOwn.never rfl (zk4 (v_ 7)) (zaD 9 zbm.nd (by rfl) (by first | exact Or.inl rfl | exact Or.inr rfl)) (zaa (zaV 10 zbm.nd (by rfl) (by first | exact Or.inl rfl | exact Or.inr rfl) (zat (dds := []) c__law_row (hr.mono (by decide)) (m_sh (zat (dds := []) c__law_cell (hr.mono (by decide)) (m_bw (vb_ 0) (m_bw (SE.toB (zbQ (SE.toB zam) (vb_ 9))) zaK))) (m_bw (vb_ 1) zaK))))
      (zaa (zhQ 4 hu1 rfl (by rfl) (by first | exact Or.inl rfl | exact Or.inr (Or.inl rfl) | exact Or.inr (Or.inr rfl)) (vb_ 9) (zbQ (vb_ 8) (SE.toB (zcg (by rfl) T.b_tuple (zav (SO.toB (zdU (X := (cxOf CX0 P w K mg base zd4 "law" (zab zcu) fa cdv A outer s H E).nox) (N' := ["_law_thing","_law_own"]) (nl := 1) (cap := [8]) zbm.nd rfl (zaX (osc := (zab zcu)) (ON := zd4) rfl rfl (by decide +kernel)) (ze8 (vb_ 10)) (fun _ _ _ _ _ _ => (zaD 0 (show List.Nodup (["_law_thing","_law_own"] : List Str) by decide +kernel) (by rfl) (by first | exact Or.inl rfl | exact Or.inr rfl))) (zcx (by decide)) (fun _ _ _ _ _ _ => (ziS (zop hu1 (vb_ 0) (vb_ 1)))) (fun _ _ _ _ _ _ => (v_ 0)))) zaQ)))))
      (zaa (zhQ 5 hu1 rfl (by rfl) (by first | exact Or.inl rfl | exact Or.inr (Or.inl rfl) | exact Or.inr (Or.inr rfl)) (vb_ 9) (zcg (by rfl) T.b_tuple (zav (SO.toB (zdU (X := (cxOf CX0 P w K mg base zd4 "law" (zab zcu) fa cdv A outer s H E).nox) (N' := ["_law_thing","_law_own","_law_company"]) (nl := 1) (cap := [8,7]) zbm.nd rfl (zaX (osc := (zab zcu)) (ON := zd4) rfl rfl (by decide +kernel)) (SIt.toC (zci (by rfl) T.b_range (zav (vb_ 1) zaQ))) (fun _ _ _ _ _ _ => (zaD 0 (show List.Nodup (["_law_thing","_law_own","_law_company"] : List Str) by decide +kernel) (by rfl) (by first | exact Or.inl rfl | exact Or.inr rfl))) (zcx (by decide)) (fun _ _ _ _ _ _ => zdR) (fun _ _ _ _ _ _ => (zaH hu1 (SO.toB (zeT (zaJ (zeP (zaJ zam (zaJ zam zbC))) (zaJ (zeP (zaJ zam (zaJ (zdd (by rfl) T.b_len (zav (vb_ 2) zaQ)) zbC))) zbC)))) (SE.toB (zn2 (by rfl) T.b_int (zav (SE.toB (s_in hu1 (vb_ 0) (vb_ 1))) zaQ))))))) zaQ)))
      zaj))))
      zaj))))
      (zaa (zqj (zat (dds := []) c_eaten (hr.mono (by decide)) (m_bw (SE.toB (zcg (by rfl) T.b_tuple (zav (vb_ 4) zaQ))) zaK)) (zk8 rfl (zc7 (zaD 11 zbm.nd (by rfl) (by first | exact Or.inl rfl | exact Or.inr rfl)) (zc7 (zaD 12 zbm.nd (by rfl) (by first | exact Or.inl rfl | exact Or.inr rfl)) zk9))))
      (zaa (s_if (SW.toQ (q_or (q_ne hu64 (vb_ 11) (SE.toB (zcg (by rfl) T.b_tuple (zav (vb_ 5) zaQ)))) (zon (zkD (zhY (SE.toB (zat (dds := []) c__law_rising (hr.mono (by decide)) (m_sh (v_ 12) zaK)))))))) (zaa (zbk s_bl)
      zaj)
      zaj)
      (zaa (zaV 13 zbm.nd (by rfl) (by first | exact Or.inl rfl | exact Or.inr rfl) (zat (dds := []) c__law_due_log (hr.mono (by decide)) (m_bw (vb_ 2) (m_bw (vb_ 3) zaK))))
      (zaa (zbk (zn6 (s_eq hu64 (SE.toB (zdd (by rfl) T.b_len (zav (vb_ 12) zaQ))) (SE.toB (zdd (by rfl) T.b_len (zav (vb_ 13) zaQ)))) (znY (zn7 rfl (by rfl) T.b_all (zav (SO.toB (zdU (X := (cxOf CX0 P w K mg base zd4 "law" (zab zcu) fa cdv A outer s H E).nox) (N' := ["_law_pair","_law_dues"]) (nl := 1) (cap := [13]) zbm.nd rfl (zaX (osc := (zab zcu)) (ON := zd4) rfl rfl (by decide +kernel)) (ze8 (vb_ 12)) (fun _ _ _ _ _ _ => (zaD 0 (show List.Nodup (["_law_pair","_law_dues"] : List Str) by decide +kernel) (by rfl) (by first | exact Or.inl rfl | exact Or.inr rfl))) (zcx (by decide)) (fun _ _ _ _ _ _ => zdR) (fun _ _ _ _ _ _ => (zqh hu64 (vb_ 0) (vb_ 1))))) zaQ)))))
      zaj)))))))))))
end Law
end
section
namespace Law
open PySem L2 DL
noncomputable abbrev nD (k : Nat) : D := .int (k : Int)
noncomputable abbrev LN (l : List Nat) : D := .lst (l.map nD)
noncomputable abbrev TN (l : List Nat) : D := .tup (l.map nD)
noncomputable abbrev WD (rows : List (List Nat)) : D := .tup (rows.map TN)
theorem szOk {ds : List D} (h : ds.length≤1000) : sz ds = some ds := zqb (Nat.le_trans h (by rw [sizeLine_eq]; decide))
@[simp] theorem addA_int (a b : Int) : addA (.int a) (.int b) = some (.int (a + b)) := rfl
theorem zjd {a b : Int} (h : CMul a b) : mulI (.int a) (.int b) = some (.int (a * b)) := by rw [mulI,intsC_int,if_pos h]
theorem zgP {a b : Int} (h : 0 < b) : modI (.int a) (.int b) = some (.int (a % b)) := by rw [modI,intsC_int,if_pos h]
theorem zlb {a b : Int} (h : CDiv a b) : zfy (.int a) (.int b) = some (.int (a / b)) := by rw [zfy,intsC_int,if_pos h]
theorem zag {s1 s2 : FS} {r r' : Rho} (h : s1 r = .nx r') : seqF s1 s2 r = s2 r' := by unfold seqF; rw [h]
theorem zaN {s1 s2 : FS} {r : Rho} {d : D} (h : s1 r = .rt d) : seqF s1 s2 r = .rt d := by unfold seqF; rw [h]
theorem zaq {m : List Md} {i : Nat} {f : FE} {r : Rho} {d : D} (h : f r = .ok d) : setF m i f r = .nx (r.set i (some d)) := by unfold setF; rw [h]; rfl
theorem zaS {m : List Md} {f : FE} {r : Rho} {d : D} (h : f r = .ok d) : retF m f r = .rt d := by unfold retF; rw [h]; rfl
theorem zpp {m : List Md} {p : FQ} {s1 s2 : FS} {r : Rho} {b : Bool} (h : p r = .ok b) : ifF m p s1 s2 r = if b = true then s1 r else s2 r := by unfold ifF; rw [h]; rfl
theorem if_t {m : List Md} {p : FQ} {s1 s2 : FS} {r : Rho} (h : p r = .ok true) : ifF m p s1 s2 r = s1 r := by rw [zpp h,if_pos rfl]
theorem if_f {m : List Md} {p : FQ} {s1 s2 : FS} {r : Rho} (h : p r = .ok false) : ifF m p s1 s2 r = s2 r := by rw [zpp h,if_neg Bool.false_ne_true]
theorem zc4 {fl : Rho→Res (List D)} {r : Rho} {ds : List D} (h : fl r = .ok ds) (hl : ds.length≤1000) : mkT fl r = .ok (.tup ds) := by unfold mkT; rw [h,bind_ok,szOk hl]; rfl
theorem zc5 {fl : Rho→Res (List D)} {r : Rho} {ds : List D} (h : fl r = .ok ds) (hl : ds.length≤1000) : mkL fl r = .ok (.lst ds) := by unfold mkL; rw [h,bind_ok,szOk hl]; rfl
theorem zeF {ds : List D} {d : D} (h : ds.length≤1000) : appD (.lst ds) [d] = some (.lst (ds++[d])) := by
  show (if ds.length < sizeLine then some (D.lst (ds++[d])) else none) = _
  rw [if_pos (by rw [sizeLine_eq]; omega)]
theorem zak {fl : Rho→Res (List D)} {dds zs : List D} {F : List D→Res D} {r : Rho} {d : D} (h1 : fl r = .ok zs) (h2 : F (zs++dds) = .ok d) : zau fl dds F r = .ok d := by unfold zau; rw [h1,bind_ok,h2]; rfl
theorem zai {f f' : FE} {k : D→D→Option D} {r : Rho} {a b d : D} (h1 : f r = .ok a) (h2 : f' r = .ok b) (h3 : k a b = some d) : f2 f f' k r = .ok d := by unfold f2; rw [h1,bind_ok,h2,bind_ok,h3]; rfl
theorem zbi {fl : Rho→Res (List D)} {k : List D→Option D} {r : Rho} {ds : List D} {d : D} (h1 : fl r = .ok ds) (h2 : k ds = some d) : fC fl k r = .ok d := by unfold fC; rw [h1,bind_ok,h2]; rfl
theorem zad {f : FE} {fl : Rho→Res (List D)} {r : Rho} {d : D} {ds : List D} (h1 : f r = .ok d) (h2 : fl r = .ok ds) : zac f fl r = .ok (d::ds) := by unfold zac; rw [h1,bind_ok,h2]; rfl
theorem zah {r : Rho} : lNil r = .ok [] := rfl
theorem za2 {f : FE} {r : Rho} {b : Bool} (h : f r = .ok (.bl b)) : za1 f r = .ok b := by unfold za1; rw [h]; rfl
theorem zcD {f : FE} {r : Rho} {d : D} {b : Bool} (h : f r = .ok d) (h2 : truD d = some b) : fTru f r = .ok b := by unfold fTru; rw [h,bind_ok,h2]; rfl
theorem zhs {p : FQ} {r : Rho} {b : Bool} (h : p r = .ok b) : fNot p r = .ok (! b) := by unfold fNot; rw [h]; rfl
theorem zqQ {p q : FQ} {r : Rho} (h : p r = .ok true) : fAnd p q r = q r := by unfold fAnd; rw [h]; rfl
theorem zqR {p q : FQ} {r : Rho} (h : p r = .ok false) : fAnd p q r = .ok false := by unfold fAnd; rw [h]; rfl
theorem or_f {p q : FQ} {r : Rho} (h : p r = .ok false) : fOr p q r = q r := by unfold fOr; rw [h]; rfl
theorem znz {f f' : FE} {r : Rho} (h : f r = .ok (.bl true)) : vAnd f f' r = f' r := by unfold vAnd; rw [h]; rfl
theorem zbq {m : List Md} {fi : FI} {ft : FT} {b : FS} {r : Rho} {ds : List D} (h : fi r = .ok ds) : zcb m fi ft b r = forF ft b ds r := by unfold zcb; rw [h]; rfl
theorem zcv {f : FE} {r : Rho} {d : D} {ds : List D} (h : f r = .ok d) (h2 : za7 d = some ds) : fSeq za7 f r = .ok ds := by unfold fSeq; rw [h,bind_ok,h2]; rfl
theorem zbs {ft : FT} {b : FS} {r : Rho} : forF ft b [] r = .nx r := by unfold forF; rfl
theorem zbS {ft : FT} {b : FS} {r r1 r' : Rho} {d : D} {ds : List D} (h1 : ft d r = some r1) (h2 : b r1 = .nx r') : forF ft b (d::ds) r = forF ft b ds r' := by
  conv => lhs; unfold forF
  simp only [h1,h2]
theorem zik {m : List Md} {p : FQ} {b : FS} {n : Nat} {r : Rho} (h : p r = .ok false) : zbf m p b (n + 1) r = .nx r := by unfold zbf; rw [h]; rfl
theorem zij {m : List Md} {p : FQ} {b : FS} {n : Nat} {r r' : Rho} (h : p r = .ok true) (h2 : b r = .nx r') : zbf m p b (n + 1) r = zbf m p b n r' := by
  conv => lhs; unfold zbf
  rw [h,onE_ok,if_pos rfl,h2]
theorem ze3 {T : String} {m : List Md} {i : Nat} {fl : Rho→Res (List D)} {mk : D→List D→Option D} {r : Rho} {d d' : D} {ds : List D} (h1 : r[i]? = some (some d)) (h2 : tyB T d = true) (h3 : fl r = .ok ds) (h4 : mk d ds = some d') : mutF T m i fl mk r = .nx (r.set i (some d')) := by
  unfold mutF; rw [h1]; simp only [h2,if_true,h3,onE_ok,h4]
theorem ze0 {m : List Md} {i : Nat} {fk fv : FE} {r : Rho} {d k v d' : D} (h1 : r[i]? = some (some d)) (h2 : fv r = .ok v) (h3 : fk r = .ok k) (h4 : stoD d k v = some d') : DL.putF m i fk fv r = .nx (r.set i (some d')) := by
  unfold DL.putF; rw [h2,onE_ok]; simp only [h1,h3,onE_ok,h4]
theorem zj4 {ft : FT} {q : FQ} {fe : FE} {r0 : Rho} : zdh ft q fe r0 [] = .ok [] := by unfold zdh; rfl
theorem zgq {ft : FT} {q : FQ} {fe : FE} {r0 : Rho} {α : Type} (e : α→D) (keep : α→Bool) (g : α→D) : ∀ (l : List α),(∀ a∈l,∃ r1,ft (e a) r0 = some r1∧q r1 = .ok (keep a)∧(keep a = true→fe r1 = .ok (g a)))→zdh ft q fe r0 (l.map e) = .ok ((l.filter keep).map g)
  | [],_ => zj4
  | a::l,h => by
    obtain ⟨r1,h1,h2,h3⟩ := h a List.mem_cons_self
    have ih := zgq (ft := ft) (q := q) (fe := fe) (r0 := r0) e keep g l fun b hb => h b (List.mem_cons_of_mem _ hb)
    rw [List.map_cons]
    conv => lhs; unfold zdh
    rw [h1,opt_some,bind_ok,h2,bind_ok]
    cases k : keep a with
    | true => rw [if_pos rfl,h3 k,bind_ok,ih,bind_ok,List.filter_cons,if_pos k]; rfl
    | false => rw [if_neg Bool.false_ne_true,ih,List.filter_cons,if_neg (by rw [k]; exact Bool.false_ne_true)]
theorem zfB {nl : Nat} {cap : List Nat} {fi : FI} {ft : FT} {q : FQ} {fe : FE} {r : Rho} {α : Type} {l : List α} (e : α→D) (keep : α→Bool) (g : α→D) (h1 : fi r = .ok (l.map e)) (hl : l.length≤1000)
    (h : ∀ a∈l,∃ r1,ft (e a) (capR nl cap r) = some r1∧q r1 = .ok (keep a)∧(keep a = true→fe r1 = .ok (g a))) : zb8 nl cap fi ft q fe r = .ok (.lst ((l.filter keep).map g)) := by
  unfold zb8
  rw [h1,bind_ok,szOk (by simpa using hl),opt_some,bind_ok,zgq e keep g l h,noXL_ok,bind_ok]
theorem zo2 (a b : Nat) : ltI (nD a) (nD b) = some (.bl (decide (a < b))) := by
  show some (D.bl (decide ((a : Int) < (b : Int)))) = _
  simp only [Int.ofNat_lt]
theorem zqG (a b : Nat) : gtI (nD a) (nD b) = some (.bl (decide (b < a))) := by
  show some (D.bl (decide ((b : Int) < (a : Int)))) = _
  simp only [Int.ofNat_lt]
theorem zjQ (a b : Nat) : eqD (nD a) (nD b) = some (.bl (decide (a = b))) := by
  unfold eqD
  rw [eqB_int]
  show some (D.bl ((a : Int) == (b : Int))) = _
  have : ((a : Int) == (b : Int)) = decide (a = b) := by rw [Bool.eq_iff_iff,beq_iff_eq,decide_eq_true_iff]; exact Int.ofNat_inj
  rw [this]
theorem zqz (a b : Nat) : neD (nD a) (nD b) = some (.bl (! decide (a = b))) := by
  unfold neD
  rw [eqB_int]
  show some (D.bl (!((a : Int) == (b : Int)))) = _
  have : ((a : Int) == (b : Int)) = decide (a = b) := by rw [Bool.eq_iff_iff,beq_iff_eq,decide_eq_true_iff]; exact Int.ofNat_inj
  rw [this]
theorem zaW {B : FS} {n : Nat} {ds : List D} {d : D} (h : B (zar n ds) = .rt d) : outR false (B (zar n ds)) = .ok d := by rw [h]; rfl
noncomputable abbrev kI (k : Nat) : Key := Sum.inl (k : Int)
theorem zlY (kvs : List (Nat × D)) (k : Nat) : hasK (kvs.map fun p => (kI p.1,p.2)) (kI k) = decide (k∈kvs.map (·.1)) := by
  unfold hasK
  rw [List.any_map,Bool.eq_iff_iff,List.any_eq_true,decide_eq_true_iff,List.mem_map]
  constructor
  · rintro ⟨p,h1,h2⟩
    refine ⟨p,h1,?_⟩
    simp only [Function.comp_apply,decide_eq_true_eq] at h2
    have : ((p.1 : Nat) : Int) = (k : Int) := Sum.inl.inj h2
    exact Int.ofNat.inj this
  · rintro ⟨p,h1,rfl⟩
    exact ⟨p,h1,by simp⟩
theorem zkE (kvs : List (Nat × D)) (k : Nat) (d : D) (h : k∉kvs.map (·.1)) : putD (kvs.map fun p => (kI p.1,p.2)) (kI k) d = (kvs++[(k,d)]).map fun p => (kI p.1,p.2) := by
  unfold putD
  have e : ((kvs.map fun p => (kI p.1,p.2)).any fun kv => decide (kv.1 = kI k)) = decide (k∈kvs.map (·.1)) := zlY kvs k
  rw [e,decide_eq_false h,if_neg Bool.false_ne_true,List.map_append]
  rfl
@[simp] theorem e_seq (s1 s2 : FS) (r : Rho) : seqF s1 s2 r = (match s1 r with | .nx r' => s2 r' | o => o) := rfl
@[simp] theorem e_skip (r : Rho) : zap r = .nx r := rfl
@[simp] theorem e_set (m : List Md) (i : Nat) (f : FE) (r : Rho) : setF m i f r = onE m r (f r) fun d => .nx (r.set i (some d)) := rfl
@[simp] theorem e_ret (m : List Md) (f : FE) (r : Rho) : retF m f r = onE m r (f r) fun d => .rt d := rfl
@[simp] theorem e_if (m : List Md) (p : FQ) (s1 s2 : FS) (r : Rho) : ifF m p s1 s2 r = onE m r (p r) fun c => if c = true then s1 r else s2 r := rfl
@[simp] theorem e_getV (r : Rho) (i : Nat) : getV r i = (match r[i]? with | some (some d) => .ok d | _ => .stuck) := rfl
@[simp] theorem e_f1 (f : FE) (k : D→Option D) (r : Rho) : f1 f k r = (f r).bind fun d => opt (k d) := rfl
@[simp] theorem e_f2 (f f' : FE) (k : D→D→Option D) (r : Rho) : f2 f f' k r = (f r).bind fun a => (f' r).bind fun b => opt (k a b) := rfl
@[simp] theorem e_fC (fl : Rho→Res (List D)) (k : List D→Option D) (r : Rho) : fC fl k r = (fl r).bind fun ds => opt (k ds) := rfl
@[simp] theorem e_lN (r : Rho) : lNil r = .ok [] := rfl
@[simp] theorem e_lC (f : FE) (fl : Rho→Res (List D)) (r : Rho) : zac f fl r = (f r).bind fun d => (fl r).bind fun ds => .ok (d::ds) := rfl
@[simp] theorem e_test (f : FE) (r : Rho) : za1 f r = (f r).bind fun d => opt (asB d) := rfl
@[simp] theorem e_tru (f : FE) (r : Rho) : fTru f r = (f r).bind fun d => opt (truD d) := rfl
@[simp] theorem e_not (p : FQ) (r : Rho) : fNot p r = (p r).bind fun c => .ok (! c) := rfl
@[simp] theorem e_and (p q : FQ) (r : Rho) : fAnd p q r = (p r).bind fun c => if c = true then q r else .ok false := rfl
@[simp] theorem e_or (p q : FQ) (r : Rho) : fOr p q r = (p r).bind fun c => if c = true then .ok true else q r := rfl
@[simp] theorem e_vand (f f' : FE) (r : Rho) : vAnd f f' r = (f r).bind fun d => (opt (asB d)).bind fun c => if c = true then f' r else .ok (.bl false) := rfl
@[simp] theorem e_vor (f f' : FE) (r : Rho) : vOr f f' r = (f r).bind fun d => (opt (asB d)).bind fun c => if c = true then .ok (.bl true) else f' r := rfl
@[simp] theorem e_vnot (f : FE) (r : Rho) : vNot f r = (f r).bind fun d => (opt (asB d)).bind fun c => .ok (.bl (! c)) := rfl
@[simp] theorem e_fIf (p : FQ) (f f' : FE) (r : Rho) : fIf p f f' r = (p r).bind fun c => if c = true then f r else f' r := rfl
@[simp] theorem e_call (fl : Rho→Res (List D)) (dds : List D) (F : List D→Res D) (r : Rho) : zau fl dds F r = (fl r).bind fun ds => noX (F (ds++dds)) := rfl
@[simp] theorem e_asB (b : Bool) : asB (.bl b) = some b := rfl
@[simp] theorem e_truB (b : Bool) : truD (.bl b) = some b := rfl
@[simp] theorem e_truL (ds : List D) : truD (.lst ds) = some (! ds.isEmpty) := rfl
@[simp] theorem e_loop (m : List Md) (fi : FI) (ft : FT) (b : FS) (r : Rho) : zcb m fi ft b r = onE m r (fi r) fun ds => forF ft b ds r := rfl
@[simp] theorem e_fSeq (k : D→Option (List D)) (f : FE) (r : Rho) : fSeq k f r = (f r).bind fun d => opt (k d) := rfl
@[simp] theorem e_asL (ds : List D) : za7 (.lst ds) = some ds := rfl
@[simp] theorem e_asT (ds : List D) : za7 (.tup ds) = some ds := rfl
@[simp] theorem e_mkT (fl : Rho→Res (List D)) (r : Rho) : mkT fl r = (fl r).bind fun ds => (opt (sz ds)).bind fun ds => .ok (.tup ds) := rfl
@[simp] theorem e_mkL (fl : Rho→Res (List D)) (r : Rho) : mkL fl r = (fl r).bind fun ds => (opt (sz ds)).bind fun ds => .ok (.lst ds) := rfl
@[simp] theorem e_lenL (ds : List D) : lenD [.lst ds] = some (.int ds.length) := rfl
@[simp] theorem e_lenT (ds : List D) : lenD [.tup ds] = some (.int ds.length) := rfl
@[simp] theorem e_lenK (ds : List (Key × D)) : lenD [.dic ds] = some (.int ds.length) := rfl
@[simp] theorem e_tupL (ds : List D) : tupD [.lst ds] = some (.tup ds) := rfl
@[simp] theorem e_listL (ds : List D) : zo5 [.lst ds] = some (.lst ds) := rfl
@[simp] theorem e_listT (ds : List D) : zo5 [.tup ds] = some (.lst ds) := rfl
@[simp] theorem e_isNN : isD .non .non = some (.bl true) := rfl
@[simp] theorem e_isLN (ds : List D) : isD (.lst ds) .non = some (.bl false) := rfl
@[simp] theorem e_isn1 : isnD .non .non = some (.bl false) := rfl
@[simp] theorem e_isn2 (i : Int) : isnD (.int i) .non = some (.bl true) := rfl
@[simp] theorem e_isn3 (ds : List D) : isnD (.tup ds) .non = some (.bl true) := rfl
@[simp] theorem e_valsD (kvs : List (Key × D)) : zp1 (.dic kvs) = some (.lst (kvs.map (·.2))) := rfl
theorem zjB {ds : List D} {i : Nat} {d : D} (h : ds[i]? = some d) : ixA (.tup ds) (nD i) = some d := by
  have hl : i < ds.length := (List.getElem?_eq_some_iff.mp h).1
  show atI ds (i : Int) = some d
  unfold atI ixN
  rw [if_pos (Int.natCast_nonneg i),if_pos (by omega)]
  simpa using h
theorem zh6 {ds : List D} {i : Nat} {d : D} (h : ds[i]? = some d) : ixA (.lst ds) (nD i) = some d := by
  have hl : i < ds.length := (List.getElem?_eq_some_iff.mp h).1
  show atI ds (i : Int) = some d
  unfold atI ixN
  rw [if_pos (Int.natCast_nonneg i),if_pos (by omega)]
  simpa using h
@[simp] theorem ixA_L0 (d : D) (ds : List D) : ixA (.lst (d::ds)) (.int 0) = some d := zh6 (i := 0) rfl
@[simp] theorem ixA_T0 (d : D) (ds : List D) : ixA (.tup (d::ds)) (.int 0) = some d := zjB (i := 0) rfl
theorem zqC {kvs : List (Key × D)} {k : Nat} {d : D} (h : getK kvs (kI k) = some d) : ixA (.dic kvs) (nD k) = some d := h
theorem anyE (l : List Nat) (k : Nat) : (l.map nD).any (fun y => eqs y (nD k)) = decide (k∈l) := by
  rw [List.any_map,Bool.eq_iff_iff,List.any_eq_true,decide_eq_true_iff]
  constructor
  · rintro ⟨x,h1,h2⟩
    have : (((x : Nat) : Int) == (k : Int)) = true := h2
    have := Int.ofNat_inj.mp (eq_of_beq this)
    subst this; exact h1
  · intro h
    exact ⟨k,h,by show (((k : Nat) : Int) == (k : Int)) = true; simp⟩
theorem zpz (l : List Nat) : (l.map nD).all zbT = true := by
  rw [List.all_eq_true]
  intro x hx
  obtain ⟨k,_,rfl⟩ := List.mem_map.mp hx
  rfl
theorem zoW (l : List Nat) (k : Nat) : ninD (nD k) (LN l) = some (.bl (! decide (k∈l))) := by
  show (if zbT (nD k) = true∧(l.map nD).all zbT = true then some ((l.map nD).any fun y => eqs y (nD k)) else none).map (fun b => D.bl (! b)) = _
  rw [if_pos ⟨rfl,zpz l⟩,anyE]; rfl
end Law
end
section
namespace Law
open PySem L2 DL
theorem zhw {α : Type} (f : α→D) (l : List α) : lenD [.tup (l.map f)] = some (nD l.length) := by
  show some (D.int ((l.map f).length : Int)) = _
  rw [List.length_map]
theorem zbF {α : Type} (f : α→D) (l : List α) : lenD [.lst (l.map f)] = some (nD l.length) := by
  show some (D.int ((l.map f).length : Int)) = _
  rw [List.length_map]
theorem zhD (n : Nat) : eqD (nD n) (nD n) = some (.bl true) := by
  have e := zjQ n n
  rw [decide_eq_true rfl] at e; exact e
theorem zof (n : Nat) : rngD 0 n = (List.range n).map nD := by
  unfold rngD
  refine List.map_congr_left fun i _ => ?_
  show D.int (0 + (i : Int)) = D.int (i : Int)
  rw [Int.zero_add]
theorem zmv (j : Int) : rng1 [.int j] = if -(2 ^ 62)≤j∧j < 2 ^ 62 then some (rngD 0 j.toNat) else none := rfl
theorem zet {n : Nat} (h : n≤1000) : rng1 [nD n] = some ((List.range n).map nD) := by
  rw [zmv,if_pos ⟨by omega,by omega⟩,Int.toNat_natCast,zof]
theorem zdg {fl : Rho→Res (List D)} {k : List D→Option (List D)} {r : Rho} {ds es : List D} (h1 : fl r = .ok ds) (h2 : k ds = some es) : fRng k fl r = .ok es := by unfold fRng; rw [h1,bind_ok,h2]; rfl
theorem zeA {p : Nat→Bool} : ∀ (l : List Nat),l.find? p = (l.filter p).head?
  | [] => rfl
  | a::l => by
    rw [List.find?_cons,List.filter_cons]
    cases h : p a with
    | true => simp
    | false => simpa using zeA l
noncomputable def own (owns : List (Option Nat)) (h : Nat) : Option Nat := (owns[h]?).join
end Law
end
section
namespace Law
open PySem L2 DL
theorem zhT {row : List Nat} {rest : List (List Nat)} : zaR [WD (row::rest)] = .ok (nD row.length) := by
  refine zaW (B := zcp) (n := 1) ?_
  unfold zcp
  exact zaN (zaS (zbi (zad (zai (a := WD (row::rest)) (b := .int 0) rfl rfl (ixA_T0 _ _)) zah) (zhw _ _)))
end Law
end
section
namespace Law
open PySem L2 DL
end Law
end
section
namespace Law
open PySem L2 DL
theorem zpd {a b : Nat} (h : kI a = kI b) : a = b := Int.ofNat_inj.mp (Sum.inl.inj h)
structure GI (t : Nat→Nat) (kvs : List (Nat × Nat)) (L : List Nat) : Prop where
  nd : (kvs.map (·.1)).Nodup
  val : ∀ p∈kvs,p.2 = t p.1
  key : ∀ h,h∈kvs.map (·.1)↔h∈L
theorem GI.len {t : Nat→Nat} {kvs : List (Nat × Nat)} {L line : List Nat} (g : GI t kvs L) (hs : ∀ h∈L,h∈line) : kvs.length≤line.length := by
  have := Rg.zft (m := line) g.nd fun h hh => hs h ((g.key h).mp hh)
  simpa using this
theorem GI.congr {t t' : Nat→Nat} {kvs : List (Nat × Nat)} {L : List Nat} (g : GI t kvs L) (h : ∀ x∈L,t' x = t x) : GI t' kvs L :=
  ⟨g.nd,fun p hp => by rw [g.val p hp,h p.1 ((g.key _).mp (List.mem_map.mpr ⟨p,hp,rfl⟩))],g.key⟩
theorem GI.mem {t : Nat→Nat} {kvs : List (Nat × Nat)} {L M : List Nat} (g : GI t kvs L) (h : ∀ x,x∈L↔x∈M) : GI t kvs M := ⟨g.nd,g.val,fun x => (g.key x).trans (h x)⟩
theorem GI.nil (t : Nat→Nat) : GI t [] [] := ⟨by simp,fun _ hp => (nomatch hp),fun h => by simp⟩
theorem zjM {α : Type} (l : List α) : l.filter (fun _ => true) = l := List.filter_eq_self.mpr fun _ _ => rfl
theorem GI.full {t : Nat→Nat} {kvs : List (Nat × Nat)} {L : List Nat} {n : Nat} (g : GI t kvs L) (h : ∀ x,x∈L↔x < n) : kvs.length = n := by
  have h1 := g.len (line := List.range n) fun x hx => List.mem_range.mpr ((h x).mp hx)
  have h2 := Rg.zft (l := List.range n) (m := kvs.map (·.1)) List.nodup_range fun x hx => (g.key x).mpr ((h x).mpr (List.mem_range.mp hx))
  simp at h1 h2; omega
noncomputable def Wr (rows : List (List Nat)) (h : Nat) : List Nat := (rows[h]?).getD []
theorem zoe {rows : List (List Nat)} {h : Nat} (hh : h < rows.length) : (rows.map TN)[h]? = some (TN (Wr rows h)) := by
  rw [List.getElem?_map]
  unfold Wr
  rw [List.getElem?_eq_getElem hh]; rfl
end Law
end
section
namespace Law
open PySem L2 DL
theorem zhu {a b : Nat} (h : 0 < b) : modI (nD a) (nD b) = some (nD (a % b)) := by
  rw [zgP (by omega : (0 : Int) < (b : Int))]
  show some (D.int _) = some (D.int _)
  rw [Int.natCast_emod]
theorem zgW {a b : Nat} (h : 0 < b) (h2 : b < 1000) : zfy (nD a) (nD b) = some (nD (a / b)) := by
  rw [zlb (⟨by omega,by omega⟩ : CDiv (a : Int) (b : Int))]
  show some (D.int _) = some (D.int _)
  rw [Int.natCast_ediv]
theorem zc8 (a b : Nat) : addA (nD a) (nD b) = some (nD (a + b)) := by
  rw [addA_int]
  show some (D.int _) = some (D.int _)
  rw [Int.natCast_add]
section
variable {f f' : FE} {r : Rho}
theorem zia {b : Int} (h : ∃ i : Int,f r = .ok (.int i)) (h' : f' r = .ok (.int b)) (hb : 0 < b) : ∃ c : Nat,f2 f f' modI r = .ok (nD c) := by
  obtain ⟨i,hi⟩ := h
  refine ⟨(i % b).toNat,zai hi h' ?_⟩
  rw [zgP hb]
  show some (D.int _) = some (D.int _)
  rw [Int.toNat_of_nonneg (Int.emod_nonneg _ (by omega))]
theorem exN (h : ∃ c : Nat,f r = .ok (nD c)) : ∃ i : Int,f r = .ok (.int i) := let ⟨c,e⟩ := h; ⟨c,e⟩
theorem zeB {b : Int} (h : ∃ i : Int,f r = .ok (.int i)) (h' : f' r = .ok (.int b)) (hb : -(2 ^ 64) < b∧b < 2 ^ 64) : ∃ i : Int,f2 f f' mulI r = .ok (.int i) := by
  obtain ⟨i,hi⟩ := h
  exact ⟨i * b,zai hi h' (zjd (.inr hb))⟩
theorem zlc (h : ∃ i : Int,f r = .ok (.int i)) (h' : ∃ i : Int,f' r = .ok (.int i)) : ∃ i : Int,f2 f f' addA r = .ok (.int i) := by
  obtain ⟨i,hi⟩ := h
  obtain ⟨j,hj⟩ := h'
  exact ⟨i + j,zai hi hj rfl⟩
end
theorem zpB {m : List Md} {i : Nat} {f : FE} {s2 : FS} {r : Rho} (h : ∃ c : Nat,f r = .ok (nD c)) (k : ∀ c : Nat,∃ d : Nat,s2 (r.set i (some (nD c))) = .rt (nD d)) : ∃ d : Nat,seqF (setF m i f) s2 r = .rt (nD d) := by
  obtain ⟨c,hc⟩ := h
  obtain ⟨d,hd⟩ := k c
  exact ⟨d,(zag (zaq hc)).trans hd⟩
noncomputable abbrev IN (ns : List Int) : D := .lst (ns.map .int)
theorem zds (ns : List Int) (k : Nat) (hk : k≤1000) : ∃ c : Nat,zaF [IN ns,nD k] = .ok (nD c) := by
  suffices h : ∃ c : Nat,zbY (zar 4 [IN ns,nD k]) = .rt (nD c) by
    obtain ⟨c,hc⟩ := h
    exact ⟨c,zaW (B := zbY) (n := 4) hc⟩
  unfold zbY
  have st : seqF (setF q104 2 (ci 0)) = seqF (setF q104 2 (fun _ => Res.ok (nD 0))) := rfl
  rw [st]
  refine zpB ⟨0,rfl⟩ fun c1 => ?_
  show ∃ d : Nat,seqF _ _ [some (IN ns),some (nD k),some (nD c1),none] = _
  have key : ∃ c2 : Nat,(ifF q104 (za1 (f2 (gv 1) (fC (zac (gv 0) lNil) lenD) ltI)) (seqF (setF q104 2 (f2 (f2 (gv 0) (gv 1) ixA) (f2 (ci 10) (ci 60) powI) modI)) zap) zap) [some (IN ns),some (nD k),some (nD c1),none] = .nx [some (IN ns),some (nD k),some (nD c2),none] := by
    have t := za2 (zai (f := gv 1) (r := [some (IN ns),some (nD k),some (nD c1),none]) (a := nD k) rfl (zbi (zad (f := gv 0) (d := IN ns) rfl zah) (zbF _ _)) (zo2 k ns.length))
    by_cases hlt : k < ns.length
    · rw [decide_eq_true hlt] at t
      have hx : (ns.map D.int)[k]? = some (.int ns[k]) := by rw [List.getElem?_map,List.getElem?_eq_getElem hlt]; rfl
      have hp : powI (.int 10) (.int 60) = some (.int (10 ^ 60)) := by
        show zeV CPow _ _ _ = _
        rw [intsC_int,if_pos (by unfold CPow; decide)]
        rfl
      obtain ⟨c2,h2⟩ := zia (f := f2 (gv 0) (gv 1) ixA) (f' := f2 (ci 10) (ci 60) powI) (r := [some (IN ns),some (nD k),some (nD c1),none]) ⟨ns[k],zai (a := IN ns) (b := nD k) rfl rfl (zh6 hx)⟩ (zai rfl rfl hp) (by decide)
      exact ⟨c2,(if_t t).trans ((zag (zaq h2)).trans rfl)⟩
    · rw [decide_eq_false hlt] at t
      exact ⟨c1,(if_f t).trans rfl⟩
  obtain ⟨c2,h2⟩ := key
  rw [zag h2]
  have kq : ∃ b,(fAnd (za1 (f2 (fC (zac (gv 0) lNil) lenD) (ci 0) gtI)) (za1 (f2 (f2 (f2 (gv 0) (ci 0) ixA) (ci 2) modI) (ci 0) eqD))) [some (IN ns),some (nD k),some (nD c2),none] = .ok b := by
    have t := za2 (zai (f := fC (zac (gv 0) lNil) lenD) (f' := fun _ => Res.ok (D.int 0)) (r := [some (IN ns),some (nD k),some (nD c2),none]) (b := nD 0) (zbi (zad (d := IN ns) rfl zah) (zbF _ _)) rfl (zqG ns.length 0))
    cases ns with
    | nil => exact ⟨false,zqR t⟩
    | cons a ns =>
      rw [decide_eq_true (by simp)] at t
      obtain ⟨c3,h3⟩ := zia (f := f2 (gv 0) (ci 0) ixA) (f' := fun _ => Res.ok (D.int 2)) (r := [some (IN (a::ns)),some (nD k),some (nD c2),none]) ⟨a,zai (a := IN (a::ns)) (b := .int 0) rfl rfl (ixA_L0 _ _)⟩ rfl (by decide)
      exact ⟨_,(zqQ t).trans (za2 (zai h3 (b := nD 0) rfl (zjQ c3 0)))⟩
  obtain ⟨b,hb⟩ := kq
  cases b with
  | true => exact ⟨c2,zaN ((if_t hb).trans (zaN (zaS (d := nD c2) rfl)))⟩
  | false =>
    rw [zag ((if_f (s2 := zap) hb).trans (e_skip _))]
    refine zpB (zia (zeB (exN (zia (zeB (zlc (zlc (zlc ⟨(c2 : Int),rfl⟩ (zeB (b := (k : Int)) (zeB (b := (k : Int)) ⟨7,rfl⟩ rfl (by omega)) rfl (by omega))) (zeB (b := (k : Int)) ⟨13,rfl⟩ rfl (by omega))) ⟨5,rfl⟩) rfl (by decide)) rfl (by decide))) rfl (by decide)) rfl (by decide)) fun c3 => ?_
    obtain ⟨c4,h4⟩ := zia (f := (f2 (f2 (f2 (f2 (gv 3) (ci 1) addA) (ci 40692) mulI) (ci 2147483629) modI) (ci 39373) mulI)) (f' := fun _ => Res.ok (D.int 999999937)) (r := [some (IN ns),some (nD k),some (nD c2),some (nD c3)]) (zeB (exN (zia (zeB (zlc ⟨(c3 : Int),rfl⟩ ⟨1,rfl⟩) rfl (by decide)) rfl (by decide))) rfl (by decide)) rfl (by decide)
    exact ⟨c4,zaN (zaS h4)⟩
theorem zk3 {row : List Nat} {i : Int} {x : Nat} : insL (row.map nD) i (nD x) = (insL row i x).map nD := by
  unfold insL
  rw [List.length_map,List.map_append,List.map_cons,List.map_take,List.map_drop]
theorem zjF {row : List Nat} {i : Int} {x : Nat} : (insL row i x).Perm (x::row) := by
  unfold insL
  refine List.perm_middle.trans ?_
  rw [List.take_append_drop]
theorem zho (m : Nat) : ∀ (j i c : Nat) (row : List Nat) (x : Option D),row.Perm (List.range i)→i + j≤60 →
    ∃ (c' : Nat) (row' : List Nat) (x' : Option D),row'.Perm (List.range (i + j))∧forF (ftN 3) zd1 ((List.range' i j).map nD) [some (nD c),some (nD m),some (LN row),x] = .nx [some (nD c'),some (nD m),some (LN row'),x']
  | 0,i,c,row,x,hp,_ => ⟨c,row,x,hp,zbs⟩
  | j + 1,i,c,row,x,hp,hl => by
    have hlen : row.length = i := by rw [hp.length_eq]; simp
    obtain ⟨c',row',x',h1,h2⟩ := zho m j (i + 1) (c / (i + 1)) (insL row ((c % (i + 1) : Nat) : Int) i) (some (nD i)) (by
      refine zjF.trans ?_
      rw [List.range_succ]
      exact (List.Perm.cons i hp).trans (List.perm_append_singleton i _).symm) (by omega)
    refine ⟨c',row',x',by rw [show i + (j + 1) = i + 1 + j by omega]; exact h1,?_⟩
    rw [← h2]
    have hmod : c % (i + 1) < i + 1 := Nat.mod_lt _ (by omega)
    refine zbS (r1 := [some (nD c),some (nD m),some (LN row),some (nD i)]) rfl ?_
    refine (zag (ze3 (d := LN row) (ds := [nD (c % (i + 1)),nD i]) (d' := LN (insL row ((c % (i + 1) : Nat) : Int) i)) rfl rfl (zad (zai (a := nD c) (b := nD (i + 1)) rfl (zai (a := nD i) (b := nD 1) rfl rfl (zc8 i 1)) (zhu (by omega))) (zad (d := nD i) rfl zah)) ?_)).trans ?_
    · show (if _ then some (D.lst (insL _ _ _)) else none) = _
      rw [if_pos ⟨by rw [List.length_map,sizeLine_eq]; omega,by omega,by omega⟩,zk3]
    · exact zag (zaq (d := nD (c / (i + 1))) (zai (a := nD c) (b := nD (i + 1)) rfl (zai (a := nD i) (b := nD 1) rfl rfl (zc8 i 1)) (zgW (by omega) (by omega))))
theorem zgH (c m : Nat) (hm : m≤60) : ∃ row : List Nat,row.Perm (List.range m)∧zbe [nD c,nD m] = .ok (TN row) := by
  obtain ⟨c',row',x',h1,h2⟩ := zho m m 0 c [] none (by simp) (by omega)
  rw [Nat.zero_add] at h1
  rw [← List.range_eq_range'] at h2
  refine ⟨row',h1,zaW (B := zcV) (n := 4) ?_⟩
  unfold zcV
  refine (zag (zaq (d := LN []) (zc5 zah (by simp)))).trans ?_
  refine (zag ((zbq (ds := (List.range m).map nD) (zdg (zad (d := nD m) rfl zah) (zet (by omega)))).trans h2)).trans ?_
  exact zaN (zaS (zbi (zad (d := LN row') rfl zah) rfl))
end Law
end
section
namespace Law
open PySem PyProof.Rows L2 DL
theorem zqK (a b : Nat) : eqs (nD a) (nD b) = decide (a = b) := by
  show (((a : Nat) : Int) == (b : Int)) = _
  rw [Bool.eq_iff_iff,beq_iff_eq,decide_eq_true_iff]; exact Int.ofNat_inj
theorem zpA {T : String} {fo : FE} {fl : Rho→Res (List D)} {k : D→List D→Option D} {r : Rho} {d d' : D} {ds : List D} (h1 : fo r = .ok d) (ht : tyM T d = true) (h2 : fl r = .ok ds) (h3 : k d ds = some d') : fM T fo fl k r = .ok d' := by
  unfold fM; rw [h1,bind_ok,if_pos ht,h2,bind_ok,h3]; rfl
section
variable {a : Nat → Nat} {n : Nat}
end
end Law
end
section
namespace Law
open PySem PyProof.Rows L2 DL
theorem zfo {f : FE} {r : Rho} {i : Int} (h : f r = .ok (.int i)) : zfz f r = .ok (some i) := by unfold zfz; rw [h]; rfl
theorem znS {fa : FE} {fl fh : FP} {r : Rho} {d d' : D} {lo hi : Option Int} (h1 : fa r = .ok d) (h2 : fl r = .ok lo) (h3 : fh r = .ok hi) (h4 : slD d lo hi = some d') : fSl fa fl fh r = .ok d' := by
  unfold fSl; rw [h1,bind_ok,h2,bind_ok,h3,bind_ok,h4]; rfl
theorem ziE {ds : List D} {i : Nat} {v : D} (h : i < ds.length) : stoD (.lst ds) (nD i) v = some (.lst (ds.set i v)) := by
  show (ixN ds.length (i : Int)).map _ = _
  unfold ixN
  rw [if_pos (Int.natCast_nonneg i),if_pos (by omega)]
  simp
theorem zb2 {nl : Nat} {cap : List Nat} {fi : FI} {ft : FT} {fe : FE} {r : Rho} {α : Type} {l : List α} (e : α→D) (g : α→D) (h1 : fi r = .ok (l.map e)) (hl : l.length≤1000)
    (h : ∀ a∈l,∃ r1,ft (e a) (capR nl cap r) = some r1∧fe r1 = .ok (g a)) : zb8 nl cap fi ft (fun _ => Res.ok true) fe r = .ok (.lst (l.map g)) := by
  have := zfB (q := fun _ => Res.ok true) e (fun _ => true) g h1 hl fun a ha => by
    obtain ⟨r1,q1,q2⟩ := h a ha
    exact ⟨r1,q1,rfl,fun _ => q2⟩
  rw [this,zjM]
end Law
end
section
set_option exponentiation.threshold 3000
namespace Law
open PySem PyProof.Rows L2 DL Fq
noncomputable abbrev FR (x : Int × Nat) : D := .tup [.int x.1,nD x.2]
noncomputable abbrev LF (l : List (Int × Nat)) : D := .lst (l.map FR)
noncomputable abbrev TF (l : List (Int × Nat)) : D := .tup (l.map FR)
theorem znp : BIG = 2 ^ 2000 := rfl
theorem zjk {a k : Nat} (h : a < 2 ^ k) (hk : k≤2000) : a < BIG := by
  rw [znp]; exact Nat.lt_of_lt_of_le h (Nat.pow_le_pow_right (by omega) hk)
theorem zb7 {a b : Int} {k l : Nat} (h1 : a.natAbs < 2 ^ k) (h2 : b.natAbs < 2 ^ l) (hk : k≤2000) (hl : l≤2000) : mulW (.int a) (.int b) = some (.int (a * b)) := by
  rw [mulW,intsC_int,if_pos ⟨zjk h1 hk,zjk h2 hl⟩]
theorem zee {a : Int} {b k : Nat} (h0 : 0 < b) (h1 : b < 2 ^ k) (hk : k≤2000) : zgV (.int a) (nD b) = some (.int (a / (b : Int))) := by
  rw [zgV,intsC_int,if_pos ⟨by omega,by rw [Int.natAbs_natCast]; exact zjk h1 hk⟩]
theorem zoZ (b : Nat) : neD (nD b) (.int 0) = some (.bl (! decide (b = 0))) := zqz b 0
theorem zk7 {m : List Md} : ∀ (k n : Nat) (a : Int) (b : Nat) (x : Option D),b < 2 ^ k→2 * k + 1≤n →
    ∃ (a' : Int) (y : Option D),zbf m zaY zaZ n [some (.int a),some (nD b),x] = .nx [some (.int a'),some (nD 0),y]∧a'.natAbs = Int.gcd a b := by
  have z0 : ∀ (n : Nat) (a : Int) (x : Option D),1≤n→∃ (a' : Int) (y : Option D),zbf m zaY zaZ n [some (.int a),some (nD 0),x] = .nx [some (.int a'),some (nD 0),y]∧a'.natAbs = Int.gcd a 0 := by
    intro n a x hn
    obtain ⟨n,rfl⟩ : ∃ k,n = k + 1 := ⟨n - 1,by omega⟩
    exact ⟨a,x,zik (za2 (zai (a := nD 0) (b := .int 0) rfl rfl (zoZ 0))),by simp⟩
  have st : ∀ (n : Nat) (a : Int) (b : Nat) (x : Option D),0 < b→zbf m zaY zaZ (n + 1) [some (.int a),some (nD b),x] = zbf m zaY zaZ n [some (nD b),some (nD (a % (b : Int)).toNat),some (nD (a % (b : Int)).toNat)] := by
    intro n a b x hb
    have hne := zoZ b
    rw [decide_eq_false (by omega)] at hne
    refine zij (za2 (zai (a := nD b) (b := .int 0) rfl rfl hne)) ?_
    refine (zag (zaq (d := nD (a % (b : Int)).toNat) (zai (a := .int a) (b := nD b) rfl rfl ?_))).trans ?_
    · rw [zgP (by omega)]
      show some (D.int _) = some (D.int _)
      rw [Int.toNat_of_nonneg (Int.emod_nonneg _ (by omega))]
    refine (zag (zaq (d := nD b) rfl)).trans ?_
    exact zag (zaq (d := nD (a % (b : Int)).toNat) rfl)
  have hr : ∀ (a : Int) (b : Nat),0 < b→(((a % (b : Int)).toNat : Nat) : Int) = a % (b : Int)∧(a % (b : Int)).toNat < b := by
    intro a b hb
    have h1 := Int.emod_nonneg a (show (b : Int)≠0 by omega)
    have h2 := Int.emod_lt_of_pos a (show (0 : Int) < b by omega)
    exact ⟨Int.toNat_of_nonneg h1,by omega⟩
  intro k
  induction k with
  | zero =>
    intro n a b x hb hn
    have : b = 0 := by
      have : (2 : Nat) ^ 0 = 1 := rfl
      omega
    subst this
    exact z0 n a x (by omega)
  | succ k ih =>
    intro n a b x hb hn
    by_cases h0 : b = 0
    · subst h0; exact z0 n a x (by omega)
    · have hbp : 0 < b := by omega
      obtain ⟨n,rfl⟩ : ∃ j,n = j + 2 := ⟨n - 2,by omega⟩
      obtain ⟨r1,r2⟩ := hr a b hbp
      have e1 := st (n + 1) a b x hbp
      generalize (a % (b : Int)).toNat = r at r1 r2 e1
      rw [e1,zhz a b,← r1]
      by_cases hz : r = 0
      · subst hz
        exact z0 (n + 1) b _ (by omega)
      · obtain ⟨s1,s2⟩ := hr (b : Int) r (by omega)
        have e2 := st n (b : Int) r (some (nD r)) (by omega)
        have hs : ((b : Int) % (r : Int)).toNat = b % r := by omega
        rw [hs] at s1 s2 e2
        rw [e2,zhz (b : Int) r,← s1]
        refine ih n (r : Int) (b % r) _ ?_ (by omega)
        have h3 : b % r < r := Nat.mod_lt _ (by omega)
        have h4 : b % r≤b - r := by
          have := Nat.mod_eq_sub_mod (show r≤b by omega)
          rw [this]; exact Nat.mod_le _ _
        rw [Nat.pow_succ] at hb
        omega
theorem zeZ {a : Int} {b k : Nat} (hb : b < 2 ^ k) (hk : k≤499) : zbJ [.int a,nD b] = .ok (nD (Int.gcd a b)) := by
  obtain ⟨a',y,h1,h2⟩ := zk7 (m := q101) k 1000 a b none hb (by omega)
  refine zaW (B := zbL) (n := 3) ?_
  unfold zbL
  refine (zag h1).trans (zaN (zaS (zbi (zad (d := .int a') rfl zah) ?_)))
  show some (D.int (if a' < 0 then -a' else a')) = some (D.int _)
  rw [← h2]
  split <;> congr 2 <;> omega
theorem zms {t : Int} {b k : Nat} (h0 : 0 < b) (hb : b < 2 ^ k) (hk : k≤499) : zcR [.int t,nD b] = .ok (FR (low t b)) := by
  refine zaW (B := zcW) (n := 3) ?_
  unfold zcW
  have hg := zfw t h0
  have hgb : Int.gcd t b < 2 ^ k := by
    have h1 : Int.gcd t b ∣ b := Int.natCast_dvd_natCast.mp (Int.gcd_dvd_right t b)
    have := Nat.le_of_dvd h0 h1
    omega
  refine (zag (zaq (zak (zad (d := .int t) rfl (zad (d := nD b) rfl zah)) (zeZ hb hk)))).trans ?_
  refine zaN (zaS (zc4 (zad (zai (a := .int t) (b := nD (Int.gcd t b)) rfl rfl (zee hg hgb (by omega))) (zad (zai (a := nD b) (b := nD (Int.gcd t b)) rfl rfl (zee hg hgb (by omega))) zah)) (by simp)))
theorem zdV (x : Int × Nat) : ixA (FR x) (.int 0) = some (.int x.1) := rfl
theorem zdu (x : Int × Nat) : ixA (FR x) (.int 1) = some (nD x.2) := zjB (i := 1) rfl
section
variable {k l : Nat} {a b : Int × Nat}
end
theorem zf2 (ha : Bd k a) (hb : Bd l b) (hk : k≤2000) (hl : l≤2000) : zbX [FR a,FR b] = .ok (.bl (zjo a b)) := by
  refine zaW (B := zct) (n := 2) ?_
  unfold zct
  have i0 := zdV a
  have i1 := zdu a
  have j0 := zdV b
  have j1 := zdu b
  exact zaN (zaS (zai (zai (zai (a := FR a) rfl rfl i0) (zai (a := FR b) rfl rfl j1) (zb7 ha.top (by rw [Int.natAbs_natCast]; exact hb.bot) (by omega) (by omega))) (zai (zai (a := FR b) rfl rfl j0) (zai (a := FR a) rfl rfl i1) (zb7 hb.top (by rw [Int.natAbs_natCast]; exact ha.bot) (by omega) (by omega))) rfl))
theorem zhC : ∀ l : List (Int × Nat),PyData.eqvAll (zbg (l.map FR)) (zbg (l.map FR)) = true
  | [] => by simp [zbg,PyData.eqvAll]
  | x::l => by
    have ih := zhC l
    simp only [List.map_cons,zbg,toPy,PyData.eqvAll,PyData.eqv,ih]
    simp
theorem zqc {l : List (Int × Nat)} {k : Nat} : ∀ d∈l.map FR,Shp (k + 1) d := by
  intro d hd
  obtain ⟨x,_,rfl⟩ := List.mem_map.mp hd
  refine zbO.mpr ?_
  intro e he
  simp at he
  rcases he with rfl | rfl <;> (cases k <;> trivial)
theorem zmr {B : FS} {n : Nat} {ds : List D} {d : D} (h : B (zar n ds) = .rt d) : outR true (B (zar n ds)) = .ok d := by rw [h]; rfl
theorem znb {fa fb : FE} {r : Rho} {d e : D} {ds es : List D} (h1 : fa r = .ok d) (h2 : fb r = .ok e) (h3 : za7 d = some ds) (h4 : za7 e = some es) : fZip fa fb r = .ok (List.zipWith (fun a b => D.tup [a,b]) ds es) := by
  unfold fZip; rw [h1,bind_ok,h2,bind_ok,h3,opt_some,bind_ok,h4,opt_some,bind_ok]
theorem zpL {α : Type} (p : α→Bool) : ∀ l : List α,zfD (l.map fun x => D.bl (p x)) = some (l.map p)
  | [] => rfl
  | x::l => by
    show (zfD (l.map fun x => D.bl (p x))).map _ = _
    rw [zpL p l]; rfl
theorem zpP {α : Type} (p : α→Bool) (l : List α) : allD [.lst (l.map fun x => D.bl (p x))] = some (.bl (l.all p)) := by
  show (zfD (l.map fun x => D.bl (p x))).map _ = _
  rw [zpL]
  show some (D.bl ((l.map p).all id)) = _
  rw [List.all_map]; rfl
theorem zf0 (i : Int) : zcd [.int i] = .ok (.bl true) := rfl
theorem zoc {a : Int} {b k : Nat} (hb : b < 2 ^ k) (hk : k≤499) : zaU [.int a,nD b] = .ok (nD (Int.gcd a b)) := zeZ hb hk
theorem zbz {t : Int} {b k : Nat} (h0 : 0 < b) (hb : b < 2 ^ k) (hk : k≤499) : zax [.int t,nD b] = .ok (FR (low t b)) := by
  refine zaW (B := zcU) (n := 3) ?_
  unfold zcU
  have hg := zfw t h0
  have hgb : Int.gcd t b < 2 ^ k := by
    have h1 : Int.gcd t b ∣ b := Int.natCast_dvd_natCast.mp (Int.gcd_dvd_right t b)
    have := Nat.le_of_dvd h0 h1
    omega
  refine (zag ((if_f ?_).trans (e_skip _))).trans ?_
  · rw [or_f (zhs (b := true) (zcD (zak (zad (d := .int t) rfl zah) (zf0 t)) rfl)),or_f (zhs (b := true) (zcD (zak (zad (d := nD b) rfl zah) (zf0 b)) rfl))]
    have := zjQ b 0
    rw [decide_eq_false (by omega)] at this
    exact za2 (zai (a := nD b) (b := nD 0) rfl rfl this)
  refine (zag (zaq (zak (zad (d := .int t) rfl (zad (d := nD b) rfl zah)) (zoc hb hk)))).trans ?_
  refine (zag ((if_f ?_).trans (e_skip _))).trans ?_
  · have := zo2 b 0
    rw [decide_eq_false (by omega)] at this
    exact za2 (zai (a := nD b) (b := nD 0) rfl rfl this)
  refine zaN (zaS (zc4 (zad (zai (a := .int t) (b := nD (Int.gcd t b)) rfl rfl (zee hg hgb (by omega))) (zad (zai (a := nD b) (b := nD (Int.gcd t b)) rfl rfl (zee hg hgb (by omega))) zah)) (by simp)))
end Law
end
section
set_option exponentiation.threshold 3000
namespace Law
open PySem PyProof.Rows L2 DL Fq
noncomputable abbrev QF (z : Nat) : D := FR (Qd (z : Int))
section
variable {k l : Nat} {a b : Int × Nat}
theorem zkz (ha : Bd k a) (hb : Bd l b) (hl : k + l≤498) : zeN [FR a,FR b] = .ok (FR (ziX a b)) := by
  refine zaW (B := zhL) (n := 2) ?_
  unfold zhL
  have i0 := zdV a
  have i1 := zdu a
  have j0 := zdV b
  have j1 := zdu b
  refine zaN (zaS (zak (zad (zai (zai (zai (a := FR a) rfl rfl i0) (zai (a := FR b) rfl rfl j1) (zb7 ha.top (by rw [Int.natAbs_natCast]; exact hb.bot) (by omega) (by omega))) (zai (zai (a := FR b) rfl rfl j0) (zai (a := FR a) rfl rfl i1) (zb7 hb.top (by rw [Int.natAbs_natCast]; exact ha.bot) (by omega) (by omega))) rfl)
    (zad (d := nD (a.2 * b.2)) (zai (zai (a := FR a) rfl rfl i1) (zai (a := FR b) rfl rfl j1) ?_) zah)) ?_))
  · rw [zb7 (k := k) (l := l) (by rw [Int.natAbs_natCast]; exact ha.bot) (by rw [Int.natAbs_natCast]; exact hb.bot) (by omega) (by omega)]
    show some (D.int _) = some (D.int _)
    rw [Int.natCast_mul]
  · exact zbz (zch ha hb).1 (zch ha hb).2 (by omega)
theorem ziJ (ha : Bd k a) (hb : Bd l b) (hl : k + l≤498) : zeO [FR a,FR b] = .ok (FR (zlU a b)) := by
  refine zaW (B := zfM) (n := 2) ?_
  unfold zfM
  have i0 := zdV a
  have i1 := zdu a
  have j0 := zdV b
  have j1 := zdu b
  refine zaN (zaS (zak (zad (zai (zai (zai (a := FR a) rfl rfl i0) (zai (a := FR b) rfl rfl j1) (zb7 ha.top (by rw [Int.natAbs_natCast]; exact hb.bot) (by omega) (by omega))) (zai (zai (a := FR b) rfl rfl j0) (zai (a := FR a) rfl rfl i1) (zb7 hb.top (by rw [Int.natAbs_natCast]; exact ha.bot) (by omega) (by omega))) rfl)
    (zad (d := nD (a.2 * b.2)) (zai (zai (a := FR a) rfl rfl i1) (zai (a := FR b) rfl rfl j1) ?_) zah)) ?_))
  · rw [zb7 (k := k) (l := l) (by rw [Int.natAbs_natCast]; exact ha.bot) (by rw [Int.natAbs_natCast]; exact hb.bot) (by omega) (by omega)]
    show some (D.int _) = some (D.int _)
    rw [Int.natCast_mul]
  · exact zbz (zch ha hb).1 (zch ha hb).2 (by omega)
theorem zf1 (ha : Bd k a) (hb : Bd l b) (hl : k + l≤498) : zcm [FR a,FR b] = .ok (FR (zin a b)) := by
  refine zaW (B := zfL) (n := 2) ?_
  unfold zfL
  have i0 := zdV a
  have i1 := zdu a
  have j0 := zdV b
  have j1 := zdu b
  refine zaN (zaS (zak (zad (zai (zai (a := FR a) rfl rfl i0) (zai (a := FR b) rfl rfl j0) (zb7 ha.top hb.top (by omega) (by omega)))
    (zad (d := nD (a.2 * b.2)) (zai (zai (a := FR a) rfl rfl i1) (zai (a := FR b) rfl rfl j1) ?_) zah)) ?_))
  · rw [zb7 (k := k) (l := l) (by rw [Int.natAbs_natCast]; exact ha.bot) (by rw [Int.natAbs_natCast]; exact hb.bot) (by omega) (by omega)]
    show some (D.int _) = some (D.int _)
    rw [Int.natCast_mul]
  · exact zbz (zch ha hb).1 (zch ha hb).2 (by omega)
theorem zkA (ha : Bd k a) (hb : Bd l b) (hk : k≤2000) (hl : l≤2000) : zgA [FR a,FR b] = .ok (.bl (zjo a b)) := zf2 ha hb hk hl
end
theorem rp {a b : Nat} (ha : a≤DD) (hb : b≤DD) : zeN [QF a,QF b] = .ok (QF (a + b)) := by
  have := zkz (zeX ha) (zeX hb) (by omega)
  rw [zns,← Int.natCast_add] at this
  exact this
theorem rm {a b : Nat} (ha : a≤DD) (hb : b≤a) : zeO [QF a,QF b] = .ok (QF (a - b)) := by
  have := ziJ (zeX ha) (zeX (Nat.le_trans hb ha)) (by omega)
  rw [zlw,← Int.natCast_sub hb] at this
  exact this
theorem bd_n {c : Nat} (h : c≤7) : Bd 3 ((c : Int),1) := ⟨by show 0 < 1; decide,by show 1 < 8; decide,by rw [Int.natAbs_natCast]; show c < 8; omega⟩
theorem bd_1 {c : Nat} (h0 : 0 < c) (h : c≤7) : Bd 3 ((1 : Int),c) := ⟨h0,by show c < 8; omega,by show 1 < 8; decide⟩
theorem rt {c a : Nat} (hc : c≤7) (ha : a≤DD) : zcm [FR ((c : Int),1),QF a] = .ok (QF (c * a)) := by
  have := zf1 (bd_n hc) (zeX ha) (by omega)
  rw [zlv,← Int.natCast_mul] at this
  exact this
theorem rd {c a : Nat} (h0 : 0 < c) (hc : c≤7) (ha : a≤DD) (hd : c ∣ a) : zcm [QF a,FR ((1 : Int),c)] = .ok (QF (a / c)) := by
  have := zf1 (zeX ha) (bd_1 h0 hc) (by omega)
  rw [zpT h0 hd] at this
  exact this
theorem rl {a b : Nat} (ha : a≤DD) (hb : b≤DD) : zgA [QF a,QF b] = .ok (.bl (decide (a < b))) := by
  have := zkA (zeX ha) (zeX hb) (by omega) (by omega)
  rw [zke] at this
  rw [this]
  simp only [Int.ofNat_lt]
theorem rf1 {c : Nat} (h0 : 0 < c) (hc : c≤7) : zax [.int 1,nD c] = .ok (FR ((1 : Int),c)) := by
  have := zbz (t := 1) (b := c) (k := 3) h0 (by show c < 8; omega) (by omega)
  rw [zo4] at this; exact this
theorem rf2 (c : Nat) : zax [nD c,.int 1] = .ok (FR ((c : Int),1)) := by
  have := zbz (t := (c : Int)) (b := 1) (k := 1) (by decide) (by decide) (by omega)
  rw [low1] at this; exact this
theorem ze6 {d0 : D} : ∀ (l : List Nat) (m : Nat) (x : Option D),m≤DD→(∀ y∈l,y≤DD)→∃ x',forF (ftN 2) zgz (l.map QF) [some d0,some (QF m),x] = .nx [some d0,some (QF (l.foldl (fun m y => if y < m then y else m) m)),x']
  | [],m,x,_,_ => ⟨x,zbs⟩
  | y::l,m,x,hm,hl => by
    have hy := hl y List.mem_cons_self
    obtain ⟨x',ih⟩ := ze6 (d0 := d0) l (if y < m then y else m) (some (QF y)) (by split <;> assumption) (fun z hz => hl z (List.mem_cons_of_mem _ hz))
    refine ⟨x',?_⟩
    rw [List.map_cons,List.foldl_cons,← ih]
    refine zbS (r1 := [some d0,some (QF m),some (QF y)]) rfl ?_
    have t := rl hy hm
    by_cases h : y < m
    · rw [decide_eq_true h] at t
      rw [if_pos h]
      exact zag ((if_t (zcD (zak (zad (d := QF y) rfl (zad (d := QF m) rfl zah)) t) rfl)).trans (zag (zaq (d := QF y) rfl)))
    · rw [decide_eq_false h] at t
      rw [if_neg h]
      exact zag ((if_f (zcD (zak (zad (d := QF y) rfl (zad (d := QF m) rfl zah)) t) rfl)).trans (e_skip _))
theorem ziL {l : List Nat} (h : l≠[]) (hl : ∀ y∈l,y≤DD) : zfI [.lst (l.map QF)] = .ok (QF (Et.leastN l)) := by
  cases l with
  | nil => exact absurd rfl h
  | cons x l =>
    obtain ⟨x',e⟩ := ze6 (d0 := .lst ((x::l).map QF)) (x::l) x none (hl x List.mem_cons_self) hl
    rw [List.foldl_cons,if_neg (Nat.lt_irrefl x)] at e
    refine zaW (B := zfN) (n := 3) ?_
    unfold zfN
    refine (zag (zaq (d := QF x) (zai (a := .lst ((x::l).map QF)) (b := .int 0) rfl rfl (ixA_L0 _ _)))).trans ?_
    refine (zag ((zbq (zcv (d := .lst ((x::l).map QF)) rfl rfl)).trans e)).trans ?_
    exact zaN (zaS (d := QF (Et.leastN (x::l))) rfl)
noncomputable abbrev LD (T : List Nat) (a : Nat→Nat) : D := .dic (T.map fun x => (kI x,QF (a x)))
theorem zl0 (f : Nat→D) : ∀ {T : List Nat} {x : Nat},x∈T→getK (T.map fun x => (kI x,f x)) (kI x) = some (f x)
  | [],_,h => by cases h
  | y::T,x,h => by
    by_cases e : y = x
    · subst e; simp [getK,List.find?_cons]
    · have hne : ¬ kI y = kI x := fun z => e (zpd z)
      have ih := zl0 f (T := T) (x := x) ((List.mem_cons.mp h).resolve_left fun z => e z.symm)
      have e1 : getK ((y::T).map fun x => (kI x,f x)) (kI x) = getK (T.map fun x => (kI x,f x)) (kI x) := by
        simp only [getK,List.map_cons,List.find?_cons]
        rw [decide_eq_false hne]
      rw [e1]; exact ih
theorem zjr {T : List Nat} {a : Nat→Nat} {x : Nat} (h : x∈T) : ixA (LD T a) (nD x) = some (QF (a x)) := zqC (zl0 (fun x => QF (a x)) h)
theorem zlZ (f : Nat→D) (T : List Nat) (x : Nat) : hasK (T.map fun x => (kI x,f x)) (kI x) = decide (x∈T) := by
  have := zlY (T.map fun y => (y,f y)) x
  rw [List.map_map,List.map_map] at this
  have e : List.map ((fun p : Nat × D => p.1) ∘ fun y => (y,f y)) T = T := by
    have : ((fun p : Nat × D => p.1) ∘ fun y => (y,f y)) = id := rfl
    rw [this,List.map_id]
  rw [e] at this
  exact this
theorem zqD (T : List Nat) (a : Nat→Nat) (x : Nat) : inD (nD x) (LD T a) = some (.bl (decide (x∈T))) := by
  show (Option.map _ ((keyD (nD x)).map (hasK (T.map fun x => (kI x,QF (a x)))))) = _
  show some (D.bl (hasK (T.map fun x => (kI x,QF (a x))) (kI x))) = _
  rw [zlZ]
theorem zoU (T : List Nat) (a : Nat→Nat) (x : Nat) : ninD (nD x) (LD T a) = some (.bl (! decide (x∈T))) := by
  show (Option.map _ ((keyD (nD x)).map (hasK (T.map fun x => (kI x,QF (a x)))))) = _
  show some (D.bl (! hasK (T.map fun x => (kI x,QF (a x))) (kI x))) = _
  rw [zlZ]
theorem zgT (T : List Nat) (f : Nat→D) : zdv (.dic (T.map fun x => (kI x,f x))) = some (T.map nD) := by
  show some ((T.map fun x => (kI x,f x)).map fun kv => kyD kv.1) = _
  rw [List.map_map]; rfl
theorem zgS {f : FE} {r : Rho} {d : D} {ds : List D} (h : f r = .ok d) (h2 : zdv d = some ds) : fSeq zdv f r = .ok ds := by unfold fSeq; rw [h,bind_ok,h2]; rfl
theorem ziu {T : List Nat} {f : Nat→D} {x : Nat} (h : x∉T) (hl : T.length≤1000) : stoD (.dic (T.map fun x => (kI x,f x))) (nD x) (f x) = some (.dic ((T++[x]).map fun x => (kI x,f x))) := by
  show (if (T.map fun x => (kI x,f x)).length < sizeLine then some (D.dic (putD _ (kI x) (f x))) else none) = _
  rw [if_pos (by rw [List.length_map,sizeLine_eq]; omega)]
  have := zkE (T.map fun y => (y,f y)) x (f x) (by rw [List.map_map]; simpa [Function.comp_def] using h)
  rw [List.map_map] at this
  show some (D.dic (putD (T.map fun x => (kI x,f x)) (kI x) (f x))) = _
  have e : putD (T.map fun x => (kI x,f x)) (kI x) (f x) = (T++[x]).map fun x => (kI x,f x) := by
    refine Eq.trans this ?_
    rw [List.map_append,List.map_map,List.map_append]; rfl
  rw [e]
theorem ziN {row T : List Nat} {a : Nat→Nat} (h : ∃ x∈row,x∈T) (hl : row.length≤1000) : zbu [TN row,LD T a] = .ok (nD (Rg.best row T)) := by
  refine zaW (B := zcs) (n := 2) ?_
  unfold zcs
  have hc : (zb8 1 [1] (fSeq za7 (gv 0)) (ftN 0) (za1 (f2 (gv 0) (gv 1) inD)) (gv 0)) [some (TN row),some (LD T a)] = .ok (LN (row.filter fun x => decide (x∈T))) := by
    refine zfB nD (fun x => decide (x∈T)) nD (l := row) rfl hl fun x _ => ⟨[some (nD x),some (LD T a)],rfl,?_,fun _ => rfl⟩
    exact za2 (zai (a := nD x) (b := LD T a) rfl rfl (zqD _ _ _))
  have hb : ∃ t,(row.filter fun x => decide (x∈T)) = Rg.best row T::t := by
    unfold Rg.best
    rw [zeA]
    cases e : row.filter fun x => decide (x∈T) with
    | nil =>
      obtain ⟨x,h1,h2⟩ := h
      have : x∈row.filter fun x => decide (x∈T) := List.mem_filter.mpr ⟨h1,by simpa using h2⟩
      rw [e] at this; cases this
    | cons a t => exact ⟨t,rfl⟩
  obtain ⟨t,ht⟩ := hb
  rw [ht] at hc
  exact zaN (zaS (zai hc (b := .int 0) rfl (ixA_L0 _ _)))
theorem zj0 (l : List Nat) (t : Nat) : ze9 (LN l) [nD t] = some (nD (l.count t)) := by
  show (if zbT (nD t) = true∧(l.map nD).all zbT = true then some (D.int (((l.map nD).countP fun z => eqs z (nD t) : Nat) : Int)) else none) = _
  rw [if_pos ⟨rfl,zpz l⟩,List.countP_map]
  show some (D.int ((l.countP ((fun z => eqs z (nD t)) ∘ nD) : Nat) : Int)) = some (D.int ((l.count t : Nat) : Int))
  have : (fun z => eqs z (nD t)) ∘ nD = fun z => z == t := by
    funext z
    show eqs (nD z) (nD t) = _
    rw [zqK]
    by_cases h : z = t <;> simp [h]
  rw [this]; rfl
theorem zl3 (p q : Int × Nat) : eqB (FR p) (FR q) = some (decide (p = q)) := by
  have sh : ∀ x : Int × Nat,Shp 60 (FR x) := fun x => zbO.mpr fun e he => by
    simp at he
    rcases he with rfl | rfl <;> trivial
  rw [zfA rfl (sh p) (sh q)]
  unfold eqb
  simp only [toPy,zbg,PyData.eqv,PyData.eqvAll]
  congr 1
  rw [Bool.eq_iff_iff]
  simp
  constructor
  · rintro ⟨h1,h2⟩
    exact Prod.ext h1 (by omega)
  · rintro rfl
    exact ⟨rfl,rfl⟩
theorem zoY (p q : Int × Nat) : neD (FR p) (FR q) = some (.bl (! decide (p = q))) := by unfold neD; rw [zl3]; rfl
theorem zoX (a : Nat) : neD (QF a) (.tup [.int 0,.int 1]) = some (.bl (decide (a≠0))) := by
  have := zoY (Qd (a : Int)) (0,1)
  rw [← Qd_0] at this
  have e : decide (Qd (a : Int) = Qd 0) = decide (a = 0) := by
    rw [Bool.eq_iff_iff,decide_eq_true_iff,decide_eq_true_iff]
    constructor
    · intro h; have := zl7 h; omega
    · rintro rfl; rfl
  rw [e] at this
  rw [Qd_0] at this
  refine Eq.trans this ?_
  simp
end Law
end
section
set_option exponentiation.threshold 3000
namespace Law
open PySem PyProof.Rows L2 DL Fq
structure Sq (rows : List (List Nat)) (n : Nat) : Prop where
  n1 : 1≤n
  n7 : n≤7
  rl : rows.length = n
  rp : ∀ row∈rows,row.Perm (List.range n)
section
variable {rows : List (List Nat)} {n : Nat}
theorem Sq.row (R : Sq rows n) {h : Nat} (hh : h < n) : (Wr rows h).Perm (List.range n) := by
  unfold Wr
  rw [List.getElem?_eq_getElem (by rw [R.rl]; exact hh)]
  exact R.rp _ (List.getElem_mem _)
theorem Sq.rw (R : Sq rows n) : Et.Rw (Wr rows) n := ⟨R.n1,R.n7,fun h x hh hx => (R.row hh).mem_iff.mpr (List.mem_range.mpr hx)⟩
theorem Sq.len (R : Sq rows n) : lenD [WD rows] = some (nD n) := by rw [zhw,R.rl]
theorem Sq.things (R : Sq rows n) : zaR [WD rows] = .ok (nD n) := by
  cases e : rows with
  | nil => have := R.rl; have := R.n1; rw [e] at *; simp at *; omega
  | cons r rest =>
    rw [zhT,(R.rp r (by rw [e]; exact List.mem_cons_self)).length_eq,List.length_range]
theorem Sq.at (R : Sq rows n) {h : Nat} (hh : h < n) : ixA (WD rows) (nD h) = some (TN (Wr rows h)) := zjB (zoe (by rw [R.rl]; exact hh))
theorem Sq.map (R : Sq rows n) : rows = (List.range n).map (Wr rows) := by
  refine List.ext_getElem? fun i => ?_
  rw [List.getElem?_map]
  by_cases hi : i < n
  · rw [List.getElem?_range hi,List.getElem?_eq_getElem (by rw [R.rl]; exact hi)]
    unfold Wr
    rw [Option.map_some,List.getElem?_eq_getElem (by rw [R.rl]; exact hi)]; rfl
  · rw [List.getElem?_eq_none (by rw [R.rl]; omega),List.getElem?_eq_none (by simp; omega)]; rfl
end
theorem zky {T ts : List Nat} {a : Nat→Nat} (hne : ts≠[]) (hl : ts.length≤7) (h : ∀ x∈ts,x∈T∧ts.count x ∣ a x∧a x≤DD) : zaA [LD T a,LN ts] = .ok (QF (Et.leastN (ts.map fun x => a x / ts.count x))) := by
  refine zaW (B := zaB) (n := 2) ?_
  unfold zaB
  have hc : (zb8 1 [0,1] (fSeq za7 (gv 1)) (ftN 0) (fun _ => Res.ok true) (zau (zac (f2 (gv 1) (gv 0) ixA) (zac (zau (zac (ci 1) (zac (fM "list" (gv 2) (zac (gv 0) lNil) ze9) lNil)) [] zax) lNil)) [] zcm)) [some (LD T a),some (LN ts)] = .ok (.lst ((ts.map fun x => a x / ts.count x).map QF)) := by
    rw [List.map_map]
    refine zb2 (l := ts) nD (fun x => QF (a x / ts.count x)) rfl (by omega) fun x hx => ⟨[some (nD x),some (LD T a),some (LN ts)],rfl,?_⟩
    obtain ⟨h1,h2,h3⟩ := h x hx
    have h4 : 0 < ts.count x := List.count_pos_iff.mpr hx
    have h5 : ts.count x≤7 := Nat.le_trans List.count_le_length hl
    exact zak (zad (zai (a := LD T a) (b := nD x) rfl rfl (zjr h1)) (zad (zak (zad (d := .int 1) rfl (zad (zpA (d := LN ts) rfl rfl (zad (d := nD x) rfl zah) (zj0 ts x)) zah)) (rf1 h4 h5)) zah)) (rd h4 h5 h3 h2)
  refine zaN (zaS (zak (zad hc zah) (ziL (by simpa using hne) fun y hy => ?_)))
  obtain ⟨x,hx,rfl⟩ := List.mem_map.mp hy
  exact Nat.le_trans (Nat.div_le_self _ _) (h x hx).2.2
theorem zjs {T ts : List Nat} {a : Nat→Nat} {s : Nat} (hs : s≤DD) (hts : ts.length≤7) (hT : T.length≤60) (ha : ∀ x∈T,a x≤DD) (hm : ∀ x,ts.count x * s≤a x) : ∀ (l done : List Nat) (x4 x5 : Option D),(done++l).Nodup→(∀ x∈done++l,x∈T)→done.length + l.length≤60 →
    ∃ y4 y5,forF (ftN 4) zda (l.map nD) [some (LD T a),some (LN ts),some (QF s),some (LD done fun x => a x - ts.count x * s),x4,x5] = .nx [some (LD T a),some (LN ts),some (QF s),some (LD (done++l) fun x => a x - ts.count x * s),y4,y5]
  | [],done,x4,x5,_,_,_ => ⟨x4,x5,by rw [List.append_nil]; exact zbs⟩
  | x::l,done,x4,x5,hn,hin,hl => by
    have hx : x∈T := hin x (by simp)
    have hxd : x∉done := fun z => (List.nodup_append.mp hn).2.2 x z x List.mem_cons_self rfl
    have h5 : ts.count x≤7 := Nat.le_trans List.count_le_length hts
    obtain ⟨y4,y5,ih⟩ := zjs hs hts hT ha hm l (done++[x]) (some (nD x)) (some (FR ((ts.count x : Int),1))) (by simpa using hn) (by simpa using hin) (by simp at hl ⊢; omega)
    refine ⟨y4,y5,?_⟩
    rw [List.append_assoc,List.singleton_append] at ih
    rw [List.map_cons,← ih]
    refine zbS (r1 := [some (LD T a),some (LN ts),some (QF s),some (LD done fun x => a x - ts.count x * s),some (nD x),x5]) rfl ?_
    refine (zag (zaq (zak (zad (zpA (d := LN ts) rfl rfl (zad (d := nD x) rfl zah) (zj0 ts x)) (zad (d := .int 1) rfl zah)) (rf2 _)))).trans ?_
    exact zag (ze0 (d := LD done fun x => a x - ts.count x * s) (k := nD x) (v := QF (a x - ts.count x * s)) rfl (zak (zad (zai (a := LD T a) (b := nD x) rfl rfl (zjr hx)) (zad (zak (zad (d := FR ((ts.count x : Int),1)) rfl (zad (d := QF s) rfl zah)) (rt h5 hs)) zah)) (rm (ha x hx) (hm x))) rfl (ziu (f := fun x => QF (a x - ts.count x * s)) hxd (by omega)))
theorem ziO {T ts : List Nat} {a : Nat→Nat} {s : Nat} (hn : T.Nodup) (hs : s≤DD) (hts : ts.length≤7) (hT : T.length≤60) (ha : ∀ x∈T,a x≤DD) (hm : ∀ x,ts.count x * s≤a x) : zb4 [LD T a,LN ts,QF s] = .ok (LD T fun x => a x - ts.count x * s) := by
  obtain ⟨y4,y5,e⟩ := zjs hs hts hT ha hm T [] none none (by simpa using hn) (by simp) (by simpa using hT)
  rw [List.nil_append] at e
  refine zaW (B := zb5) (n := 6) ?_
  unfold zb5
  refine (zag (zaq (d := LD [] fun x => a x - ts.count x * s) rfl)).trans ?_
  refine (zag ((zbq (zgS (d := LD T a) rfl (zgT T _))).trans e)).trans ?_
  exact zaN (zaS (d := LD T fun x => a x - ts.count x * s) rfl)
theorem zgO {T : List Nat} {a : Nat→Nat} : ∀ (l done : List Nat) (x2 : Option D),(done++l).Nodup→(∀ x∈l,x∈T)→done.length + l.length≤60 →
    ∃ y2,forF (ftN 2) zdY (l.map nD) [some (LD T a),some (LD done a),x2] = .nx [some (LD T a),some (LD (done++l.filter fun x => decide (a x≠0)) a),y2]
  | [],done,x2,_,_,_ => ⟨x2,by rw [List.filter_nil,List.append_nil]; exact zbs⟩
  | x::l,done,x2,hn,hin,hl => by
    have hx : x∈T := hin x (by simp)
    have hxd : x∉done := fun z => (List.nodup_append.mp hn).2.2 x z x List.mem_cons_self rfl
    have t := zoX (a x)
    by_cases h : a x = 0
    · rw [decide_eq_false (fun z => z h)] at t
      obtain ⟨y2,ih⟩ := zgO (T := T) (a := a) l done (some (nD x)) (hn.sublist (List.Sublist.append_left (List.sublist_cons_self x l) done)) (fun z hz => hin z (List.mem_cons_of_mem _ hz)) (by simp at hl; omega)
      refine ⟨y2,?_⟩
      rw [List.map_cons,List.filter_cons,if_neg (by simpa using h),← ih]
      refine zbS (r1 := [some (LD T a),some (LD done a),some (nD x)]) rfl ?_
      exact zag ((if_f (za2 (zai (zai (a := LD T a) (b := nD x) rfl rfl (zjr hx)) rfl t))).trans (e_skip _))
    · rw [decide_eq_true h] at t
      obtain ⟨y2,ih⟩ := zgO (T := T) (a := a) l (done++[x]) (some (nD x)) (by simpa using hn) (fun z hz => hin z (List.mem_cons_of_mem _ hz)) (by simp at hl ⊢; omega)
      refine ⟨y2,?_⟩
      rw [List.append_assoc,List.singleton_append] at ih
      rw [List.map_cons,List.filter_cons,if_pos (by simpa using h),← ih]
      refine zbS (r1 := [some (LD T a),some (LD done a),some (nD x)]) rfl ?_
      refine zag ((if_t (za2 (zai (zai (a := LD T a) (b := nD x) rfl rfl (zjr hx)) rfl t))).trans ?_)
      exact zag (ze0 (d := LD done a) (k := nD x) (v := QF (a x)) rfl (zai (a := LD T a) (b := nD x) rfl rfl (zjr hx)) rfl (ziu (f := fun x => QF (a x)) hxd (by omega)))
theorem zgI {T : List Nat} {a : Nat→Nat} (hn : T.Nodup) (hT : T.length≤60) : zcP [LD T a] = .ok (LD (T.filter fun x => decide (a x≠0)) a) := by
  obtain ⟨y2,e⟩ := zgO (T := T) (a := a) T [] none (by simpa using hn) (fun _ h => h) (by simpa using hT)
  rw [List.nil_append] at e
  refine zmr (B := zcS) (n := 3) ?_
  unfold zcS
  refine (zag (zaq (d := LD [] a) rfl)).trans ?_
  refine (zag ((zbq (zgS (d := LD T a) rfl (zgT T _))).trans e)).trans ?_
  exact zaN (zaS (d := LD (T.filter fun x => decide (a x≠0)) a) rfl)
noncomputable abbrev mD (p : List Nat × Nat × List Nat) : D := .tup [LN p.1,QF p.2.1,TN p.2.2]
noncomputable abbrev LM (ms : List (List Nat × Nat × List Nat)) : D := .lst (ms.map mD)
section
variable {rows : List (List Nat)} {n : Nat}
theorem zp2 (T : List Nat) (a : Nat→Nat) : truD (LD T a) = some (! T.isEmpty) := by
  show some (!(T.map fun x => (kI x,QF (a x))).isEmpty) = _
  rw [List.isEmpty_map]
theorem ze4 (R : Sq rows n) : ∀ (k : Nat) (T : List Nat) (a : Nat→Nat) (ms : List (List Nat × Nat × List Nat)) (x2 x4 x5 x6 : Option D),Et.Ok n T a→(∀ x∈T,a x≤DD)→T.length < k→T.length≤7→ms.length + T.length≤60 →
    ∃ d1 y2 y4 y5 y6,zbf q112 zdW zdZ k [some (WD rows),some (LD T a),x2,some (LM ms),x4,x5,x6] = .nx [some (WD rows),d1,y2,some (LM (ms++Et.eat (Wr rows) n k T a)),y4,y5,y6]
  | 0,T,a,ms,x2,x4,x5,x6,_,_,hk,_,_ => absurd hk (by omega)
  | k + 1,T,a,ms,x2,x4,x5,x6,S,ha,hk,h7,hms => by
    by_cases hT : T = []
    · subst hT
      refine ⟨some (LD [] a),x2,x4,x5,x6,?_⟩
      have e : Et.eat (Wr rows) n (k + 1) [] a = [] := rfl
      rw [e,List.append_nil]
      exact zik (zcD (d := LD [] a) rfl rfl)
    · have RW := R.rw
      have hn1 := R.n1
      have hn7 := R.n7
      have e : Et.eat (Wr rows) n (k + 1) T a = (Et.tgs (Wr rows) n T,Et.spn (Wr rows) n T a,T.filter fun x => decide (x∉Et.lft (Wr rows) n T a))::Et.eat (Wr rows) n k (Et.lft (Wr rows) n T a) (Et.aft (Wr rows) n T a) := by
        show (if T = [] then [] else _) = _
        rw [if_neg hT]
      have hlt := Et.lft_lt RW S hT
      have hts : (Et.tgs (Wr rows) n T).length = n := Et.tgs_len
      have hin : ∀ x∈Et.tgs (Wr rows) n T,x∈T := fun x hx => Et.tgs_mem RW S hT hx
      have hsp : Et.spn (Wr rows) n T a≤DD := by
        obtain ⟨x,h1,h2⟩ := Et.spn_at (T := T) (a := a) RW
        rw [h2]
        exact Nat.le_trans (Nat.div_le_self _ _) (ha x (hin x h1))
      obtain ⟨d1,y2,y4,y5,y6,ih⟩ := ze4 R k (Et.lft (Wr rows) n T a) (Et.aft (Wr rows) n T a) (ms++[(Et.tgs (Wr rows) n T,Et.spn (Wr rows) n T a,T.filter fun x => decide (x∉Et.lft (Wr rows) n T a))]) x2 (some (LN (Et.tgs (Wr rows) n T))) (some (QF (Et.spn (Wr rows) n T a))) (some (LD T (Et.aft (Wr rows) n T a))) (S.next RW hT) (fun x hx => Nat.le_trans (Nat.sub_le _ _) (ha x (List.mem_filter.mp hx).1)) (by omega) (by omega) (by simp; omega)
      refine ⟨d1,y2,y4,y5,y6,?_⟩
      rw [List.append_assoc,List.singleton_append,← e] at ih
      refine Eq.trans ?_ ih
      refine zij (zcD (d := LD T a) rfl (by rw [zp2]; cases T with | nil => exact absurd rfl hT | cons _ _ => rfl)) ?_
      have htg : zb8 1 [1] (fSeq za7 (gv 0)) (ftN 0) (fun _ => Res.ok true) (zau (zac (gv 0) (zac (gv 1) lNil)) [] zbu) [some (WD rows),some (LD T a),x2,some (LM ms),x4,x5,x6] = .ok (LN (Et.tgs (Wr rows) n T)) := by
        have hc := zb2 (nl := 1) (cap := [1]) (fi := fSeq za7 (gv 0)) (ft := ftN 0) (fe := zau (zac (gv 0) (zac (gv 1) lNil)) [] zbu) (r := [some (WD rows),some (LD T a),x2,some (LM ms),x4,x5,x6]) (l := List.range n) (fun h => TN (Wr rows h)) (fun h => nD (Rg.best (Wr rows h) T)) (by
          refine zcv (d := WD rows) rfl ?_
          show some (rows.map TN) = _
          conv => lhs; rw [R.map]
          rw [List.map_map]; rfl) (by simp; omega) fun h hh => ⟨[some (TN (Wr rows h)),some (LD T a)],rfl,?_⟩
        · rw [hc]
          show Res.ok (D.lst _) = Res.ok (D.lst ((Et.tgs (Wr rows) n T).map nD))
          unfold Et.tgs
          rw [List.map_map]; rfl
        · have hh' := List.mem_range.mp hh
          have hp := List.length_pos_iff.mpr hT
          refine zak (zad (d := TN (Wr rows h)) rfl (zad (d := LD T a) rfl zah)) (ziN ⟨T[0],RW.has h _ hh' (S.lt _ (List.getElem_mem _)),List.getElem_mem _⟩ ?_)
          rw [(R.row hh').length_eq]; simp; omega
      refine (zag (zaq htg)).trans ?_
      refine (zag (zaq (d := QF (Et.spn (Wr rows) n T a)) (zak (zad (d := LD T a) rfl (zad (d := LN (Et.tgs (Wr rows) n T)) rfl zah)) (zky (by
        intro z
        have := congrArg List.length z
        rw [hts] at this; simp at this; omega) (by omega) fun x hx => ⟨hin x hx,(Et.cnt_dvd RW S hT hx).1,ha x (hin x hx)⟩)))).trans ?_
      refine (zag (zaq (d := LD T (Et.aft (Wr rows) n T a)) (zak (zad (d := LD T a) rfl (zad (d := LN (Et.tgs (Wr rows) n T)) rfl (zad (d := QF (Et.spn (Wr rows) n T a)) rfl zah))) (ziO S.nd hsp (by omega) (by omega) ha (fun x => Et.spn_mul x))))).trans ?_
      refine (zag (zaq (d := LD (Et.lft (Wr rows) n T a) (Et.aft (Wr rows) n T a)) ?_)).trans ?_
      · show ownF _ _ = _
        unfold ownF
        rw [zak (zad (d := LD T (Et.aft (Wr rows) n T a)) rfl zah) (zgI S.nd (by omega))]; rfl
      have em : LM (ms++[(Et.tgs (Wr rows) n T,Et.spn (Wr rows) n T a,T.filter fun x => decide (x∉Et.lft (Wr rows) n T a))]) = .lst (ms.map mD++[mD (Et.tgs (Wr rows) n T,Et.spn (Wr rows) n T a,T.filter fun x => decide (x∉Et.lft (Wr rows) n T a))]) := by
        show D.lst (List.map mD _) = _
        rw [List.map_append]; rfl
      rw [em]
      refine zag (ze3 (d := LM ms) (ds := [mD (Et.tgs (Wr rows) n T,Et.spn (Wr rows) n T a,T.filter fun x => decide (x∉Et.lft (Wr rows) n T a))]) rfl rfl (zad (zc4 (zad (d := LN (Et.tgs (Wr rows) n T)) rfl (zad (d := QF (Et.spn (Wr rows) n T a)) rfl (zad (zbi (zad (zfB (l := T) nD (fun x => decide (x∉Et.lft (Wr rows) n T a)) nD (zgS (d := LD T (Et.aft (Wr rows) n T a)) rfl (zgT T _)) (by omega) fun x hx => ⟨[some (nD x),some (LD (Et.lft (Wr rows) n T a) (Et.aft (Wr rows) n T a))],rfl,?_,fun _ => rfl⟩) zah) rfl) zah))) (by simp)) zah) (zeF (by rw [List.length_map]; omega)))
      have := zoU (Et.lft (Wr rows) n T a) (Et.aft (Wr rows) n T a) x
      have e2 : (! decide (x∈Et.lft (Wr rows) n T a)) = decide (x∉Et.lft (Wr rows) n T a) := by simp
      rw [e2] at this
      exact za2 (zai (a := nD x) (b := LD (Et.lft (Wr rows) n T a) (Et.aft (Wr rows) n T a)) rfl rfl this)
noncomputable def mls (rows : List (List Nat)) (n : Nat) : List (List Nat × Nat × List Nat) := Et.eat (Wr rows) n 64 (List.range n) fun _ => DD
theorem zgf (d0 : D) : ∀ (j i : Nat) (x2 : Option D),i + j≤60→∃ y2,forF (ftN 2) zd0 ((List.range' i j).map nD) [some d0,some (LD (List.range i) fun _ => DD),x2,none,none,none,none] = .nx [some d0,some (LD (List.range (i + j)) fun _ => DD),y2,none,none,none,none]
  | 0,i,x2,_ => ⟨x2,zbs⟩
  | j + 1,i,x2,h => by
    obtain ⟨y2,ih⟩ := zgf d0 j (i + 1) (some (nD i)) (by omega)
    refine ⟨y2,?_⟩
    rw [show i + (j + 1) = i + 1 + j by omega,← ih,List.range'_succ,List.map_cons]
    refine zbS (r1 := [some d0,some (LD (List.range i) fun _ => DD),some (nD i),none,none,none,none]) rfl ?_
    rw [List.range_succ]
    have e1 : (.tup [.int 1,.int 1] : D) = QF DD := by show _ = FR (Qd (DD : Int)); rw [Qd_1]; rfl
    exact zag (ze0 (d := LD (List.range i) fun _ => DD) (k := nD i) (v := QF DD) rfl (by rw [← e1]) rfl (ziu (f := fun _ => QF DD) (by simp) (by simp; omega)))
theorem ziK (R : Sq rows n) : zcQ [WD rows] = .ok (LM (mls rows n)) := by
  have hn7 := R.n7
  obtain ⟨y2,h1⟩ := zgf (WD rows) n 0 none (by omega)
  rw [Nat.zero_add,← List.range_eq_range'] at h1
  obtain ⟨d1,z2,z4,z5,z6,h2⟩ := ze4 R 64 (List.range n) (fun _ => DD) [] y2 none none none (Et.Ok.init R.rw) (fun _ _ => Nat.le_refl _) (by simp; omega) (by simpa using hn7) (by simp; omega)
  rw [List.nil_append] at h2
  refine zaW (B := zcT) (n := 7) ?_
  unfold zcT
  refine (zag (zaq (d := LD (List.range 0) fun _ => DD) rfl)).trans ?_
  refine (zag ((zbq (zdg (zad (zak (zad (d := WD rows) rfl zah) R.things) zah) (zet (by omega)))).trans h1)).trans ?_
  refine (zag (zaq (d := LM []) (zc5 zah (by simp)))).trans ?_
  refine (zag h2).trans ?_
  exact zaN (zaS (d := LM (mls rows n)) rfl)
end
end Law
end
section
set_option exponentiation.threshold 3000
namespace Law
open PySem PyProof.Rows L2 DL Fq
noncomputable abbrev SL (n : Nat) (s : Nat→Nat) : D := .lst ((List.range n).map fun x => QF (s x))
theorem zqB {n x : Nat} {s : Nat→Nat} (h : x < n) : ixA (SL n s) (nD x) = some (QF (s x)) := by
  refine zh6 ?_
  rw [List.getElem?_map,List.getElem?_range h]; rfl
theorem znN {n x v : Nat} {s : Nat→Nat} (h : x < n) : stoD (SL n s) (nD x) (QF v) = some (SL n fun y => if y = x then v else s y) := by
  rw [ziE (by simpa using h)]
  show some (D.lst _) = some (D.lst _)
  congr 2
  refine List.ext_getElem? fun i => ?_
  by_cases hi : i < n
  · by_cases e : x = i
    · subst e
      rw [List.getElem?_set_self (by simpa using h),List.getElem?_map,List.getElem?_range h]
      simp
    · rw [List.getElem?_set_ne e,List.getElem?_map,List.getElem?_map,List.getElem?_range hi]
      simp [Ne.symm e]
  · rw [List.getElem?_eq_none (by simp; omega),List.getElem?_eq_none (by simp; omega)]
theorem ziA {d0 d2 : D} {n h : Nat} (hh : h < n) : ∀ (ms : List (List Nat × Nat × List Nat)) (s : Nat→Nat) (x4 x5 x6 x7 : Option D),(∀ p∈ms,p.1.length = n∧∀ t∈p.1,t < n)→(∀ x,s x + Et.tot ms≤DD) →
    ∃ y4 y5 y6 y7,forF (ftT (zbn (ftN 4) (zbn (ftN 5) (zbn (ftN 6) zgg)))) zdz (ms.map mD) [some d0,some (nD h),some d2,some (SL n s),x4,x5,x6,x7] = .nx [some d0,some (nD h),some d2,some (SL n fun x => s x + Et.shr ms h x),y4,y5,y6,y7]
  | [],s,x4,x5,x6,x7,_,_ => ⟨x4,x5,x6,x7,zbs⟩
  | p::ms,s,x4,x5,x6,x7,hp,hs => by
    obtain ⟨h1,h2⟩ := hp p List.mem_cons_self
    have hhl : h < p.1.length := by omega
    have ht : p.1.getD h 0 < n := by
      rw [List.getD_eq_getElem?_getD,List.getElem?_eq_getElem hhl]
      exact h2 _ (List.getElem_mem _)
    have hb := hs (p.1.getD h 0)
    rw [Et.tot_cons] at hb
    obtain ⟨y4,y5,y6,y7,ih⟩ := ziA (d0 := d0) (d2 := d2) hh ms (fun y => if y = p.1.getD h 0 then s (p.1.getD h 0) + p.2.1 else s y) (some (LN p.1)) (some (QF p.2.1)) (some (TN p.2.2)) (some (nD (p.1.getD h 0))) (fun q hq => hp q (List.mem_cons_of_mem _ hq)) (fun x => by
      have := hs x
      rw [Et.tot_cons] at this
      show (if x = p.1.getD h 0 then _ else _) + _≤_
      by_cases e : x = p.1.getD h 0
      · rw [if_pos e]; omega
      · rw [if_neg e]; omega)
    refine ⟨y4,y5,y6,y7,?_⟩
    have ef : (fun x => s x + Et.shr (p::ms) h x) = fun x => (if x = p.1.getD h 0 then s (p.1.getD h 0) + p.2.1 else s x) + Et.shr ms h x := by
      funext x
      rw [Et.shr_cons]
      by_cases e : x = p.1.getD h 0
      · rw [if_pos e,if_pos e.symm,e]; omega
      · rw [if_neg e,if_neg (Ne.symm e)]; omega
    rw [ef,List.map_cons,← ih]
    refine zbS (r1 := [some d0,some (nD h),some d2,some (SL n s),some (LN p.1),some (QF p.2.1),some (TN p.2.2),x7]) rfl ?_
    refine (zag (zaq (d := nD (p.1.getD h 0)) (zai (a := LN p.1) (b := nD h) rfl rfl (zh6 ?_)))).trans ?_
    · rw [List.getElem?_map,List.getElem?_eq_getElem hhl,List.getD_eq_getElem?_getD,List.getElem?_eq_getElem hhl]; rfl
    exact zag (ze0 (d := SL n s) (k := nD (p.1.getD h 0)) (v := QF (s (p.1.getD h 0) + p.2.1)) rfl (zak (zad (zai (a := SL n s) (b := nD (p.1.getD h 0)) rfl rfl (zqB ht)) (zad (d := QF p.2.1) rfl zah)) (rp (by omega) (by omega))) rfl (znN ht))
section
variable {rows : List (List Nat)} {n : Nat}
theorem zl4 (R : Sq rows n) : ∀ (k : Nat) (T : List Nat) (a : Nat→Nat),Et.Ok n T a→∀ p∈Et.eat (Wr rows) n k T a,p.1.length = n∧∀ t∈p.1,t < n
  | 0,T,a,S,p,hp => by cases hp
  | k + 1,T,a,S,p,hp => by
    by_cases hT : T = []
    · subst hT; cases hp
    · have e : Et.eat (Wr rows) n (k + 1) T a = (Et.tgs (Wr rows) n T,Et.spn (Wr rows) n T a,T.filter fun x => decide (x∉Et.lft (Wr rows) n T a))::Et.eat (Wr rows) n k (Et.lft (Wr rows) n T a) (Et.aft (Wr rows) n T a) := by
        show (if T = [] then [] else _) = _
        rw [if_neg hT]
      rw [e] at hp
      rcases List.mem_cons.mp hp with rfl | hp
      · exact ⟨Et.tgs_len,fun t ht => S.lt t (Et.tgs_mem R.rw S hT ht)⟩
      · exact zl4 R k _ _ (S.next R.rw hT) p hp
theorem zjR (R : Sq rows n) : ∀ (k : Nat) (T : List Nat) (a : Nat→Nat),Et.Ok n T a→(Et.eat (Wr rows) n k T a).length≤T.length
  | 0,T,a,S => by show 0≤_; omega
  | k + 1,T,a,S => by
    by_cases hT : T = []
    · subst hT; exact Nat.le_refl _
    · have e : Et.eat (Wr rows) n (k + 1) T a = (Et.tgs (Wr rows) n T,Et.spn (Wr rows) n T a,T.filter fun x => decide (x∉Et.lft (Wr rows) n T a))::Et.eat (Wr rows) n k (Et.lft (Wr rows) n T a) (Et.aft (Wr rows) n T a) := by
        show (if T = [] then [] else _) = _
        rw [if_neg hT]
      have := zjR R k _ _ (S.next R.rw hT)
      have hlt := Et.lft_lt R.rw S hT
      rw [e,List.length_cons]; omega
theorem zo1 (R : Sq rows n) : ∀ p∈mls rows n,p.1.length = n∧∀ t∈p.1,t < n := zl4 R 64 _ _ (Et.Ok.init R.rw)
theorem zjf (R : Sq rows n) : Et.tot (mls rows n) = DD := Et.eat_tot R.rw (by have := R.n7; omega)
theorem zmZ (R : Sq rows n) : (mls rows n).length≤7 := by
  have := zjR R 64 _ _ (Et.Ok.init R.rw)
  have := R.n7
  unfold mls
  simp at *; omega
noncomputable def tbN (rows : List (List Nat)) (n h x : Nat) : Nat := Et.shr (mls rows n) h x
noncomputable def tbR (rows : List (List Nat)) (n h : Nat) : List (Int × Nat) := (List.range n).map fun x => Qd ((tbN rows n h x : Nat) : Int)
theorem zqm (n : Nat) : (List.replicate n [FR (0,1)]).flatten = (List.range n).map fun _ => QF 0 := by
  have e : QF 0 = FR (0,1) := by show FR (Qd ((0 : Nat) : Int)) = _; rw [show ((0 : Nat) : Int) = 0 from rfl,Qd_0]
  rw [e]
  induction n with
  | zero => rfl
  | succ n ih => rw [List.replicate_succ',List.flatten_append,ih,List.range_succ,List.map_append]; rfl
theorem zmw (ds : List D) (k : Int) : repD (.lst ds) (.int k) = if -(2 ^ 62)≤k∧k < 2 ^ 62∧ds.length * k.toNat≤sizeLine then some (.lst ((List.replicate k.toNat ds).flatten)) else none := rfl
theorem zhV (R : Sq rows n) {h : Nat} (hh : h < n) : zcn [WD rows,nD h,LM (mls rows n)] = .ok (TF (tbR rows n h)) := by
  have hn7 := R.n7
  obtain ⟨y4,y5,y6,y7,e⟩ := ziA (d0 := WD rows) (d2 := LM (mls rows n)) hh (mls rows n) (fun _ => 0) none none none none (zo1 R) (fun _ => by rw [zjf R]; omega)
  refine zaW (B := zcq) (n := 8) ?_
  unfold zcq
  refine (zag (zaq (d := SL n fun _ => 0) (zai (a := .lst [FR (0,1)]) (b := nD n) (zc5 (zad (d := FR (0,1)) rfl zah) (by simp)) (zak (zad (d := WD rows) rfl zah) R.things) ?_))).trans ?_
  · rw [zmw,if_pos ⟨by omega,by omega,by rw [sizeLine_eq,Int.toNat_natCast,List.length_singleton]; omega⟩,Int.toNat_natCast,zqm]
  refine (zag ((zbq (zcv (d := LM (mls rows n)) rfl rfl)).trans e)).trans ?_
  refine zaN (zaS (zbi (zad (d := SL n fun x => 0 + Et.shr (mls rows n) h x) rfl zah) ?_))
  rw [e_tupL]
  show some (D.tup _) = some (D.tup ((tbR rows n h).map FR))
  unfold tbR tbN
  rw [List.map_map]
  congr 2
  refine List.map_congr_left fun x _ => ?_
  show QF (0 + Et.shr (mls rows n) h x) = _
  rw [Nat.zero_add]; rfl
noncomputable abbrev eD (e : Nat × List Nat) : D := .tup [QF e.1,TN e.2]
theorem zjn {d0 : D} : ∀ (ms : List (List Nat × Nat × List Nat)) (lg : List D) (s : Nat) (x3 x4 x5 : Option D),s + Et.tot ms≤DD→lg.length + ms.length≤100 →
    ∃ s' y3 y4 y5,forF (ftT (zbn (ftN 3) (zbn (ftN 4) (zbn (ftN 5) zgg)))) zff (ms.map mD) [some d0,some (.lst lg),some (QF s),x3,x4,x5] = .nx [some d0,some (.lst (lg++(Et.logE s ms).map eD)),some (QF s'),y3,y4,y5]
  | [],lg,s,x3,x4,x5,_,_ => ⟨s,x3,x4,x5,by rw [show (Et.logE s []).map eD = [] from rfl,List.append_nil]; exact zbs⟩
  | p::ms,lg,s,x3,x4,x5,hs,hl => by
    rw [Et.tot_cons] at hs
    rw [List.length_cons] at hl
    obtain ⟨s',y3,y4,y5,ih⟩ := zjn (d0 := d0) ms (lg++[.tup [QF (s + p.2.1),TN p.2.2]]) (s + p.2.1) (some (LN p.1)) (some (QF p.2.1)) (some (TN p.2.2)) (by omega) (by simp; omega)
    refine ⟨s',y3,y4,y5,?_⟩
    have e : lg++(Et.logE s (p::ms)).map eD = lg++[.tup [QF (s + p.2.1),TN p.2.2]]++(Et.logE (s + p.2.1) ms).map eD := by rw [List.append_assoc]; rfl
    rw [List.map_cons,e,← ih]
    refine zbS (r1 := [some d0,some (.lst lg),some (QF s),some (LN p.1),some (QF p.2.1),some (TN p.2.2)]) rfl ?_
    refine (zag (zaq (d := QF (s + p.2.1)) (zak (zad (d := QF s) rfl (zad (d := QF p.2.1) rfl zah)) (rp (by omega) (by omega))))).trans ?_
    exact zag (ze3 (d := .lst lg) (ds := [.tup [QF (s + p.2.1),TN p.2.2]]) rfl rfl (zad (zc4 (zad (d := QF (s + p.2.1)) rfl (zad (d := TN p.2.2) rfl zah)) (by simp)) zah) (zeF (by omega)))
noncomputable abbrev lgD (rows : List (List Nat)) (n : Nat) : D := .lst ((Et.logE 0 (mls rows n)).map eD)
theorem zmt (R : Sq rows n) : zef [LM (mls rows n)] = .ok (lgD rows n) := by
  obtain ⟨s',y3,y4,y5,e⟩ := zjn (d0 := LM (mls rows n)) (mls rows n) [] 0 none none none (by rw [zjf R]; omega) (by have := zmZ R; simp; omega)
  have e0 : QF 0 = .tup [.int 0,.int 1] := by show FR (Qd ((0 : Nat) : Int)) = _; rw [show ((0 : Nat) : Int) = 0 from rfl,Qd_0]; rfl
  refine zaW (B := zeg) (n := 6) ?_
  unfold zeg
  refine (zag (zaq (d := .lst []) (zc5 zah (by simp)))).trans ?_
  refine (zag (zaq (d := QF 0) (by rw [e0]))).trans ?_
  refine (zag ((zbq (zcv (d := LM (mls rows n)) rfl rfl)).trans e)).trans ?_
  exact zaN (zaS (d := lgD rows n) rfl)
noncomputable abbrev TTF (l : List (List (Int × Nat))) : D := .tup (l.map TF)
noncomputable def tbl (rows : List (List Nat)) (n : Nat) : List (List (Int × Nat)) := (List.range n).map (tbR rows n)
theorem zhU (R : Sq rows n) : zco [WD rows] = .ok (.bl true) := by
  refine zaW (B := zcr) (n := 1) ?_
  unfold zcr
  exact zaN (zaS (zai (a := nD n) (b := nD n) (zak (zad (d := WD rows) rfl zah) R.things) (zbi (zad (d := WD rows) rfl zah) R.len) (zhD n)))
theorem zhX (R : Sq rows n) : zaG [WD rows] = .ok .non := by
  show outR false (zaw (zar 1 [WD rows])) = _
  have : zaw (zar 1 [WD rows]) = .nx [some (WD rows)] := by
    unfold zaw
    exact zag ((if_f (zhs (b := true) (zcD (zak (zad (d := WD rows) rfl zah) (zhU R)) rfl))).trans (e_skip _))
  rw [this]; rfl
theorem zne {m : List Md} {f : FE} {r : Rho} {d : D} (h : f r = .ok d) : zle m f r = .nx r := by unfold zle; rw [h]; rfl
theorem ziM (R : Sq rows n) : zfJ [WD rows] = .ok (.tup [TTF (tbl rows n),lgD rows n]) := by
  have hn7 := R.n7
  have hd := zmt R
  refine zaW (B := zfO) (n := 3) ?_
  unfold zfO
  refine (zag (zne (zak (zad (d := WD rows) rfl zah) (zhX R)))).trans ?_
  refine (zag (zaq (zak (zad (d := WD rows) rfl zah) (ziK R)))).trans ?_
  refine (zag (zaq (d := TTF (tbl rows n)) (zbi (zad (zb2 (l := List.range n) nD (fun h => TF (tbR rows n h)) (zdg (zad (zbi (zad (d := WD rows) rfl zah) R.len) zah) (zet (by omega))) (by simp; omega) fun h hh => ⟨[some (nD h),some (WD rows),some (LM (mls rows n))],rfl,zak (zad (d := WD rows) rfl (zad (d := nD h) rfl (zad (d := LM (mls rows n)) rfl zah))) (zhV R (List.mem_range.mp hh))⟩) zah) ?_))).trans ?_
  · rw [e_tupL]
    show some (D.tup _) = some (D.tup ((tbl rows n).map TF))
    unfold tbl
    rw [List.map_map]; rfl
  exact zaN (zaS (zc4 (zad (d := TTF (tbl rows n)) rfl (zad (zak (zad (d := LM (mls rows n)) rfl zah) hd) zah)) (by simp)))
end
end Law
end
section
namespace Law
open PySem PyProof.Rows L2 DL Fq
theorem zhF {α : Type} {l : List α} {i : Nat} (h : i≤l.length) : cutL l (some (i : Int)) none = l.drop i := by
  unfold cutL
  rw [HT.sIx_nat,HT.sIx_none,Nat.min_eq_left h]
  rw [List.take_of_length_le (by simp)]
theorem zkt {l : List D} {i : Nat} (h : i≤l.length) (h0 : 0 < i) : slD (.tup l) (some (i : Int)) none = some (.tup (l.drop i)) := by
  show (if _ then none else some (D.tup (cutL l (some (i : Int)) none))) = _
  rw [if_neg (by rw [HT.sIx_nat,Nat.min_eq_left h]; omega),zhF h]
noncomputable abbrev wN (cs : List (List Nat)) : List (List D) := cs.map fun z => z.map nD
noncomputable abbrev zid : FS2 := (zcX (if2 (za1 (f2 (f2 (gv 0) (ci 3) modI) (ci 0) eqD)) (zcX (appR (mkL (zac (gv 3) lNil))) (fun r w => some (r,w))) (zcX (zhZ (f1 (ci 1) negI) (gv 3)) (fun r w => some (r,w)))) (zcX (embF (setF q107 0 (f2 (gv 0) (ci 3) zfy))) (fun r w => some (r,w))))
theorem ziT (cs : List (List D)) (z : List D) (d : D) (hz : z.length < 1000) : ze1 (cs++[z]) (-1) d = some (cs++[z++[d]]) := by
  unfold ze1
  have e : ixN (cs++[z]).length (-1) = some cs.length := by
    unfold ixN
    rw [if_neg (by omega),if_pos (by rw [List.length_append,List.length_singleton]; omega),List.length_append,List.length_singleton]
    congr 1
    omega
  rw [e,Option.bind_some]
  have e2 : (cs++[z])[cs.length]? = some z := by rw [List.getElem?_append_right (Nat.le_refl _)]; simp
  rw [e2,Option.bind_some,if_pos (by rw [sizeLine_eq]; omega)]
  rw [List.set_append_right _ _ (Nat.le_refl _)]; simp
theorem zj2 (row : D) (c h : Nat) (cs : List (List Nat)) (z : List Nat) (hl : cs.length < 900) (hz : z.length < 900) : zid [some (nD c),some row,none,some (nD h)] (wN (cs++[z])) = some ([some (nD (c / 3)),some row,none,some (nD h)],if c % 3 = 0 then wN (cs++[z]++[[h]]) else wN (cs++[z++[h]])) := by
  have q := zjQ (c % 3) 0
  have t : (za1 (f2 (f2 (gv 0) (ci 3) modI) (ci 0) eqD)) [some (nD c),some row,none,some (nD h)] = .ok (decide (c % 3 = 0)) := za2 (zai (a := nD (c % 3)) (b := nD 0) (zai (a := nD c) (b := nD 3) rfl rfl (zhu (by omega))) rfl q)
  have s : ∀ w : List (List D),(zcX (embF (setF q107 0 (f2 (gv 0) (ci 3) zfy))) (fun r w => some (r,w))) [some (nD c),some row,none,some (nD h)] w = some ([some (nD (c / 3)),some row,none,some (nD h)],w) := fun w => by
    unfold zcX embF
    rw [zaq (d := nD (c / 3)) (zai (a := nD c) (b := nD 3) rfl rfl (zgW (by omega) (by omega)))]
    rfl
  show ((if2 _ _ _ _ _).bind fun p => _) = _
  unfold if2
  rw [t]
  by_cases h3 : c % 3 = 0
  · rw [decide_eq_true h3,if_pos h3]
    have e : (zcX (appR (mkL (zac (gv 3) lNil))) (fun r w => some (r,w))) [some (nD c),some row,none,some (nD h)] (wN (cs++[z])) = some ([some (nD c),some row,none,some (nD h)],wN (cs++[z]++[[h]])) := by
      unfold zcX appR
      rw [zc5 (zad (d := nD h) rfl zah) (by simp)]
      simp only []
      rw [if_pos (by simp [sizeLine_eq]; omega)]
      show some (_,wN (cs++[z])++[[nD h]]) = some (_,wN (cs++[z]++[[h]]))
      simp [wN]
    simp only [e,Option.bind_some]
    exact s _
  · rw [decide_eq_false h3,if_neg h3]
    have e : (zcX (zhZ (f1 (ci 1) negI) (gv 3)) (fun r w => some (r,w))) [some (nD c),some row,none,some (nD h)] (wN (cs++[z])) = some ([some (nD c),some row,none,some (nD h)],wN (cs++[z++[h]])) := by
      unfold zcX zhZ
      have e1 : (f1 (ci 1) negI) [some (nD c),some row,none,some (nD h)] = .ok (.int (-1)) := rfl
      rw [e1]
      simp only []
      show (((ze1 (wN (cs++[z])) (-1) (nD h)).map _).bind _) = _
      rw [show wN (cs++[z]) = wN cs++[z.map nD] by simp [wN],ziT _ _ _ (by simpa using by omega)]
      simp [wN]
    simp only [e,Option.bind_some]
    exact s _
theorem zeD (row : D) : ∀ (l : List Nat) (c : Nat) (cs : List (List Nat)) (z : List Nat) (y : Option D),(∀ q∈cs,q≠[])→z≠[]→cs.length + l.length≤60→z.length + l.length≤60 →
    ∃ (c' : Nat) (cs' : List (List Nat)) (y' : Option D),cs'.flatten = cs.flatten++z++l∧(∀ q∈cs',q≠[])∧zgi (ftN 3) zid (l.map nD) [some (nD c),some row,none,y] (wN (cs++[z])) = some ([some (nD c'),some row,none,y'],wN cs')
  | [],c,cs,z,y,hc,hz,_,_ => ⟨c,cs++[z],y,by simp,fun q hq => (List.mem_append.mp hq).elim (hc q) fun e => by rw [List.mem_singleton.mp e]; exact hz,rfl⟩
  | h::l,c,cs,z,y,hc,hz,h1,h2 => by
    simp only [List.length_cons] at h1 h2
    have st := zj2 row c h cs z (by omega) (by omega)
    have unf : zgi (ftN 3) zid ((h::l).map nD) [some (nD c),some row,none,y] (wN (cs++[z])) = (zid [some (nD c),some row,none,some (nD h)] (wN (cs++[z]))).bind fun p => zgi (ftN 3) zid (l.map nD) p.1 p.2 := rfl
    rw [unf,st,Option.bind_some]
    by_cases h3 : c % 3 = 0
    · simp only [if_pos h3]
      obtain ⟨c',cs',y',i1,i2,i3⟩ := zeD row l (c / 3) (cs++[z]) [h] (some (nD h)) (fun q hq => (List.mem_append.mp hq).elim (hc q) fun e => by rw [List.mem_singleton.mp e]; exact hz) (by simp) (by simp; omega) (by simp; omega)
      exact ⟨c',cs',y',by rw [i1]; simp,i2,i3⟩
    · simp only [if_neg h3]
      obtain ⟨c',cs',y',i1,i2,i3⟩ := zeD row l (c / 3) cs (z++[h]) (some (nD h)) hc (by simp) (by omega) (by simp; omega)
      exact ⟨c',cs',y',by rw [i1]; simp,i2,i3⟩
theorem zkB (c : Nat) {row : List Nat} (hr : row≠[]) (hl : row.length≤50) : ∃ cs : List (List Nat),cs.flatten = row∧(∀ q∈cs,q≠[])∧za9 [nD c,TN row] = .ok (.lst (cs.map LN)) := by
  cases row with
  | nil => exact absurd rfl hr
  | cons h l =>
    obtain ⟨c',cs,y',i1,i2,i3⟩ := zeD (TN (h::l)) l c [] [h] none (fun _ z => nomatch z) (by simp) (by simp at hl ⊢; omega) (by simp at hl ⊢; omega)
    refine ⟨cs,by rw [i1]; rfl,i2,zaW (B := zba) (n := 4) ?_⟩
    unfold zba zkU newR
    have e0 : (mkL (zac (f2 (gv 1) (ci 0) ixA) lNil)) (zar 4 [nD c,TN (h::l)]) = .ok (.lst [nD h]) := zc5 (zad (d := nD h) (zai (a := TN (h::l)) (b := nD 0) rfl rfl (zjB (i := 0) rfl)) zah) (by simp)
    rw [e0]
    show zkc _ _ [some (nD c),some (TN (h::l)),none,none] [[nD h]] = _
    unfold zkc
    have e1 : zgb (fSeq za7 (fSl (gv 1) (zfz (ci 1)) (fun _ => Res.ok none))) (ftN 3) zid [some (nD c),some (TN (h::l)),none,none] [[nD h]] = some ([some (nD c'),some (TN (h::l)),none,y'],wN cs) := by
      unfold zgb
      have : (fSeq za7 (fSl (gv 1) (zfz (ci 1)) (fun _ => Res.ok none))) [some (nD c),some (TN (h::l)),none,none] = .ok (l.map nD) := zcv (d := TN l) (znS (d := TN (h::l)) rfl (zfo (i := ((1 : Nat) : Int)) rfl) rfl (zkt (l := (h::l).map nD) (by simp) (by omega))) rfl
      rw [this]
      exact i3
    rw [e1]
    show (seqF _ _) [some (nD c'),some (TN (h::l)),some (.lst ((wN cs).map D.lst)),y'] = _
    refine zaN (zaS (d := .lst (cs.map LN)) ?_)
    show Res.ok (D.lst _) = Res.ok (D.lst _)
    simp [wN]
end Law
end
section
namespace Law
open PySem PyProof.Rows L2 DL Fq
theorem znT {fa : FE} {fl fh : FP} {r : Rho} {d d' : D} {lo hi : Option Int} (h1 : fa r = .ok d) (h2 : fl r = .ok lo) (h3 : fh r = .ok hi) (h4 : slA d lo hi = some d') : fSlA fa fl fh r = .ok d' := by
  unfold fSlA; rw [h1,bind_ok,h2,bind_ok,h3,bind_ok,h4]; rfl
theorem zlT (l : List Nat) (k : Nat) : ninD (nD k) (TN l) = some (.bl (! decide (k∈l))) := zoW l k
theorem zpo (l : List Nat) (k : Nat) : inD (nD k) (TN l) = some (.bl (decide (k∈l))) := by
  have := zlT l k
  unfold ninD at this
  unfold inD
  cases e : inB (nD k) (TN l) with
  | none => rw [e] at this; cases this
  | some b =>
    rw [e] at this
    have : some (D.bl (! b)) = some (D.bl (! decide (k∈l))) := this
    injection this with this
    injection this with this
    have : b = decide (k∈l) := by simpa using this
    rw [this]; rfl
theorem zpR {a b : List D} (ha : a≠[]) (h : a.length + b.length≤1000) : addA (.tup a) (.tup b) = some (.tup (a++b)) := by
  cases a with
  | nil => exact absurd rfl ha
  | cons x a =>
    show (if (x::a).length + b.length≤sizeLine then some (D.tup (x::a++b)) else none) = _
    rw [if_pos (by rw [sizeLine_eq]; omega)]
structure Rr (ns : List Int) (n : Nat) (rr : Nat→List Nat) : Prop where
  pm : ∀ h,h < n→(rr h).Perm (List.range n)
  run : ∀ h,h < n→∃ c,zaF [IN ns,nD (5 + h)] = .ok (nD c)∧zbe [nD c,nD n] = .ok (TN (rr h))
theorem zql (ns : List Int) {n : Nat} (hn : n≤60) : ∃ rr,Rr ns n rr := by
  have h : ∀ h : Nat,∃ row : List Nat,h < n→row.Perm (List.range n)∧∃ c : Nat,zaF [IN ns,nD (5 + h)] = .ok (nD c)∧zbe [nD c,nD n] = .ok (TN row) := by
    intro h
    by_cases hh : h < n
    · obtain ⟨c,hc⟩ := zds ns (5 + h) (by omega)
      obtain ⟨row,h1,h2⟩ := zgH c n hn
      exact ⟨row,fun _ => ⟨h1,c,hc,h2⟩⟩
    · exact ⟨[],fun z => absurd z hh⟩
  obtain ⟨g,hg⟩ := Classical.axiomOfChoice h
  exact ⟨g,fun h hh => (hg h hh).1,fun h hh => (hg h hh).2⟩
noncomputable def fW (own r : List Nat) : List Nat := own++r.filter fun t => decide (t∉own)
noncomputable def fD (n : Nat) (own : List Nat) (m : Nat) : List (Int × Nat) := (List.range n).map fun t => if t∈own then ((1 : Int),m) else (0,1)
section
variable {ns : List Int} {n : Nat} {rr : Nat → List Nat} {own z : List Nat} {W E : List D} {d2 d3 x6 x10 x11 x12 x13 : Option D} {h : Nat}
theorem zm3 (R : Rr ns n rr) (hn : n≤60) (ho : own≠[]) (hol : own.length≤60) (hh : h < n) (hW : W.length = n) (hE : E.length = n) :
    zhc [some (IN ns),some (nD n),d2,d3,some (.lst W),some (.lst E),x6,some (LN z),some (TN own),some (nD h),x10,x11,x12,x13] =
      .nx [some (IN ns),some (nD n),d2,d3,some (.lst (W.set h (TN (fW own (rr h))))),some (.lst (E.set h (TF (fD n own z.length)))),x6,some (LN z),some (TN own),some (nD h),some (TN (rr h)),x11,x12,x13] := by
  obtain ⟨c,hc,hr⟩ := R.run h hh
  have hl : (rr h).length = n := by rw [(R.pm h hh).length_eq]; simp
  refine (zag (zaq (d := TN (rr h)) (zak (zad (zak (zad (d := IN ns) rfl (zad (zai (a := nD 5) (b := nD h) rfl rfl (zc8 5 h)) zah)) hc) (zad (d := nD n) rfl zah)) hr))).trans ?_
  have e1 : addA (TN own) (.tup (((rr h).filter fun t => ! decide (t∈own)).map nD)) = some (TN (fW own (rr h))) := by
    rw [zpR (by simpa using ho) (by have := List.length_filter_le (fun t => ! decide (t∈own)) (rr h); simp only [List.length_map]; omega)]
    have ef : (rr h).filter (fun t => ! decide (t∈own)) = (rr h).filter fun t => decide (t∉own) := List.filter_congr fun t _ => by simp
    rw [ef]
    show some (D.tup (own.map nD++_)) = some (D.tup ((fW own (rr h)).map nD))
    unfold fW
    rw [List.map_append]
  refine (zag (ze0 (d := .lst W) (k := nD h) (v := TN (fW own (rr h))) rfl (zai (a := TN own) rfl (zbi (zad (zfB (l := rr h) nD (fun t => ! decide (t∈own)) nD (zcv (d := TN (rr h)) rfl rfl) (by omega) fun t ht => ⟨[some (nD t),some (TN own)],rfl,za2 (zai (a := nD t) (b := TN own) rfl rfl (zlT own t)),fun _ => rfl⟩) zah) (e_tupL _)) e1) rfl (ziE (by omega)))).trans ?_
  have e2 : ∀ t,ixA (.lst [FR (0,1),FR (1,z.length)]) (.int (if decide (t∈own) = true then 1 else 0)) = some (FR (if t∈own then ((1 : Int),z.length) else (0,1))) := fun t => by
    by_cases ht : t∈own
    · rw [if_pos (by simpa using ht),if_pos ht]; exact zh6 (i := 1) rfl
    · rw [if_neg (by simpa using ht),if_neg ht]; exact zh6 (i := 0) rfl
  refine zag (ze0 (d := .lst E) (k := nD h) (v := TF (fD n own z.length)) rfl (zbi (zad (zb2 (l := List.range n) nD (fun t => FR (if t∈own then ((1 : Int),z.length) else (0,1))) (zdg (zad (d := nD n) rfl zah) (zet (by omega))) (by simp; omega) fun t ht => ⟨[some (nD t),some (TN own),some (LN z)],rfl,?_⟩) zah) ?_) rfl (ziE (by omega)))
  · refine zai (zc5 (zad (zc4 (zad (d := .int 0) rfl (zad (d := .int 1) rfl zah)) (by simp)) (zad (zc4 (zad (d := .int 1) rfl (zad (d := nD z.length) (zbi (zad (d := LN z) rfl zah) (zbF nD z)) zah)) (by simp)) zah)) (by simp)) (zbi (zad (d := .bl (decide (t∈own))) (zai (a := nD t) (b := TN own) rfl rfl (zpo own t)) zah) rfl) (e2 t)
  · rw [e_tupL]
    show some (D.tup _) = some (D.tup _)
    unfold fD
    rw [List.map_map]; rfl
end
end Law
end
section
namespace Law
open PySem PyProof.Rows L2 DL Fq
theorem ziD {f : Nat→D} {n h : Nat} {v : D} : ((List.range n).map f).set h v = (List.range n).map fun k => if k = h then v else f k := by
  refine List.ext_getElem? fun i => ?_
  by_cases hi : i = h
  · subst hi
    by_cases hn : i < n
    · rw [List.getElem?_set_self (by simpa using hn),List.getElem?_map,List.getElem?_range hn]
      show some v = some (if i = i then v else f i)
      rw [if_pos rfl]
    · rw [List.getElem?_eq_none (by simp; omega),List.getElem?_eq_none (by simp; omega)]
  · rw [List.getElem?_set_ne (Ne.symm hi),List.getElem?_map,List.getElem?_map]
    cases e : (List.range n)[i]? with
    | none => rfl
    | some k =>
      have : k = i := by
        obtain ⟨h1,h2⟩ := List.getElem?_eq_some_iff.mp e
        simpa using h2.symm
      subst this
      show some (f k) = some (if k = h then v else f k)
      rw [if_neg hi]
theorem znh {α : Type} {l : List α} {i j : Nat} (h : i + j≤l.length) : cutL l (some (i : Int)) (some ((i + j : Nat) : Int)) = (l.drop i).take j := by
  unfold cutL
  rw [HT.sIx_nat,HT.sIx_nat,Nat.min_eq_left h,Nat.min_eq_left (by omega : i≤l.length),Nat.add_sub_cancel_left]
section
variable {ns : List Int} {n : Nat} {rr : Nat → List Nat}
theorem zju (R : Rr ns n rr) (hn : n≤60) {own z : List Nat} (ho : own≠[]) (hol : own.length≤60) {d2 d3 x6 x11 x12 x13 : Option D} : ∀ (l : List Nat) (wl el : Nat→D) (x9 x10 : Option D),(∀ h∈l,h < n) →
    ∃ y9 y10,forF (ftN 9) zhc (l.map nD) [some (IN ns),some (nD n),d2,d3,some (.lst ((List.range n).map wl)),some (.lst ((List.range n).map el)),x6,some (LN z),some (TN own),x9,x10,x11,x12,x13] =
      .nx [some (IN ns),some (nD n),d2,d3,some (.lst ((List.range n).map fun k => if k∈l then TN (fW own (rr k)) else wl k)),some (.lst ((List.range n).map fun k => if k∈l then TF (fD n own z.length) else el k)),x6,some (LN z),some (TN own),y9,y10,x11,x12,x13]
  | [],wl,el,x9,x10,_ => ⟨x9,x10,by simpa using zbs⟩
  | h::l,wl,el,x9,x10,hl => by
    have st := zm3 (d2 := d2) (d3 := d3) (x6 := x6) (x10 := x10) (x11 := x11) (x12 := x12) (x13 := x13) (z := z) (W := (List.range n).map wl) (E := (List.range n).map el) R hn ho hol (hl h List.mem_cons_self) (by simp) (by simp)
    rw [ziD,ziD] at st
    obtain ⟨y9,y10,ih⟩ := zju R hn (z := z) ho hol (d2 := d2) (d3 := d3) (x6 := x6) (x11 := x11) (x12 := x12) (x13 := x13) l (fun k => if k = h then TN (fW own (rr h)) else wl k) (fun k => if k = h then TF (fD n own z.length) else el k) (some (nD h)) (some (TN (rr h))) fun k hk => hl k (List.mem_cons_of_mem _ hk)
    refine ⟨y9,y10,?_⟩
    have e1 : ((List.range n).map fun k => if k∈h::l then TN (fW own (rr k)) else wl k) = (List.range n).map fun k => if k∈l then TN (fW own (rr k)) else if k = h then TN (fW own (rr h)) else wl k := List.map_congr_left fun k _ => by
      by_cases a : k∈l
      · rw [if_pos (List.mem_cons_of_mem _ a),if_pos a]
      · by_cases b : k = h
        · subst b; rw [if_pos List.mem_cons_self,if_neg a,if_pos rfl]
        · rw [if_neg (by simp [a,b]),if_neg a,if_neg b]
    have e2 : ((List.range n).map fun k => if k∈h::l then TF (fD n own z.length) else el k) = (List.range n).map fun k => if k∈l then TF (fD n own z.length) else if k = h then TF (fD n own z.length) else el k := List.map_congr_left fun k _ => by
      by_cases a : k∈l
      · rw [if_pos (List.mem_cons_of_mem _ a),if_pos a]
      · by_cases b : k = h
        · subst b; rw [if_pos List.mem_cons_self,if_neg a,if_pos rfl]
        · rw [if_neg (by simp [a,b]),if_neg a,if_neg b]
    rw [e1,e2,List.map_cons,← ih]
    exact zbS (r1 := [some (IN ns),some (nD n),d2,d3,some (.lst ((List.range n).map wl)),some (.lst ((List.range n).map el)),x6,some (LN z),some (TN own),some (nD h),x10,x11,x12,x13]) rfl st
noncomputable def oOf (th : List Nat) : List (List Nat)→Nat→Nat→List Nat
  | [],_,_ => []
  | z::l,a,h => if h∈z then (th.drop a).take z.length else oOf th l (a + z.length) h
noncomputable def mOf : List (List Nat)→Nat→Nat
  | [],_ => 0
  | z::l,h => if h∈z then z.length else mOf l h
theorem zjt (R : Rr ns n rr) (hn : n≤60) {th : List Nat} (hth : th.length = n) {d2 x11 x12 x13 : Option D} : ∀ (l : List (List Nat)) (a : Nat) (wl el : Nat→D) (x7 x8 x9 x10 : Option D),(∀ z∈l,z≠[])→(∀ h∈l.flatten,h < n)→l.flatten.Nodup→a + l.flatten.length≤n →
    ∃ y6 y7 y8 y9 y10,forF (ftN 7) zkk (l.map LN) [some (IN ns),some (nD n),d2,some (TN th),some (.lst ((List.range n).map wl)),some (.lst ((List.range n).map el)),some (nD a),x7,x8,x9,x10,x11,x12,x13] =
      .nx [some (IN ns),some (nD n),d2,some (TN th),some (.lst ((List.range n).map fun k => if k∈l.flatten then TN (fW (oOf th l a k) (rr k)) else wl k)),some (.lst ((List.range n).map fun k => if k∈l.flatten then TF (fD n (oOf th l a k) (mOf l k)) else el k)),y6,y7,y8,y9,y10,x11,x12,x13]
  | [],a,wl,el,x7,x8,x9,x10,_,_,_,_ => ⟨some (nD a),x7,x8,x9,x10,by simpa using zbs⟩
  | z::l,a,wl,el,x7,x8,x9,x10,hz,hl,hnd,ha => by
    rw [List.flatten_cons,List.length_append] at ha
    rw [List.flatten_cons] at hl hnd
    have hnd' := List.nodup_append.mp hnd
    have hz0 : 0 < z.length := List.length_pos_iff.mpr (hz z List.mem_cons_self)
    have hol : ((th.drop a).take z.length).length = z.length := by rw [List.length_take,List.length_drop]; omega
    obtain ⟨y9,y10,i0⟩ := zju R hn (own := (th.drop a).take z.length) (z := z) (by intro e; rw [e] at hol; simp at hol; omega) (by omega) (d2 := d2) (d3 := some (TN th)) (x6 := some (nD (a + z.length))) (x11 := x11) (x12 := x12) (x13 := x13) z wl el x9 x10 fun h hh => hl h (List.mem_append_left _ hh)
    obtain ⟨y6,y7,y8,y9',y10',i1⟩ := zjt R hn hth (d2 := d2) (x11 := x11) (x12 := x12) (x13 := x13) l (a + z.length) (fun k => if k∈z then TN (fW ((th.drop a).take z.length) (rr k)) else wl k) (fun k => if k∈z then TF (fD n ((th.drop a).take z.length) z.length) else el k) (some (LN z)) (some (TN ((th.drop a).take z.length))) y9 y10 (fun q hq => hz q (List.mem_cons_of_mem _ hq)) (fun h hh => hl h (List.mem_append_right _ hh)) hnd'.2.1 (by omega)
    refine ⟨y6,y7,y8,y9',y10',?_⟩
    have no : ∀ k,k∈z→k∉l.flatten := fun k h1 h2 => hnd'.2.2 k h1 k h2 rfl
    have e1 : ((List.range n).map fun k => if k∈(z::l).flatten then TN (fW (oOf th (z::l) a k) (rr k)) else wl k) = (List.range n).map fun k => if k∈l.flatten then TN (fW (oOf th l (a + z.length) k) (rr k)) else if k∈z then TN (fW ((th.drop a).take z.length) (rr k)) else wl k := List.map_congr_left fun k _ => by
      rw [List.flatten_cons]
      by_cases q : k∈z
      · rw [if_pos (List.mem_append_left _ q),if_neg (no k q),if_pos q]; unfold oOf; rw [if_pos q]
      · by_cases q2 : k∈l.flatten
        · rw [if_pos (List.mem_append_right _ q2),if_pos q2]; conv => lhs; unfold oOf
          rw [if_neg q]
        · rw [if_neg (fun y => (List.mem_append.mp y).elim q q2),if_neg q2,if_neg q]
    have e2 : ((List.range n).map fun k => if k∈(z::l).flatten then TF (fD n (oOf th (z::l) a k) (mOf (z::l) k)) else el k) = (List.range n).map fun k => if k∈l.flatten then TF (fD n (oOf th l (a + z.length) k) (mOf l k)) else if k∈z then TF (fD n ((th.drop a).take z.length) z.length) else el k := List.map_congr_left fun k _ => by
      rw [List.flatten_cons]
      by_cases q : k∈z
      · rw [if_pos (List.mem_append_left _ q),if_neg (no k q),if_pos q]; unfold oOf mOf; rw [if_pos q,if_pos q]
      · by_cases q2 : k∈l.flatten
        · rw [if_pos (List.mem_append_right _ q2),if_pos q2]; conv => lhs; unfold oOf mOf
          rw [if_neg q,if_neg q]
        · rw [if_neg (fun y => (List.mem_append.mp y).elim q q2),if_neg q2,if_neg q]
    rw [e1,e2,List.map_cons,← i1]
    refine zbS (r1 := [some (IN ns),some (nD n),d2,some (TN th),some (.lst ((List.range n).map wl)),some (.lst ((List.range n).map el)),some (nD a),some (LN z),x8,x9,x10,x11,x12,x13]) rfl ?_
    have eln : lenD [LN z] = some (nD z.length) := zbF nD z
    have esl : slA (TN th) (some (a : Int)) (some ((a + z.length : Nat) : Int)) = some (TN ((th.drop a).take z.length)) := by
      show some (D.tup (cutL (th.map nD) _ _)) = some (D.tup _)
      rw [znh (by rw [List.length_map]; omega),List.map_take,List.map_drop]
    refine (zag (zaq (d := TN ((th.drop a).take z.length)) (znT (d := TN th) rfl (zfo (i := (a : Int)) rfl) (zfo (i := ((a + z.length : Nat) : Int)) (zai (a := nD a) (b := nD z.length) rfl (zbi (zad (d := LN z) rfl zah) eln) (zc8 a z.length))) esl))).trans ?_
    refine (zag (zaq (d := nD (a + z.length)) (zai (a := nD a) (b := nD z.length) rfl (zbi (zad (d := LN z) rfl zah) eln) (zc8 a z.length)))).trans ?_
    exact zag ((zbq (zcv (d := LN z) rfl rfl)).trans i0)
end
end Law
end
section
namespace Law
open PySem PyProof.Rows L2 DL Fq
theorem zlR (th : List Nat) : ∀ (l : List (List Nat)) (a h : Nat),h∈l.flatten→oOf th l a h = (th.drop (a + Et.off l (Et.coI l h))).take (l.getD (Et.coI l h) []).length∧mOf l h = (l.getD (Et.coI l h) []).length
  | [],a,h,hh => by cases hh
  | z::l,a,h,hh => by
    by_cases hz : h∈z
    · have e : Et.coI (z::l) h = 0 := by unfold Et.coI; rw [List.findIdx_cons]; simp [hz]
      rw [e]
      unfold oOf mOf
      rw [if_pos hz,if_pos hz]
      exact ⟨by simp [Et.off],by simp⟩
    · have hl : h∈l.flatten := by
        rw [List.flatten_cons] at hh
        exact (List.mem_append.mp hh).resolve_left hz
      have e : Et.coI (z::l) h = Et.coI l h + 1 := by unfold Et.coI; rw [List.findIdx_cons]; simp [hz]
      obtain ⟨i1,i2⟩ := zlR th l (a + z.length) h hl
      rw [e]
      unfold oOf mOf
      rw [if_neg hz,if_neg hz,i1,i2]
      refine ⟨?_,by simp⟩
      have eo : Et.off (z::l) (Et.coI l h + 1) = z.length + Et.off l (Et.coI l h) := by unfold Et.off; rw [List.take_succ_cons,List.flatten_cons,List.length_append]
      rw [eo,Nat.add_assoc]; simp
section
variable {ns : List Int} {n : Nat} {rr : Nat → List Nat} {cs : List (List Nat)} {th : List Nat}
theorem zi2 (C : Et.Cut n cs th) {h : Nat} (hh : h < n) : oOf th cs 0 h = Et.ownI th cs (Et.coI cs h)∧mOf cs h = (Et.ownI th cs (Et.coI cs h)).length := by
  obtain ⟨h1,h2⟩ := zlR th cs 0 h (C.fl.mem_iff.mpr (List.mem_range.mpr hh))
  obtain ⟨hi,_⟩ := Et.co_lt C hh
  rw [Nat.zero_add] at h1
  refine ⟨h1,?_⟩
  rw [h2,Et.own_len C hi,List.getD_eq_getElem?_getD,List.getElem?_eq_getElem hi]; rfl
noncomputable def bld (th : List Nat) (cs : List (List Nat)) (rr : Nat→List Nat) (n : Nat) : List (List Nat) := (List.range n).map fun k => fW (oOf th cs 0 k) (rr k)
theorem zpM {h : Nat} (hh : h < n) : Wr (bld th cs rr n) h = fW (oOf th cs 0 h) (rr h) := by
  unfold Wr bld
  simp [hh]
theorem znc {own r : List Nat} {n : Nat} (hr : r.Perm (List.range n)) (ho : own.Nodup) (hl : ∀ x∈own,x < n) : (fW own r).Perm (List.range n) := by
  have rn := hr.nodup_iff.mpr List.nodup_range
  refine (List.perm_ext_iff_of_nodup ?_ List.nodup_range).mpr fun x => ?_
  · unfold fW
    rw [List.nodup_append]
    refine ⟨ho,rn.filter _,fun a h1 b h2 e => ?_⟩
    subst e
    have := (List.mem_filter.mp h2).2
    simp at this
    exact this h1
  · unfold fW
    rw [List.mem_append,List.mem_filter,hr.mem_iff]
    constructor
    · rintro (h | h)
      · exact List.mem_range.mpr (hl x h)
      · exact h.1
    · intro h
      by_cases hx : x∈own
      · exact .inl hx
      · exact .inr ⟨h,by simpa using hx⟩
theorem zka (C : Et.Cut n cs th) : Et.Co (Wr (bld th cs rr n)) n (Et.coI cs) (Et.ownI th cs) := Et.co_of C fun h hh => ⟨_,by rw [zpM hh,(zi2 C hh).1]; rfl⟩
theorem zj9 (C : Et.Cut n cs th) (R : Rr ns n rr) (h1 : 1≤n) (h7 : n≤7) : Sq (bld th cs rr n) n := by
  refine ⟨h1,h7,by unfold bld; simp,fun row hr => ?_⟩
  unfold bld at hr
  obtain ⟨h,hh,rfl⟩ := List.mem_map.mp hr
  have hh := List.mem_range.mp hh
  have K := zka (rr := rr) C
  rw [(zi2 C hh).1]
  exact znc (R.pm h hh) (K.nd h hh) (K.lt h hh)
theorem znn (C : Et.Cut n cs th) (R : Rr ns n rr) (h1 : 1≤n) (h7 : n≤7) {h : Nat} (hh : h < n) : tbR (bld th cs rr n) n h = fD n (oOf th cs 0 h) (mOf cs h) := by
  have S := zj9 C R h1 h7
  unfold tbR fD
  refine List.map_congr_left fun x hx => ?_
  have hx := List.mem_range.mp hx
  obtain ⟨o1,o2⟩ := zi2 C hh
  obtain ⟨t1,t2⟩ := Et.comp_tab S.rw (zka (rr := rr) C) (k := 64) (by omega) hh hx
  rw [o1,o2]
  by_cases hm : x∈Et.ownI th cs (Et.coI cs h)
  · rw [if_pos hm]
    have e := t1 hm
    have hp : 0 < (Et.ownI th cs (Et.coI cs h)).length := List.length_pos_of_mem hm
    show Qd ((tbN _ n h x : Nat) : Int) = _
    unfold Qd
    rw [← zo4]
    refine zbd DD_pos hp ?_
    have e' : tbN (bld th cs rr n) n h x * (Et.ownI th cs (Et.coI cs h)).length = DD := by rw [Nat.mul_comm]; exact e
    rw [Int.one_mul,← Int.natCast_mul,e']
  · rw [if_neg hm]
    show Qd ((tbN _ n h x : Nat) : Int) = _
    have : tbN (bld th cs rr n) n h x = 0 := t2 hm
    rw [this]
    exact Qd_0
theorem zno (C : Et.Cut n cs th) (R : Rr ns n rr) (h1 : 1≤n) (h7 : n≤7) : ((List.range n).map fun k => TF (fD n (oOf th cs 0 k) (mOf cs k))) = (tbl (bld th cs rr n) n).map TF := by
  unfold tbl
  rw [List.map_map]
  refine List.map_congr_left fun h hh => ?_
  show _ = TF (tbR _ n h)
  rw [znn C R h1 h7 (List.mem_range.mp hh)]
end
theorem zpC (l : List (Int × Nat)) : PyData.eqv (toPy (TF l)) (toPy (TF l)) = true := by
  simp only [toPy,PyData.eqv]; exact zhC l
theorem zgm : ∀ t : List (List (Int × Nat)),PyData.eqvAll (zbg (t.map TF)) (zbg (t.map TF)) = true
  | [] => by simp [zbg,PyData.eqvAll]
  | l::t => by
    have h1 := zpC l
    have h2 := zgm t
    simp only [List.map_cons,zbg,PyData.eqvAll,h1,h2,Bool.and_self]
theorem znd (t : List (List (Int × Nat))) : eqB (TTF t) (TTF t) = some true := by
  have sh : Shp 60 (TTF t) := zbO.mpr fun d hd => by
    obtain ⟨l,_,rfl⟩ := List.mem_map.mp hd
    exact zbO.mpr zqc
  rw [zfA rfl sh sh]
  unfold eqb
  simp only [toPy,PyData.eqv,zgm]
theorem zmY (t : List (List (Int × Nat))) : neD (TTF t) (TTF t) = some (.bl false) := by unfold neD; rw [znd]; rfl
theorem rl' {a b : Nat} (ha : a≤DD) (hb : b≤DD) : zbX [QF a,QF b] = .ok (.bl (decide (a < b))) := by
  have := zf2 (zeX ha) (zeX hb) (by omega) (by omega)
  rw [zke] at this
  rw [this]
  simp only [Int.ofNat_lt]
theorem zipE : ∀ (l r : List (Nat × List Nat)),List.zipWith (fun a b => D.tup [a,b]) (l.map eD) (r.map eD) = (l.zip r).map fun p => D.tup [eD p.1,eD p.2]
  | [],_ => rfl
  | _::_,[] => rfl
  | a::l,b::r => by
    show D.tup [eD a,eD b]::_ = D.tup [eD a,eD b]::_
    rw [zipE l r]; rfl
theorem zhd {α : Type} {R : α→α→Prop} : ∀ {l : List α},l.Pairwise R→∀ p∈l.zip (l.drop 1),R p.1 p.2
  | [],_,p,hp => by cases hp
  | [x],_,p,hp => by cases hp
  | x::y::l,h,p,hp => by
    rw [List.pairwise_cons] at h
    rcases List.mem_cons.mp (show p∈(x,y)::(y::l).zip l from hp) with rfl | hp
    · exact h.1 y List.mem_cons_self
    · exact zhd h.2 p (by simpa using hp)
theorem zhW {L : List (Nat × List Nat)} (hL : L≠[]) (hl : L.length≤60) (hp : L.Pairwise fun e f => e.1 < f.1) (hd : ∀ e∈L,e.1≤DD) : zbI [.lst (L.map eD)] = .ok (.bl true) := by
  refine zaW (B := zbK) (n := 1) ?_
  unfold zbK
  have h1 : 1≤(L.map eD).length := by rw [List.length_map]; exact List.length_pos_iff.mpr hL
  have es : slD (.lst (L.map eD)) (some ((1 : Nat) : Int)) none = some (.lst ((L.drop 1).map eD)) := by
    show some (D.lst (cutL (L.map eD) _ none)) = _
    rw [zhF h1,List.map_drop]
  refine zaN (zaS (zbi (zad (zb2 (l := L.zip (L.drop 1)) (fun p => D.tup [eD p.1,eD p.2]) (fun p => .bl (decide (p.1.1 < p.2.1))) (by rw [znb (d := .lst (L.map eD)) (e := .lst ((L.drop 1).map eD)) rfl (znS (d := .lst (L.map eD)) rfl (zfo (i := ((1 : Nat) : Int)) rfl) rfl es) rfl rfl,zipE]) (by have := List.length_zip (l₁ := L) (l₂ := L.drop 1); omega) fun p hp' => ⟨[some (eD p.1),some (eD p.2)],rfl,?_⟩) zah) ?_))
  · have hm := List.of_mem_zip hp'
    exact zak (zad (zai (a := eD p.1) (b := .int 0) (d := QF p.1.1) rfl rfl rfl) (zad (zai (a := eD p.2) (b := .int 0) (d := QF p.2.1) rfl rfl rfl) zah)) (rl' (hd _ hm.1) (hd _ (List.mem_of_mem_drop hm.2)))
  · have := zpP (fun p : (Nat × List Nat) × (Nat × List Nat) => decide (p.1.1 < p.2.1)) (L.zip (L.drop 1))
    rw [List.all_eq_true.mpr (fun p hp' => by simpa using zhd hp p hp')] at this
    exact this
end Law
end
section
namespace Law
open PySem PyProof.Rows L2 DL Fq
theorem zjO (p q : Int × Nat) : eqb (FR p) (FR q) = decide (p = q) := by
  have sh : ∀ p : Int × Nat,Shp 60 (FR p) := fun p => zbO.mpr fun d hd => by
    simp only [List.mem_cons,List.not_mem_nil,or_false] at hd
    rcases hd with rfl | rfl <;> simp [Shp]
  have h := zl3 p q
  rw [zfA rfl (sh p) (sh q)] at h
  injection h
theorem zoV (t : Int × Nat) (M : List (Int × Nat)) : ninE (FR t) (LF M) = some (.bl (! decide (t∈M))) := by
  have sh : ∀ p : Int × Nat,∀ k,Shp (k + 1) (FR p) := fun p k => zbO.mpr fun d hd => by
    simp only [List.mem_cons,List.not_mem_nil,or_false] at hd
    rcases hd with rfl | rfl <;> simp [Shp]
  unfold ninE
  have s2 : Shp 60 (.lst (M.map FR)) := zdB.mpr fun d hd => by
    obtain ⟨p,_,rfl⟩ := List.mem_map.mp hd
    exact sh p _
  simp only []
  rw [if_pos ⟨sh t _,s2⟩]
  congr 3
  rw [List.any_map,Bool.eq_iff_iff,List.any_eq_true,decide_eq_true_iff]
  constructor
  · rintro ⟨y,hy,e⟩
    have : eqb (FR y) (FR t) = true := e
    rw [zjO,decide_eq_true_iff] at this
    exact this ▸ hy
  · intro h
    exact ⟨t,h,by show eqb (FR t) (FR t) = true; rw [zjO]; simp⟩
noncomputable def addM (M : List (Int × Nat)) (t : Int × Nat) : List (Int × Nat) := if t∈M then M else M++[t]
noncomputable def mz (M : List (Int × Nat)) (z : List Nat) : List (Int × Nat) := (List.range z.length).foldl (fun M k => addM M (low ((k + 1 : Nat) : Int) z.length)) M
theorem zhH (M : List (Int × Nat)) (t : Int × Nat) : (addM M t).length≤M.length + 1 := by
  unfold addM; split <;> simp
theorem zfx (f : Nat→Int × Nat) : ∀ (l : List Nat) (M : List (Int × Nat)),(l.foldl (fun M k => addM M (f k)) M).length≤M.length + l.length
  | [],M => by simp
  | k::l,M => by
    have h1 := zfx f l (addM M (f k))
    have h2 := zhH M (f k)
    simp only [List.foldl_cons,List.length_cons]
    omega
theorem zhA (f : Nat→Int × Nat) (t : Int × Nat) : ∀ (l : List Nat) (M : List (Int × Nat)),t∈l.foldl (fun M k => addM M (f k)) M↔t∈M∨∃ k∈l,t = f k
  | [],M => by simp
  | k::l,M => by
    rw [List.foldl_cons,zhA f t l]
    have : t∈addM M (f k)↔t∈M∨t = f k := by
      unfold addM
      split
      · rename_i h
        exact ⟨.inl,fun z => z.elim id fun e => e ▸ h⟩
      · simp
    rw [this]
    simp only [List.mem_cons,exists_eq_or_imp,or_assoc]
theorem zjK (f : Nat→Int × Nat) : ∀ (l : List Nat) (M : List (Int × Nat)),M.Nodup→(l.foldl (fun M k => addM M (f k)) M).Nodup
  | [],M,h => h
  | k::l,M,h => by
    rw [List.foldl_cons]
    refine zjK f l _ ?_
    unfold addM
    split
    · exact h
    · rename_i hn
      rw [List.nodup_append]
      exact ⟨h,by simp,fun a ha b hb e => by rw [List.mem_singleton] at hb; subst hb; subst e; exact hn ha⟩
section
variable {d0 d1 x6 x7 x8 : Option D}
theorem mo_0 {z : List Nat} (hz : 0 < z.length) (hz2 : z.length≤60) : ∀ (ks : List Nat) (M : List (Int × Nat)) (x4 x5 : Option D),M.length + ks.length≤900 →
    ∃ y4 y5,forF (ftN 4) zcC (ks.map nD) [d0,d1,some (LF M),some (LN z),x4,x5,x6,x7,x8] = .nx [d0,d1,some (LF (ks.foldl (fun M k => addM M (low ((k + 1 : Nat) : Int) z.length)) M)),some (LN z),y4,y5,x6,x7,x8]
  | [],M,x4,x5,_ => ⟨x4,x5,zbs⟩
  | k::ks,M,x4,x5,hl => by
    simp only [List.length_cons] at hl
    obtain ⟨y4,y5,ih⟩ := mo_0 hz hz2 ks (addM M (low ((k + 1 : Nat) : Int) z.length)) (some (nD k)) (some (FR (low ((k + 1 : Nat) : Int) z.length))) (by have := zhH M (low ((k + 1 : Nat) : Int) z.length); omega)
    refine ⟨y4,y5,?_⟩
    rw [List.map_cons,List.foldl_cons,← ih]
    refine zbS (r1 := [d0,d1,some (LF M),some (LN z),some (nD k),x5,x6,x7,x8]) rfl ?_
    refine (zag (zaq (d := FR (low ((k + 1 : Nat) : Int) z.length)) (zak (zad (zai (a := nD k) (b := nD 1) rfl rfl (zc8 k 1)) (zad (d := nD z.length) (zbi (zad (d := LN z) rfl zah) (zbF nD z)) zah)) (zms (k := 6) hz (by omega) (by omega))))).trans ?_
    have t := za2 (zai (f := gv 5) (f' := gv 2) (r := [d0,d1,some (LF M),some (LN z),some (nD k),some (FR (low ((k + 1 : Nat) : Int) z.length)),x6,x7,x8]) (a := FR (low ((k + 1 : Nat) : Int) z.length)) (b := LF M) rfl rfl (zoV _ M))
    by_cases h : low ((k + 1 : Nat) : Int) z.length∈M
    · rw [decide_eq_true h] at t
      have e : addM M (low ((k + 1 : Nat) : Int) z.length) = M := by unfold addM; rw [if_pos h]
      rw [e]
      exact zag ((if_f t).trans (e_skip _))
    · rw [decide_eq_false h] at t
      have e : addM M (low ((k + 1 : Nat) : Int) z.length) = M++[low ((k + 1 : Nat) : Int) z.length] := by unfold addM; rw [if_neg h]
      rw [e]
      refine zag ((if_t t).trans ?_)
      refine (zag (ze3 (d := LF M) (ds := [FR (low ((k + 1 : Nat) : Int) z.length)]) (d' := LF (M++[low ((k + 1 : Nat) : Int) z.length])) rfl rfl (zad (d := FR (low ((k + 1 : Nat) : Int) z.length)) rfl zah) ?_)).trans rfl
      rw [zeF (by rw [List.length_map]; omega)]
      show some (D.lst _) = some (D.lst _)
      rw [List.map_append]; rfl
theorem mo_1 : ∀ (cs : List (List Nat)) (M : List (Int × Nat)) (x3 x4 x5 : Option D),(∀ z∈cs,z≠[])→(∀ z∈cs,z.length≤60)→M.length + cs.flatten.length≤900 →
    ∃ y3 y4 y5,forF (ftN 3) zcB (cs.map LN) [d0,d1,some (LF M),x3,x4,x5,x6,x7,x8] = .nx [d0,d1,some (LF (cs.foldl mz M)),y3,y4,y5,x6,x7,x8]
  | [],M,x3,x4,x5,_,_,_ => ⟨x3,x4,x5,zbs⟩
  | z::cs,M,x3,x4,x5,hz,h60,hl => by
    rw [List.flatten_cons,List.length_append] at hl
    have hz0 : 0 < z.length := List.length_pos_iff.mpr (hz z List.mem_cons_self)
    have hz6 := h60 z List.mem_cons_self
    obtain ⟨y4,y5,i0⟩ := mo_0 (d0 := d0) (d1 := d1) (x6 := x6) (x7 := x7) (x8 := x8) hz0 hz6 (List.range z.length) M x4 x5 (by simp; omega)
    obtain ⟨y3,y4',y5',i1⟩ := mo_1 cs (mz M z) (some (LN z)) y4 y5 (fun q hq => hz q (List.mem_cons_of_mem _ hq)) (fun q hq => h60 q (List.mem_cons_of_mem _ hq)) (by have := zfx (fun k => low ((k + 1 : Nat) : Int) z.length) (List.range z.length) M; unfold mz; rw [List.length_range] at this; omega)
    refine ⟨y3,y4',y5',?_⟩
    rw [List.map_cons,List.foldl_cons,← i1]
    refine zbS (r1 := [d0,d1,some (LF M),some (LN z),x4,x5,x6,x7,x8]) rfl ?_
    exact zag ((zbq (zdg (zad (d := nD z.length) (zbi (zad (d := LN z) rfl zah) (zbF nD z)) zah) (zet (by omega)))).trans i0)
end
theorem mz_mem (t : Int × Nat) : ∀ (cs : List (List Nat)) (M : List (Int × Nat)),t∈cs.foldl mz M↔t∈M∨∃ z∈cs,∃ k,k < z.length∧t = low ((k + 1 : Nat) : Int) z.length
  | [],M => by simp
  | z::cs,M => by
    rw [List.foldl_cons,mz_mem t cs]
    unfold mz
    rw [zhA (fun k => low ((k + 1 : Nat) : Int) z.length)]
    simp only [List.mem_cons,exists_eq_or_imp,or_assoc,List.mem_range]
theorem zo0 : ∀ (cs : List (List Nat)) (M : List (Int × Nat)),M.Nodup→(cs.foldl mz M).Nodup
  | [],M,h => h
  | z::cs,M,h => by rw [List.foldl_cons]; exact zo0 cs _ (zjK _ _ _ h)
theorem zjc : ∀ (cs : List (List Nat)) (M : List (Int × Nat)),(cs.foldl mz M).length≤M.length + cs.flatten.length
  | [],M => by simp
  | z::cs,M => by
    rw [List.foldl_cons,List.flatten_cons,List.length_append]
    have h1 := zjc cs (mz M z)
    have h2 := zfx (fun k => low ((k + 1 : Nat) : Int) z.length) (List.range z.length) M
    unfold mz at h1 ⊢
    rw [List.length_range] at h2
    omega
end Law
end
section
namespace Law
open PySem PyProof.Rows L2 DL Fq
noncomputable def oV (p q : Nat) (th : List Nat) : List (List Nat)→Nat→List Nat
  | [],_ => []
  | z::l,a => (if (p * z.length) % q = 0 then [th.getD (a + p * z.length / q - 1) 0] else [])++oV p q th l (a + z.length)
theorem zlQ (p q : Nat) (th : List Nat) : ∀ (l : List (List Nat)) (a : Nat),(oV p q th l a).length≤l.length
  | [],_ => Nat.le_refl _
  | z::l,a => by
    have := zlQ p q th l (a + z.length)
    unfold oV
    rw [List.length_append,List.length_cons]
    split <;> simp <;> omega
theorem zjl {c m : Nat} (hc : 0 < c) (hm : c≤m) (h60 : m≤60) : ∃ p q : Nat,low (c : Int) m = ((p : Int),q)∧0 < p∧p≤q∧q≤64∧p * m = c * q := by
  have hm0 : 0 < m := by omega
  have bd := Bd.low (k := 6) hm0 (by omega : m < 2 ^ 6) (t := (c : Int)) (by rw [Int.natAbs_natCast]; show c < 64; omega)
  have sm : (low (c : Int) m).1 * (m : Int) = (c : Int) * ((low (c : Int) m).2 : Int) := zcN _ _
  have hp := zde (c : Int) hm0
  generalize low (c : Int) m = t at *
  obtain ⟨x,q⟩ := t
  simp only at *
  have hx : 0 < x := by
    have : 0 < (c : Int) * (q : Int) := Int.mul_pos (by omega) (by omega)
    rw [← sm] at this
    rcases Int.lt_or_le 0 x with h | h
    · exact h
    · exfalso
      have h2 := Int.mul_le_mul_of_nonneg_right h (by omega : (0 : Int)≤(m : Int))
      rw [Int.zero_mul] at h2
      omega
  obtain ⟨p,rfl⟩ : ∃ p : Nat,x = (p : Int) := ⟨x.toNat,by omega⟩
  have e : p * m = c * q := by
    have : ((p * m : Nat) : Int) = ((c * q : Nat) : Int) := by rw [Int.natCast_mul,Int.natCast_mul]; exact sm
    omega
  refine ⟨p,q,rfl,by omega,?_,Nat.le_of_lt (show q < 64 from bd.bot),e⟩
  have h1 : p * m≤q * m := by rw [e,Nat.mul_comm q]; exact Nat.mul_le_mul_right _ hm
  exact Nat.le_of_mul_le_mul_right h1 hm0
theorem zgx : ∀ l : List Nat,zdw (l.map nD) = some (l.map fun k : Nat => (k : Int))
  | [] => rfl
  | x::l => by
    show (zdw (l.map nD)).map _ = _
    rw [zgx l]; rfl
section
variable {d0 d2 x4 x6 : Option D}
theorem zgL {p q : Nat} (hp : 0 < p) (hpq : p≤q) (hq : q≤64) {th : List Nat} (hn : th.length≤60) : ∀ (cs : List (List Nat)) (a : Nat) (O : List Nat) (x3 : Option D),(∀ z∈cs,z≠[])→a + cs.flatten.length≤th.length→O.length + cs.length≤900 →
    ∃ y3 y8,forF (ftN 3) zcA (cs.map LN) [d0,some (TN th),d2,x3,x4,some (FR ((p : Int),q)),x6,some (LN O),some (nD a)] = .nx [d0,some (TN th),d2,y3,x4,some (FR ((p : Int),q)),x6,some (LN (O++oV p q th cs a)),y8]
  | [],a,O,x3,_,_,_ => ⟨x3,some (nD a),by unfold oV; rw [List.append_nil]; exact zbs⟩
  | z::cs,a,O,x3,hz,ha,hO => by
    rw [List.flatten_cons,List.length_append] at ha
    simp only [List.length_cons] at hO
    have hz0 : 0 < z.length := List.length_pos_iff.mpr (hz z List.mem_cons_self)
    have hq0 : 0 < q := by omega
    have hqz : p * z.length / q≤z.length := Nat.div_le_of_le_mul (Nat.mul_le_mul_right _ hpq)
    have eln : lenD [LN z] = some (nD z.length) := zbF nD z
    have em : mulI (.int (p : Int)) (nD z.length) = some (nD (p * z.length)) := by
      rw [zjd (.inr ⟨by omega,by omega⟩),← Int.natCast_mul]
    have pre : ∀ (r : Rho),r = [d0,some (TN th),d2,some (LN z),x4,some (FR ((p : Int),q)),x6,some (LN O),some (nD a)]→(f2 (f2 (gv 5) (ci 0) ixA) (fC (zac (gv 3) lNil) lenD) mulI) r = .ok (nD (p * z.length)) := fun r e => by
      subst e
      exact zai (a := .int (p : Int)) (b := nD z.length) (zai (a := FR ((p : Int),q)) (b := .int 0) rfl rfl rfl) (zbi (zad (d := LN z) rfl zah) eln) em
    have pq : (f2 (gv 5) (ci 1) ixA) [d0,some (TN th),d2,some (LN z),x4,some (FR ((p : Int),q)),x6,some (LN O),some (nD a)] = .ok (nD q) := zai (a := FR ((p : Int),q)) (b := .int 1) rfl rfl (zdu _)
    have t := za2 (zai (zai (pre _ rfl) pq (zhu hq0)) (f' := fun _ => Res.ok (D.int 0)) (b := nD 0) rfl (zjQ ((p * z.length) % q) 0))
    by_cases h : (p * z.length) % q = 0
    · rw [decide_eq_true h] at t
      have hd1 : 0 < p * z.length / q := Nat.div_pos (Nat.le_of_dvd (Nat.mul_pos hp hz0) (Nat.dvd_of_mod_eq_zero h)) hq0
      have hix : a + p * z.length / q - 1 < th.length := by omega
      obtain ⟨y3,y8,ih⟩ := zgL hp hpq hq hn cs (a + z.length) (O++[th.getD (a + p * z.length / q - 1) 0]) (some (LN z)) (fun w hw => hz w (List.mem_cons_of_mem _ hw)) (by omega) (by simp; omega)
      refine ⟨y3,y8,?_⟩
      have eO : O++oV p q th (z::cs) a = O++[th.getD (a + p * z.length / q - 1) 0]++oV p q th cs (a + z.length) := by
        conv => lhs; unfold oV
        rw [if_pos h,List.append_assoc]
      rw [eO,List.map_cons,← ih]
      refine zbS (r1 := [d0,some (TN th),d2,some (LN z),x4,some (FR ((p : Int),q)),x6,some (LN O),some (nD a)]) rfl ?_
      have hsub : subI (nD (a + p * z.length / q)) (.int 1) = some (nD (a + p * z.length / q - 1)) := by
        show some (D.int (((a + p * z.length / q : Nat) : Int) - 1)) = some (D.int ((a + p * z.length / q - 1 : Nat) : Int))
        rw [show (((a + p * z.length / q : Nat) : Int) - 1) = ((a + p * z.length / q - 1 : Nat) : Int) by omega]
      have hat : ixA (TN th) (nD (a + p * z.length / q - 1)) = some (nD (th.getD (a + p * z.length / q - 1) 0)) := zjB (by rw [List.getElem?_map,List.getD_eq_getElem?_getD,List.getElem?_eq_getElem hix]; rfl)
      refine (zag (r' := [d0,some (TN th),d2,some (LN z),x4,some (FR ((p : Int),q)),x6,some (LN (O++[th.getD (a + p * z.length / q - 1) 0])),some (nD a)]) ((if_t t).trans ?_)).trans ?_
      · exact (zag (ze3 (d := LN O) (ds := [nD (th.getD (a + p * z.length / q - 1) 0)]) (d' := LN (O++[th.getD (a + p * z.length / q - 1) 0])) rfl rfl (zad (zai (a := TN th) rfl (zai (zai (a := nD a) rfl (zai (pre _ rfl) pq (zgW hq0 (by omega))) (zc8 _ _)) (b := .int 1) rfl hsub) hat) zah) (by rw [zeF (by rw [List.length_map]; omega)]; show some (D.lst _) = some (D.lst _); rw [List.map_append]; rfl))).trans rfl
      · exact zag (zaq (d := nD (a + z.length)) (zai (a := nD a) (b := nD z.length) rfl (zbi (zad (d := LN z) rfl zah) eln) (zc8 a z.length)))
    · rw [decide_eq_false h] at t
      obtain ⟨y3,y8,ih⟩ := zgL hp hpq hq hn cs (a + z.length) O (some (LN z)) (fun w hw => hz w (List.mem_cons_of_mem _ hw)) (by omega) (by omega)
      refine ⟨y3,y8,?_⟩
      have eO : oV p q th (z::cs) a = oV p q th cs (a + z.length) := by
        conv => lhs; unfold oV
        rw [if_neg h,List.nil_append]
      rw [eO,List.map_cons,← ih]
      refine zbS (r1 := [d0,some (TN th),d2,some (LN z),x4,some (FR ((p : Int),q)),x6,some (LN O),some (nD a)]) rfl ?_
      refine (zag ((if_f t).trans (e_skip _))).trans ?_
      exact zag (zaq (d := nD (a + z.length)) (zai (a := nD a) (b := nD z.length) rfl (zbi (zad (d := LN z) rfl zah) eln) (zc8 a z.length)))
end
end Law
end
section
namespace Law
open PySem PyProof.Rows L2 DL Fq
noncomputable def gN (th : List Nat) (cs : List (List Nat)) (t : Int × Nat) : List Int := srtI ((oV t.1.toNat t.2 th cs 0).map fun k : Nat => (k : Int))
noncomputable abbrev dE (th : List Nat) (cs : List (List Nat)) (t : Int × Nat) : D := .tup [FR t,.tup ((gN th cs t).map .int)]
noncomputable def zhI (t : Int × Nat) : Prop := ∃ p q : Nat,t = ((p : Int),q)∧0 < p∧p≤q∧q≤64
section
variable {cs : List (List Nat)} {th : List Nat} {d2 x4 : Option D}
theorem zjT (hn : th.length≤60) (hz : ∀ z∈cs,z≠[]) (hc : cs.flatten.length≤th.length) (hcl : cs.length≤60) : ∀ (ts : List (Int × Nat)) (lg : List D) (x3 x5 x7 x8 : Option D),(∀ t∈ts,zhI t)→lg.length + ts.length≤900 →
    ∃ y3 y5 y7 y8,forF (ftN 5) zcz (ts.map FR) [some (.lst (cs.map LN)),some (TN th),d2,x3,x4,x5,some (.lst lg),x7,x8] = .nx [some (.lst (cs.map LN)),some (TN th),d2,y3,x4,y5,some (.lst (lg++ts.map (dE th cs))),y7,y8]
  | [],lg,x3,x5,x7,x8,_,_ => ⟨x3,x5,x7,x8,by rw [List.map_nil,List.map_nil,List.append_nil]; exact zbs⟩
  | t::ts,lg,x3,x5,x7,x8,ht,hl => by
    simp only [List.length_cons] at hl
    obtain ⟨p,q,rfl,hp,hpq,hq⟩ := ht t List.mem_cons_self
    obtain ⟨y3,y8,i0⟩ := zgL (d0 := some (.lst (cs.map LN))) (d2 := d2) (x4 := x4) (x6 := some (.lst lg)) hp hpq hq hn cs 0 [] x3 hz (by omega) (by simp; omega)
    rw [List.nil_append] at i0
    obtain ⟨y3',y5,y7,y8',i1⟩ := zjT hn hz hc hcl ts (lg++[dE th cs ((p : Int),q)]) y3 (some (FR ((p : Int),q))) (some (LN (oV p q th cs 0))) y8 (fun t h => ht t (List.mem_cons_of_mem _ h)) (by simp; omega)
    refine ⟨y3',y5,y7,y8',?_⟩
    have e : lg++(((p : Int),q)::ts).map (dE th cs) = lg++[dE th cs ((p : Int),q)]++ts.map (dE th cs) := by rw [List.append_assoc]; rfl
    rw [e,List.map_cons,← i1]
    refine zbS (r1 := [some (.lst (cs.map LN)),some (TN th),d2,x3,x4,some (FR ((p : Int),q)),some (.lst lg),x7,x8]) rfl ?_
    refine (zag (zaq (d := LN []) (zc5 zah (by simp)))).trans ?_
    refine (zag (zaq (d := nD 0) rfl)).trans ?_
    refine (zag ((zbq (zcv (d := .lst (cs.map LN)) rfl rfl)).trans i0)).trans ?_
    have es : zhl [LN (oV p q th cs 0)] = some (.lst ((gN th cs ((p : Int),q)).map .int)) := by
      show (zdw ((oV p q th cs 0).map nD)).bind _ = _
      rw [zgx,Option.bind_some,if_pos (by rw [List.length_map]; have := zlQ p q th cs 0; omega)]
      rfl
    exact zag (ze3 (d := .lst lg) (ds := [dE th cs ((p : Int),q)]) rfl rfl (zad (zc4 (zad (d := FR ((p : Int),q)) rfl (zad (d := .tup ((gN th cs ((p : Int),q)).map .int)) (zbi (zad (zbi (zad (d := LN (oV p q th cs 0)) rfl zah) es) zah) (e_tupL _)) zah)) (by simp)) zah) (zeF (by omega)))
theorem zmu (hn : th.length≤60) (hz : ∀ z∈cs,z≠[]) (hc : cs.flatten.length≤th.length) (hcl : cs.length≤60) (h60 : ∀ z∈cs,z.length≤60) : (∀ t∈cs.foldl mz [],zhI t)∧zbx [.lst (cs.map LN),TN th] = .ok (.lst ((cs.foldl mz []).map (dE th cs))) := by
  have tok : ∀ t∈cs.foldl mz [],zhI t := fun t ht => by
    rcases (mz_mem t cs []).mp ht with z | ⟨z,hzm,k,hk,rfl⟩
    · cases z
    · obtain ⟨p,q,e,h1,h2,h3,_⟩ := zjl (c := k + 1) (m := z.length) (by omega) (by omega) (h60 z hzm)
      exact ⟨p,q,e,h1,h2,h3⟩
  refine ⟨tok,?_⟩
  have ml := zjc cs []
  obtain ⟨y3,y4,y5,i0⟩ := mo_1 (d0 := some (.lst (cs.map LN))) (d1 := some (TN th)) (x6 := none) (x7 := none) (x8 := none) cs [] none none none hz h60 (by rw [List.length_nil]; omega)
  obtain ⟨w3,w5,w7,w8,i1⟩ := zjT (d2 := some (LF (cs.foldl mz []))) (x4 := y4) hn hz hc hcl (cs.foldl mz []) [] y3 y5 none none tok (by rw [List.length_nil] at ml ⊢; omega)
  rw [List.nil_append] at i1
  refine zaW (B := zby) (n := 9) ?_
  unfold zby
  refine (zag (zaq (d := LF []) (zc5 zah (by simp)))).trans ?_
  refine (zag ((zbq (zcv (d := .lst (cs.map LN)) rfl rfl)).trans i0)).trans ?_
  refine (zag (zaq (d := .lst []) (zc5 zah (by simp)))).trans ?_
  refine (zag ((zbq (zcv (d := LF (cs.foldl mz [])) rfl rfl)).trans i1)).trans ?_
  exact zaN (zaS (d := .lst ((cs.foldl mz []).map (dE th cs))) rfl)
end
theorem zlP (p q : Nat) (th : List Nat) (x : Nat) : ∀ (cs : List (List Nat)) (a : Nat),x∈oV p q th cs a↔∃ i,∃ hi : i < cs.length,(p * cs[i].length) % q = 0∧x = th.getD (a + Et.off cs i + p * cs[i].length / q - 1) 0
  | [],a => by simp [oV]
  | z::cs,a => by
    unfold oV
    rw [List.mem_append,zlP p q th x cs]
    constructor
    · rintro (h | ⟨i,hi,h1,h2⟩)
      · by_cases hz : (p * z.length) % q = 0
        · rw [if_pos hz] at h
          exact ⟨0,by simp,hz,by rw [List.mem_singleton.mp h]; simp [Et.off]⟩
        · rw [if_neg hz] at h; cases h
      · refine ⟨i + 1,by simpa using hi,h1,?_⟩
        have : Et.off (z::cs) (i + 1) = z.length + Et.off cs i := by unfold Et.off; rw [List.take_succ_cons,List.flatten_cons,List.length_append]
        rw [this,h2,Nat.add_assoc a]; rfl
    · rintro ⟨i,hi,h1,h2⟩
      cases i with
      | zero =>
        left
        have h1' : (p * z.length) % q = 0 := h1
        rw [if_pos h1',List.mem_singleton,h2]
        simp [Et.off]
      | succ i =>
        right
        refine ⟨i,by simpa using hi,h1,?_⟩
        have : Et.off (z::cs) (i + 1) = z.length + Et.off cs i := by unfold Et.off; rw [List.take_succ_cons,List.flatten_cons,List.length_append]
        rw [this,← Nat.add_assoc a] at h2
        exact h2
end Law
end
section
namespace Law
open PySem PyProof.Rows L2 DL Fq
theorem zoS {p q : Nat} (hp : 0 < p) (hpq : p≤q) {th : List Nat} (tn : th.Nodup) : ∀ (cs : List (List Nat)) (a : Nat),(∀ z∈cs,z≠[])→a + cs.flatten.length≤th.length→(oV p q th cs a).Nodup∧∀ x∈oV p q th cs a,a≤th.idxOf x
  | [],a,_,_ => ⟨.nil,fun x hx => by cases hx⟩
  | z::cs,a,hz,ha => by
    rw [List.flatten_cons,List.length_append] at ha
    obtain ⟨i1,i2⟩ := zoS hp hpq tn cs (a + z.length) (fun w hw => hz w (List.mem_cons_of_mem _ hw)) (by omega)
    have hz0 : 0 < z.length := List.length_pos_iff.mpr (hz z List.mem_cons_self)
    unfold oV
    by_cases h : (p * z.length) % q = 0
    · rw [if_pos h]
      have hq : 0 < q := by omega
      have hd1 : 0 < p * z.length / q := Nat.div_pos (Nat.le_of_dvd (Nat.mul_pos hp hz0) (Nat.dvd_of_mod_eq_zero h)) hq
      have hle : p * z.length / q≤z.length := Nat.div_le_of_le_mul (Nat.mul_le_mul_right _ hpq)
      generalize p * z.length / q = c at *
      have hix : a + c - 1 < th.length := by omega
      have ei : th.idxOf (th.getD (a + c - 1) 0) = a + c - 1 := by
        have : th.getD (a + c - 1) 0 = th[a + c - 1] := by rw [List.getD_eq_getElem?_getD,List.getElem?_eq_getElem hix]; rfl
        rw [this]; exact tn.idxOf_getElem _ hix
      refine ⟨?_,fun x hx => ?_⟩
      · rw [List.singleton_append,List.nodup_cons]
        refine ⟨fun hm => ?_,i1⟩
        have := i2 _ hm
        omega
      · rcases List.mem_cons.mp hx with rfl | hx
        · omega
        · have := i2 x hx; omega
    · rw [if_neg h,List.nil_append]
      exact ⟨i1,fun x hx => by have := i2 x hx; omega⟩
theorem zhB : ∀ l : List Int,PyData.eqvAll (zbg (l.map D.int)) (zbg (l.map D.int)) = true
  | [] => by simp [zbg,PyData.eqvAll]
  | i::l => by
    have := zhB l
    simp only [List.map_cons,zbg,PyData.eqvAll,this,Bool.and_true]
    simp [toPy,PyData.eqv]
theorem zpm {th : List Nat} {cs : List (List Nat)} {t : Int × Nat} {M : List (Int × Nat)} (ht : t∈M) : inE (dE th cs t) (.lst (M.map (dE th cs))) = some (.bl true) := by
  have sf : ∀ p : Int × Nat,∀ k,Shp (k + 1) (FR p) := fun p k => zbO.mpr fun d hd => by
    simp only [List.mem_cons,List.not_mem_nil,or_false] at hd
    rcases hd with rfl | rfl <;> simp [Shp]
  have si : ∀ (l : List Int) k,Shp (k + 1) (.tup (l.map D.int)) := fun l k => zbO.mpr fun d hd => by
    obtain ⟨i,_,rfl⟩ := List.mem_map.mp hd
    simp [Shp]
  have sd : ∀ t k,Shp (k + 2) (dE th cs t) := fun t k => zbO.mpr fun d hd => by
    simp only [List.mem_cons,List.not_mem_nil,or_false] at hd
    rcases hd with rfl | rfl
    · exact sf t k
    · exact si _ k
  unfold inE
  simp only []
  rw [if_pos ⟨sd t 58,zdB.mpr fun d hd => by obtain ⟨u,_,rfl⟩ := List.mem_map.mp hd; exact sd u 57⟩]
  congr 2
  rw [List.any_eq_true]
  refine ⟨dE th cs t,List.mem_map.mpr ⟨t,ht,rfl⟩,?_⟩
  have e1 : eqb (FR t) (FR t) = true := by rw [zjO]; simp
  unfold eqb at e1 ⊢
  have e2 := zhB (gN th cs t)
  have e1' := e1
  simp only [toPy,zbg,PyData.eqv,PyData.eqvAll,Bool.and_true] at e1' ⊢
  simp only [e2,Bool.and_true]
  exact e1'
section
variable {ns : List Int} {n : Nat} {rr : Nat → List Nat} {cs : List (List Nat)} {th : List Nat}
theorem zm1 (C : Et.Cut n cs th) (R : Rr ns n rr) (h1 : 1≤n) (h7 : n≤7) :
    (Et.logE 0 (mls (bld th cs rr n) n)≠[])∧(∀ e∈Et.logE 0 (mls (bld th cs rr n) n),e.1≤DD∧∃ t∈cs.foldl mz [],eD e = dE th cs t)∧(Et.logE 0 (mls (bld th cs rr n) n)).length = (cs.foldl mz []).length∧(Et.logE 0 (mls (bld th cs rr n) n)).Pairwise fun e f => e.1 < f.1 := by
  have S := zj9 (rr := rr) C R h1 h7
  have K := zka (rr := rr) C
  have tn : th.Nodup := C.th.nodup_iff.mpr List.nodup_range
  have tl : th.length = n := by rw [C.th.length_eq]; simp
  have lc := Et.log_comp S.rw K 64 (List.range n) (fun _ => DD) DD 0 (Et.Ok.init S.rw) (Et.CI.init K) (fun _ => Nat.le_refl _) (by omega)
  have la := Et.log_all S.rw 64 (List.range n) (fun _ => DD) 0 (Et.Ok.init S.rw) (by simp; omega)
  have lr := (Et.log_rise S.rw 64 (List.range n) (fun _ => DD) 0 (Et.Ok.init S.rw)).1
  have lu := Et.log_up (W := Wr (bld th cs rr n)) (n := n) 64 (List.range n) (fun _ => DD) 0 List.pairwise_lt_range
  have eM : Et.logE 0 (mls (bld th cs rr n) n) = Et.logE 0 (Et.eat (Wr (bld th cs rr n)) n 64 (List.range n) fun _ => DD) := rfl
  rw [eM]
  generalize Et.logE 0 (Et.eat (Wr (bld th cs rr n)) n 64 (List.range n) fun _ => DD) = L at *
  have z60 : ∀ z∈cs,z.length≤60 := fun z hz => by
    have := (List.sublist_flatten_of_mem hz).length_le
    rw [C.ln] at this; omega
  have mom : ∀ e∈L,∀ h,h < n→∀ j x,(Et.ownI th cs (Et.coI cs h))[j]? = some x→(Et.ownI th cs (Et.coI cs h)).length * e.1 = (j + 1) * DD→∃ hi : Et.coI cs h < cs.length,j < (cs[Et.coI cs h]).length∧Qd ((e.1 : Nat) : Int) = low ((j + 1 : Nat) : Int) (cs[Et.coI cs h]).length := by
    intro e he h hh j x hx ht
    obtain ⟨hi,_⟩ := Et.co_lt C hh
    have hl := Et.own_len C hi
    have hj : j < (cs[Et.coI cs h]).length := by rw [← hl]; exact (List.getElem?_eq_some_iff.mp hx).1
    refine ⟨hi,hj,?_⟩
    unfold Qd
    refine zbd DD_pos (by omega) ?_
    rw [hl] at ht
    rw [← Int.natCast_mul,← Int.natCast_mul,Nat.mul_comm e.1,ht]
  have inM : ∀ e∈L,Qd ((e.1 : Nat) : Int)∈cs.foldl mz [] := fun e he => by
    obtain ⟨_,_,ne,_,iff⟩ := lc e he
    obtain ⟨x,hx⟩ := List.exists_mem_of_ne_nil _ ne
    obtain ⟨h,hh,j,h1,h2⟩ := (iff x).mp hx
    obtain ⟨hi,hj,eq⟩ := mom e he h hh j x h1 h2
    exact (mz_mem _ cs []).mpr (.inr ⟨_,List.getElem_mem hi,j,hj,eq⟩)
  refine ⟨?_,fun e he => ⟨(lc e he).2.1,Qd ((e.1 : Nat) : Int),inM e he,?_⟩,?_,lr⟩
  · intro e0
    obtain ⟨e,he,_⟩ := la 0 (List.mem_range.mpr h1)
    rw [e0] at he; cases he
  · have tok : zhI (Qd ((e.1 : Nat) : Int)) := by
      rcases (mz_mem _ cs []).mp (inM e he) with z | ⟨z,hzm,k,hk,eq⟩
      · cases z
      · obtain ⟨p,q,e2,a1,a2,a3,_⟩ := zjl (c := k + 1) (m := z.length) (by omega) (by omega) (z60 z hzm)
        exact ⟨p,q,eq.trans e2,a1,a2,a3⟩
    obtain ⟨p,q,et,hp,hpq,_⟩ := tok
    have esm : p * DD = e.1 * q := by
      have := zbV ((e.1 : Nat) : Int)
      rw [et] at this
      have t2 : ((p * DD : Nat) : Int) = ((e.1 * q : Nat) : Int) := by rw [Int.natCast_mul,Int.natCast_mul]; exact this
      omega
    have mem : ∀ x,x∈e.2↔x∈oV p q th cs 0 := fun x => by
      rw [(lc e he).2.2.2.2 x,Et.over_iff C hp hpq esm,zlP]
      simp only [Nat.zero_add]
    have und := (zoS hp hpq tn cs 0 C.ne (by rw [C.ln]; omega)).1
    have eup := lu e he
    have pm : e.2.Perm (oV p q th cs 0) := (List.perm_ext_iff_of_nodup (eup.imp fun h => Nat.ne_of_lt h) und).mpr mem
    have eg : gN th cs ((p : Int),q) = e.2.map fun k : Nat => (k : Int) := by
      unfold gN
      refine zmb ((zep _).trans (pm.symm.map _)) (zgD _) ?_
      rw [List.pairwise_map]
      exact eup.imp fun h => by omega
    show D.tup [FR (Qd ((e.1 : Nat) : Int)),TN e.2] = D.tup [FR (Qd ((e.1 : Nat) : Int)),.tup ((gN th cs (Qd ((e.1 : Nat) : Int))).map .int)]
    rw [et,eg,List.map_map]
    rfl
  · have p1 : (L.map fun e => Qd ((e.1 : Nat) : Int)).Perm (cs.foldl mz []) := by
      refine (List.perm_ext_iff_of_nodup ?_ (zo0 cs [] .nil)).mpr fun t => ?_
      · refine List.pairwise_map.mpr (lr.imp fun h e => ?_)
        have := zl7 e
        omega
      · rw [List.mem_map]
        constructor
        · rintro ⟨e,he,rfl⟩; exact inM e he
        · intro ht
          rcases (mz_mem _ cs []).mp ht with z | ⟨z,hzm,k,hk,rfl⟩
          · cases z
          · obtain ⟨i,hi,rfl⟩ := List.mem_iff_getElem.mp hzm
            have ho := Et.own_at C hi hk
            obtain ⟨g,hg⟩ := List.exists_mem_of_ne_nil _ (C.ne cs[i] hzm)
            have hgn : g < n := List.mem_range.mp (C.fl.mem_iff.mp (List.mem_flatten.mpr ⟨_,hzm,hg⟩))
            have hco := (Et.co_eq C hgn hi).mpr hg
            generalize th.getD (Et.off cs i + k) 0 = x at ho
            have hxo : x∈Et.ownI th cs i := List.mem_of_getElem? ho
            have hxn : x < n := K.lt g hgn x (by rw [hco]; exact hxo)
            obtain ⟨e,he,hxe⟩ := la x (List.mem_range.mpr hxn)
            obtain ⟨h,hh,j,b1,b2⟩ := ((lc e he).2.2.2.2 x).mp hxe
            obtain ⟨hi',hj',eq⟩ := mom e he h hh j x b1 b2
            have hc2 := K.dis h g hh hgn x (List.mem_of_getElem? b1) (by rw [hco]; exact hxo)
            rw [hco] at hc2
            refine ⟨e,he,?_⟩
            subst hc2
            have nd := K.nd h hh
            have : j = k := (List.getElem?_inj (List.getElem?_eq_some_iff.mp b1).1 nd).mp (b1.trans ho.symm)
            rw [eq,this]
    have := p1.length_eq
    rw [List.length_map] at this
    exact this
end
end Law
end
section
namespace Law
open PySem PyProof.Rows L2 DL Fq
theorem zqP {m : List Md} {f : FE} {ft : FT} {r r' : Rho} {d : D} (h1 : f r = .ok d) (h2 : ft d r = some r') : asgF m f ft r = .nx r' := by
  unfold asgF; rw [h1,onE_ok,h2]
theorem main (ns : List Int) (_ : ns.length≤63) : zpV [.lst (ns.map .int)] = .ok (.bl true) := by
  obtain ⟨c1,h1⟩ := zds ns 1 (by omega)
  obtain ⟨c2,h2⟩ := zds ns 2 (by omega)
  obtain ⟨c3,h3⟩ := zds ns 3 (by omega)
  obtain ⟨c4,h4⟩ := zds ns 4 (by omega)
  have hn7' : c1 % 7 < 7 := Nat.mod_lt _ (by omega)
  generalize hn : 1 + c1 % 7 = n
  have hn1 : 1≤n := by omega
  have hn7 : n≤7 := by omega
  obtain ⟨row,w1,w2⟩ := zgH c3 n (by omega)
  obtain ⟨th,t1,t2⟩ := zgH c4 n (by omega)
  have rl : row.length = n := by rw [w1.length_eq]; simp
  have tl : th.length = n := by rw [t1.length_eq]; simp
  obtain ⟨cs,k1,k2,k3⟩ := zkB c2 (row := row) (by intro e; rw [e] at rl; simp at rl; omega) (by omega)
  have C : Et.Cut n cs th := ⟨by rw [k1]; exact w1,k2,t1⟩
  obtain ⟨rr,R⟩ := zql ns (n := n) (by omega)
  have S := zj9 (rr := rr) C R hn1 hn7
  have fl : ∀ k,k∈cs.flatten↔k < n := fun k => by rw [C.fl.mem_iff,List.mem_range]
  obtain ⟨l1,l2,l3,l4⟩ := zm1 (rr := rr) C R hn1 hn7
  have csl : cs.length≤60 := by
    have : cs.length≤cs.flatten.length := by
      have : ∀ l : List (List Nat),(∀ z∈l,z≠[])→l.length≤l.flatten.length := fun l hl => by
        induction l with
        | nil => simp
        | cons z l ih =>
          rw [List.flatten_cons,List.length_append,List.length_cons]
          have := ih fun w hw => hl w (List.mem_cons_of_mem _ hw)
          have h0 := List.length_pos_iff.mpr (hl z List.mem_cons_self)
          omega
      exact this cs k2
    rw [C.ln] at this; omega
  have z60 : ∀ z∈cs,z.length≤60 := fun z hz => by
    have := (List.sublist_flatten_of_mem hz).length_le
    rw [C.ln] at this; omega
  obtain ⟨_,due⟩ := zmu (cs := cs) (th := th) (by omega) k2 (by rw [C.ln]; omega) csl z60
  have mlen : (cs.foldl mz []).length≤60 := by
    have := zjc cs []
    rw [C.ln,List.length_nil] at this; omega
  obtain ⟨y6,y7,y8,y9,y10,lp⟩ := zjt (d2 := some (.lst (cs.map LN))) (x11 := none) (x12 := none) (x13 := none) R (by omega) tl cs 0 (fun _ => .tup []) (fun _ => .tup []) none none none none k2 (fun h hh => (fl h).mp hh) C.nd (by rw [C.ln]; omega)
  have eW : ((List.range n).map fun k => if k∈cs.flatten then TN (fW (oOf th cs 0 k) (rr k)) else D.tup []) = (bld th cs rr n).map TN := by
    unfold bld
    rw [List.map_map]
    refine List.map_congr_left fun k hk => ?_
    rw [if_pos ((fl k).mpr (List.mem_range.mp hk))]; rfl
  have eE : ((List.range n).map fun k => if k∈cs.flatten then TF (fD n (oOf th cs 0 k) (mOf cs k)) else D.tup []) = (tbl (bld th cs rr n) n).map TF := by
    rw [← zno (rr := rr) C R hn1 hn7]
    refine List.map_congr_left fun k hk => ?_
    rw [if_pos ((fl k).mpr (List.mem_range.mp hk))]
  rw [eW,eE] at lp
  refine zaW (B := zlz) (n := 14) ?_
  unfold zlz
  have ecell : ∀ (r : Rho) (k c : Nat),r[0]? = some (some (IN ns))→zaF [IN ns,nD k] = .ok (nD c)→True := fun _ _ _ _ _ => trivial
  refine (zag (zaq (d := nD n) (zai (a := nD 1) rfl (zai (b := nD 7) (zak (zad (d := IN ns) rfl (zad (d := nD 1) rfl zah)) h1) rfl (zhu (by omega))) (by rw [zc8,hn])))).trans ?_
  refine (zag (zaq (d := .lst (cs.map LN)) (zak (zad (zak (zad (d := IN ns) rfl (zad (d := nD 2) rfl zah)) h2) (zad (zak (zad (zak (zad (d := IN ns) rfl (zad (d := nD 3) rfl zah)) h3) (zad (d := nD n) rfl zah)) w2) zah)) k3))).trans ?_
  refine (zag (zaq (d := TN th) (zak (zad (zak (zad (d := IN ns) rfl (zad (d := nD 4) rfl zah)) h4) (zad (d := nD n) rfl zah)) t2))).trans ?_
  refine (zag (zaq (d := .lst ((List.range n).map fun _ => D.tup [])) (zb2 (l := List.range n) nD (fun _ => D.tup []) (zdg (zad (d := nD n) rfl zah) (zet (by omega))) (by simp; omega) fun h hh => ⟨[some (nD h)],rfl,zc4 zah (by simp)⟩))).trans ?_
  refine (zag (zaq (d := .lst ((List.range n).map fun _ => D.tup [])) (zb2 (l := List.range n) nD (fun _ => D.tup []) (zdg (zad (d := nD n) rfl zah) (zet (by omega))) (by simp; omega) fun h hh => ⟨[some (nD h)],rfl,zc4 zah (by simp)⟩))).trans ?_
  refine (zag (zaq (d := nD 0) rfl)).trans ?_
  refine (zag ((zbq (zcv (d := .lst (cs.map LN)) rfl rfl)).trans lp)).trans ?_
  refine (zag (zqP (d := .tup [TTF (tbl (bld th cs rr n) n),lgD (bld th cs rr n) n]) (zak (zad (d := WD (bld th cs rr n)) (zbi (zad (d := .lst ((bld th cs rr n).map TN)) rfl zah) (e_tupL _)) zah) (ziM S)) rfl)).trans ?_
  refine (zag ((if_f ?_).trans (e_skip _))).trans ?_
  · rw [or_f (za2 (zai (a := TTF (tbl (bld th cs rr n) n)) (b := TTF (tbl (bld th cs rr n) n)) rfl (zbi (zad (d := .lst ((tbl (bld th cs rr n) n).map TF)) rfl zah) (e_tupL _)) (zmY _)))]
    exact zhs (b := true) (zcD (zak (zad (d := lgD (bld th cs rr n) n) rfl zah) (zhW l1 (by rw [l3]; exact mlen) l4 fun e he => (l2 e he).1)) rfl)
  refine (zag (zaq (d := .lst ((cs.foldl mz []).map (dE th cs))) (zak (zad (d := .lst (cs.map LN)) rfl (zad (d := TN th) rfl zah)) due))).trans ?_
  refine zaN (zaS ?_)
  rw [znz (zai (a := nD (Et.logE 0 (mls (bld th cs rr n) n)).length) (b := nD (cs.foldl mz []).length) (zbi (zad (d := lgD (bld th cs rr n) n) rfl zah) (zbF eD _)) (zbi (zad (d := .lst ((cs.foldl mz []).map (dE th cs))) rfl zah) (zbF (dE th cs) _)) (by rw [l3]; exact zhD _))]
  refine zbi (zad (zb2 (l := Et.logE 0 (mls (bld th cs rr n) n)) eD (fun _ => .bl true) (zcv (d := lgD (bld th cs rr n) n) rfl rfl) (by rw [l3]; omega) fun e he => ⟨[some (eD e),some (.lst ((cs.foldl mz []).map (dE th cs)))],rfl,?_⟩) zah) ?_
  · obtain ⟨_,t,ht,ee⟩ := l2 e he
    exact zai (a := eD e) rfl rfl (by rw [ee]; exact zpm ht)
  · have := zpP (fun _ : Nat × List Nat => true) (Et.logE 0 (mls (bld th cs rr n) n))
    rw [List.all_eq_true.mpr (fun _ _ => rfl)] at this
    exact this
end Law
end
open PySem PySem.W PyProof.Rows
set_option maxRecDepth 100000 in
set_option maxHeartbeats 0 in
theorem PySem.Challenge.cw_ringtrade_k28_eaten_shares_known_holds : PySem.Challenge.rw_ringtrade_k28_eaten_shares_known.Holds := by
  w_on; o_law; k_head; (case hw => w_witness2)
  k_fill
  refine DL.zqW (l := PySem.Challenge.rw_ringtrade_k28_eaten_shares_known) (k := 7) (x := "_law_script") (F := Law.zpV) rfl rfl ⟨rfl,by decide,by decide⟩ (fun w h Y => PySem.W.kIn_of Y) Law.main ?C
  intro w mg fa h KX G hmg
  have T : Law.Txt (L2.KOf KX) mg := by
    dsimp only [L2.KOf]
    refine ⟨?b_range,?b_tuple,?b_len,?b_abs,?b_isinstance,?b_bool,?b_int,?b_sorted,?b_zip,?b_all,?k_NOUGHT,?k_ONE⟩
    case b_range => (refine' PySem.W.mg_none_of KX G ?z_b_range; k_is)
    case b_tuple => (refine' PySem.W.mg_none_of KX G ?z_b_tuple; k_is)
    case b_len => (refine' PySem.W.mg_none_of KX G ?z_b_len; k_is)
    case b_abs => (refine' PySem.W.mg_none_of KX G ?z_b_abs; k_is)
    case b_isinstance => (refine' PySem.W.mg_none_of KX G ?z_b_isinstance; k_is)
    case b_bool => (refine' PySem.W.mg_none_of KX G ?z_b_bool; k_is)
    case b_int => (refine' PySem.W.mg_none_of KX G ?z_b_int; k_is)
    case b_sorted => (refine' PySem.W.mg_none_of KX G ?z_b_sorted; k_is)
    case b_zip => (refine' PySem.W.mg_none_of KX G ?z_b_zip; k_is)
    case b_all => (refine' PySem.W.mg_none_of KX G ?z_b_all; k_is)
    case k_NOUGHT => (refine' DL.zqA KX G ?z_k_NOUGHT ?l_k_NOUGHT; (case z_k_NOUGHT => k_is); (case l_k_NOUGHT => k_is))
    case k_ONE => (refine' DL.zqA KX G ?z_k_ONE ?l_k_ONE; (case z_k_ONE => k_is); (case l_k_ONE => k_is))
  have A__law_companies : DL.DefAt (L2.KOf KX) mg "_law_companies" Law.zca := by
    dsimp only [L2.KOf]
    refine' DL.zqV KX G ?a ?l ?c ?k
    (case a => k_is)
    (case l => k_is)
    (case c => k_is)
    (case k => k_is)
  have A__law_row : DL.DefAt (L2.KOf KX) mg "_law_row" Law.zen := by
    dsimp only [L2.KOf]
    refine' DL.zqV KX G ?a ?l ?c ?k
    (case a => k_is)
    (case l => k_is)
    (case c => k_is)
    (case k => k_is)
  have A_things_in : DL.DefAt (L2.KOf KX) mg "things_in" Law.zdL := by
    dsimp only [L2.KOf]
    refine' DL.zqV KX G ?a ?l ?c ?k
    (case a => k_is)
    (case l => k_is)
    (case c => k_is)
    (case k => k_is)
  have A_is_square : DL.DefAt (L2.KOf KX) mg "is_square" Law.zdN := by
    dsimp only [L2.KOf]
    refine' DL.zqV KX G ?a ?l ?c ?k
    (case a => k_is)
    (case l => k_is)
    (case c => k_is)
    (case k => k_is)
  have A_refuse_unless_square : DL.DefAt (L2.KOf KX) mg "refuse_unless_square" Law.zbh := by
    dsimp only [L2.KOf]
    refine' DL.zqV KX G ?a ?l ?c ?k
    (case a => k_is)
    (case l => k_is)
    (case c => k_is)
    (case k => k_is)
  have A_less : DL.DefAt (L2.KOf KX) mg "less" Law.ziw := by
    dsimp only [L2.KOf]
    refine' DL.zqV KX G ?a ?l ?c ?k
    (case a => k_is)
    (case l => k_is)
    (case c => k_is)
    (case k => k_is)
  have A_least : DL.DefAt (L2.KOf KX) mg "least" Law.zhk := by
    dsimp only [L2.KOf]
    refine' DL.zqV KX G ?a ?l ?c ?k
    (case a => k_is)
    (case l => k_is)
    (case c => k_is)
    (case k => k_is)
  have A_greatest_divisor : DL.DefAt (L2.KOf KX) mg "greatest_divisor" Law.zbN := by
    dsimp only [L2.KOf]
    refine' DL.zqV KX G ?a ?l ?c ?k
    (case a => k_is)
    (case l => k_is)
    (case c => k_is)
    (case k => k_is)
  have A_is_whole : DL.DefAt (L2.KOf KX) mg "is_whole" Law.zel := by
    dsimp only [L2.KOf]
    refine' DL.zqV KX G ?a ?l ?c ?k
    (case a => k_is)
    (case l => k_is)
    (case c => k_is)
    (case k => k_is)
  have A_fraction : DL.DefAt (L2.KOf KX) mg "fraction" Law.zem := by
    dsimp only [L2.KOf]
    refine' DL.zqV KX G ?a ?l ?c ?k
    (case a => k_is)
    (case l => k_is)
    (case c => k_is)
    (case k => k_is)
  have A_times : DL.DefAt (L2.KOf KX) mg "times" Law.zhi := by
    dsimp only [L2.KOf]
    refine' DL.zqV KX G ?a ?l ?c ?k
    (case a => k_is)
    (case l => k_is)
    (case c => k_is)
    (case k => k_is)
  have A_time_until_one_is_gone : DL.DefAt (L2.KOf KX) mg "time_until_one_is_gone" Law.zay := by
    dsimp only [L2.KOf]
    refine' DL.zqV KX G ?a ?l ?c ?k
    (case a => k_is)
    (case l => k_is)
    (case c => k_is)
    (case k => k_is)
  have A_minus : DL.DefAt (L2.KOf KX) mg "minus" Law.zhj := by
    dsimp only [L2.KOf]
    refine' DL.zqV KX G ?a ?l ?c ?k
    (case a => k_is)
    (case l => k_is)
    (case c => k_is)
    (case k => k_is)
  have A_left_after : DL.DefAt (L2.KOf KX) mg "left_after" Law.zdq := by
    dsimp only [L2.KOf]
    refine' DL.zqV KX G ?a ?l ?c ?k
    (case a => k_is)
    (case l => k_is)
    (case c => k_is)
    (case k => k_is)
  have A_not_gone : DL.DefAt (L2.KOf KX) mg "not_gone" Law.zek := by
    dsimp only [L2.KOf]
    refine' DL.zqV KX G ?a ?l ?c ?k
    (case a => k_is)
    (case l => k_is)
    (case c => k_is)
    (case k => k_is)
  have A_best_left : DL.DefAt (L2.KOf KX) mg "best_left" Law.zbZ := by
    dsimp only [L2.KOf]
    refine' DL.zqV KX G ?a ?l ?c ?k
    (case a => k_is)
    (case l => k_is)
    (case c => k_is)
    (case k => k_is)
  have A_meals_of : DL.DefAt (L2.KOf KX) mg "meals_of" Law.zbp := by
    dsimp only [L2.KOf]
    refine' DL.zqV KX G ?a ?l ?c ?k
    (case a => k_is)
    (case l => k_is)
    (case c => k_is)
    (case k => k_is)
  have A_plus : DL.DefAt (L2.KOf KX) mg "plus" Law.ziv := by
    dsimp only [L2.KOf]
    refine' DL.zqV KX G ?a ?l ?c ?k
    (case a => k_is)
    (case l => k_is)
    (case c => k_is)
    (case k => k_is)
  have A_log_of : DL.DefAt (L2.KOf KX) mg "log_of" Law.zfS := by
    dsimp only [L2.KOf]
    refine' DL.zqV KX G ?a ?l ?c ?k
    (case a => k_is)
    (case l => k_is)
    (case c => k_is)
    (case k => k_is)
  have A_shares_of : DL.DefAt (L2.KOf KX) mg "shares_of" Law.zdM := by
    dsimp only [L2.KOf]
    refine' DL.zqV KX G ?a ?l ?c ?k
    (case a => k_is)
    (case l => k_is)
    (case c => k_is)
    (case k => k_is)
  have A_eaten : DL.DefAt (L2.KOf KX) mg "eaten" Law.zd6 := by
    dsimp only [L2.KOf]
    refine' DL.zqV KX G ?a ?l ?c ?k
    (case a => k_is)
    (case l => k_is)
    (case c => k_is)
    (case k => k_is)
  have A__law_common : DL.DefAt (L2.KOf KX) mg "_law_common" Law.zc0 := by
    dsimp only [L2.KOf]
    refine' DL.zqV KX G ?a ?l ?c ?k
    (case a => k_is)
    (case l => k_is)
    (case c => k_is)
    (case k => k_is)
  have A__law_low : DL.DefAt (L2.KOf KX) mg "_law_low" Law.zeo := by
    dsimp only [L2.KOf]
    refine' DL.zqV KX G ?a ?l ?c ?k
    (case a => k_is)
    (case l => k_is)
    (case c => k_is)
    (case k => k_is)
  have A__law_due_log : DL.DefAt (L2.KOf KX) mg "_law_due_log" Law.zcF := by
    dsimp only [L2.KOf]
    refine' DL.zqV KX G ?a ?l ?c ?k
    (case a => k_is)
    (case l => k_is)
    (case c => k_is)
    (case k => k_is)
  have A__law_cell : DL.DefAt (L2.KOf KX) mg "_law_cell" Law.zdP := by
    dsimp only [L2.KOf]
    refine' DL.zqV KX G ?a ?l ?c ?k
    (case a => k_is)
    (case l => k_is)
    (case c => k_is)
    (case k => k_is)
  have A__law_less : DL.DefAt (L2.KOf KX) mg "_law_less" Law.zdO := by
    dsimp only [L2.KOf]
    refine' DL.zqV KX G ?a ?l ?c ?k
    (case a => k_is)
    (case l => k_is)
    (case c => k_is)
    (case k => k_is)
  have A__law_rising : DL.DefAt (L2.KOf KX) mg "_law_rising" Law.zbv := by
    dsimp only [L2.KOf]
    refine' DL.zqV KX G ?a ?l ?c ?k
    (case a => k_is)
    (case l => k_is)
    (case c => k_is)
    (case k => k_is)
  have A_law : DL.DefAt (L2.KOf KX) mg "law" Law.zcu := by
    dsimp only [L2.KOf]
    refine' DL.zqV KX G ?a ?l ?c ?k
    (case a => k_is)
    (case l => k_is)
    (case c => k_is)
    (case k => k_is)
  refine DL.zqU hmg A_law (fun _ _ _ _ _ _ us hl => match us,hl with | [_],_ => rfl) fun f fd Fn base => ?_
  have C__law_companies := Law.zh2 (P := PySem.Challenge.rw_ringtrade_k28_eaten_shares_known.prog) (w := w) (base := base) T A__law_companies
  have C__law_row := Law.zmS (P := PySem.Challenge.rw_ringtrade_k28_eaten_shares_known.prog) (w := w) (base := base) T A__law_row
  have C_things_in := Law.zlI (P := PySem.Challenge.rw_ringtrade_k28_eaten_shares_known.prog) (w := w) (base := base) T A_things_in
  have C_is_square := Law.zlK (P := PySem.Challenge.rw_ringtrade_k28_eaten_shares_known.prog) (w := w) (base := base) T A_is_square C_things_in
  have C_refuse_unless_square := Law.zfq (P := PySem.Challenge.rw_ringtrade_k28_eaten_shares_known.prog) (w := w) (base := base) T A_refuse_unless_square C_is_square
  have C_less := Law.zqv (P := PySem.Challenge.rw_ringtrade_k28_eaten_shares_known.prog) (w := w) (base := base) T A_less
  have C_least := Law.zpZ (P := PySem.Challenge.rw_ringtrade_k28_eaten_shares_known.prog) (w := w) (base := base) T A_least C_less
  have C_greatest_divisor := Law.zgM (P := PySem.Challenge.rw_ringtrade_k28_eaten_shares_known.prog) (w := w) (base := base) T A_greatest_divisor
  have C_is_whole := Law.zmQ (P := PySem.Challenge.rw_ringtrade_k28_eaten_shares_known.prog) (w := w) (base := base) T A_is_whole
  have C_fraction := Law.zmR (P := PySem.Challenge.rw_ringtrade_k28_eaten_shares_known.prog) (w := w) (base := base) T A_fraction C_is_whole C_greatest_divisor
  have C_times := Law.zpX (P := PySem.Challenge.rw_ringtrade_k28_eaten_shares_known.prog) (w := w) (base := base) T A_times C_fraction
  have C_time_until_one_is_gone := Law.zeR (P := PySem.Challenge.rw_ringtrade_k28_eaten_shares_known.prog) (w := w) (base := base) T A_time_until_one_is_gone C_fraction C_times C_least
  have C_minus := Law.zpY (P := PySem.Challenge.rw_ringtrade_k28_eaten_shares_known.prog) (w := w) (base := base) T A_minus C_fraction
  have C_left_after := Law.zkQ (P := PySem.Challenge.rw_ringtrade_k28_eaten_shares_known.prog) (w := w) (base := base) T A_left_after C_fraction C_times C_minus
  have C_not_gone := Law.zmO (P := PySem.Challenge.rw_ringtrade_k28_eaten_shares_known.prog) (w := w) (base := base) T A_not_gone
  have C_best_left := Law.zlL (P := PySem.Challenge.rw_ringtrade_k28_eaten_shares_known.prog) (w := w) (base := base) T A_best_left
  have C_meals_of := Law.zmP (P := PySem.Challenge.rw_ringtrade_k28_eaten_shares_known.prog) (w := w) (base := base) T A_meals_of C_things_in C_best_left C_time_until_one_is_gone C_left_after C_not_gone
  have C_plus := Law.zqu (P := PySem.Challenge.rw_ringtrade_k28_eaten_shares_known.prog) (w := w) (base := base) T A_plus C_fraction
  have C_log_of := Law.zoQ (P := PySem.Challenge.rw_ringtrade_k28_eaten_shares_known.prog) (w := w) (base := base) T A_log_of C_plus
  have C_shares_of := Law.zlJ (P := PySem.Challenge.rw_ringtrade_k28_eaten_shares_known.prog) (w := w) (base := base) T A_shares_of C_things_in C_plus
  have C_eaten := Law.zp0 (P := PySem.Challenge.rw_ringtrade_k28_eaten_shares_known.prog) (w := w) (base := base) T A_eaten C_refuse_unless_square C_meals_of C_shares_of C_log_of
  have C__law_common := Law.zkm (P := PySem.Challenge.rw_ringtrade_k28_eaten_shares_known.prog) (w := w) (base := base) T A__law_common
  have C__law_low := Law.zmT (P := PySem.Challenge.rw_ringtrade_k28_eaten_shares_known.prog) (w := w) (base := base) T A__law_low C__law_common
  have C__law_due_log := Law.zi8 (P := PySem.Challenge.rw_ringtrade_k28_eaten_shares_known.prog) (w := w) (base := base) T A__law_due_log C__law_low
  have C__law_cell := Law.zlN (P := PySem.Challenge.rw_ringtrade_k28_eaten_shares_known.prog) (w := w) (base := base) T A__law_cell
  have C__law_less := Law.zlM (P := PySem.Challenge.rw_ringtrade_k28_eaten_shares_known.prog) (w := w) (base := base) T A__law_less
  have C__law_rising := Law.zkl (P := PySem.Challenge.rw_ringtrade_k28_eaten_shares_known.prog) (w := w) (base := base) T A__law_rising C__law_less
  exact Law.zqT T Fn C__law_cell C__law_row C__law_companies C_eaten C__law_rising C__law_due_log
