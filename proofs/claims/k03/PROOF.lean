import PyProof.Rows.All
import Wide.All
import OpenK.AllK
import Wide.FinOn
import Lean
import PyProof.EqAt
import PyProof.EqKinds
import PyProof.TupleCall
import PyProof.Rows.SetFrom
import KE.KSortTup
import PyProof.Draws
import PyProof.EnumMake
import PyProof.ListRange
import PyProof.Rows.EnumRows
import PyProof.SetRoads
import PyProof.Rows.MinMaxN
import PyProof.Rows.MaxTwoN
import PySem.Challenge.RW_ringtrade_k03_orders_made
set_option Elab.async false
set_option linter.all false
set_option maxRecDepth 100000
set_option maxHeartbeats 4000000
section
namespace L2
open PySem PySem.Spec PyProof.Rows
noncomputable abbrev Key := Sum Int Str
noncomputable def zfA : Key→Value→Bool
  | .inl k,v => Value.isInt k v
  | .inr x,v => Value.isStrOf x v
noncomputable def keyH (w : World) : Key→Int
  | .inl k => hashInt k
  | .inr x => hashStr w x
theorem keyIs_shape : ∀ {k : Key} {v : Value},zfA k v = true→(∃ i t,k = Sum.inl i∧v = Value.int i t)∨(∃ x t,k = Sum.inr x∧v = Value.str x t)
  | .inl i,v,h => by
    obtain ⟨t,e⟩ := Value.isInt_shape (k := i) (v := v) h
    exact .inl ⟨i,t,rfl,e⟩
  | .inr x,v,h => by
    obtain ⟨t,e⟩ := Value.isStrOf_shape (x := x) (v := v) h
    exact .inr ⟨x,t,rfl,e⟩
theorem zgm (i : Int) (t : Tok) : zfA (.inl i) (.int i t) = true := by simp [zfA,Value.isInt]
theorem zgl (x : Str) (t : Tok) : zfA (.inr x) (.str x t) = true := by simp [zfA,Value.isStrOf]
theorem zlf (a b : Int) : decide ((Sum.inl a : Key) = Sum.inl b) = (a == b) := by
  by_cases e : a = b
  · subst e; simp
  · have h : ¬ (Sum.inl a : Key) = Sum.inl b := fun q => e (Sum.inl.inj q)
    rw [decide_eq_false h]
    exact (beq_eq_false_iff_ne.mpr e).symm
theorem zlc (a b : Str) : decide ((Sum.inr a : Key) = Sum.inr b) = decide (a = b) := by
  by_cases e : a = b
  · subst e; simp
  · have h : ¬ (Sum.inr a : Key) = Sum.inr b := fun q => e (Sum.inr.inj q)
    rw [decide_eq_false h,decide_eq_false e]
theorem zle (a : Int) (b : Str) : decide ((Sum.inl a : Key) = Sum.inr b) = false := decide_eq_false (fun q => nomatch q)
theorem zld (a : Str) (b : Int) : decide ((Sum.inr a : Key) = Sum.inl b) = false := decide_eq_false (fun q => nomatch q)
noncomputable def zaU (prog : Program) (w : World) : PySem.KeyKind prog w Key where
  is := zfA
  hash := keyH w
  inj := fun v a b ha hb => by
    rcases keyIs_shape ha with ⟨i,t,rfl,rfl⟩ | ⟨x,t,rfl,rfl⟩
    · rcases keyIs_shape hb with ⟨j,u,rfl,e⟩ | ⟨y,u,rfl,e⟩
      · injection e with e1 _; rw [e1]
      · exact nomatch e
    · rcases keyIs_shape hb with ⟨j,u,rfl,e⟩ | ⟨y,u,rfl,e⟩
      · exact nomatch e
      · injection e with e1 _; rw [e1]
  byValue := fun k v h => by
    rcases keyIs_shape h with ⟨i,t,rfl,rfl⟩ | ⟨x,t,rfl,rfl⟩ <;> rfl
  pyHash := fun hv h => by
    rcases keyIs_shape hv with ⟨i,t,rfl,rfl⟩ | ⟨x,t,rfl,rfl⟩
    · exact wpAny_pyHash_int h
    · exact wpAny_pyHash_str h
  eqBool := fun hu hv h => by
    rcases keyIs_shape hu with ⟨i,t,rfl,rfl⟩ | ⟨x,t,rfl,rfl⟩
    · rcases keyIs_shape hv with ⟨j,u,rfl,rfl⟩ | ⟨y,u,rfl,rfl⟩
      · rw [zlf] at h; exact wpAny_eqBool_int h
      · rw [zle] at h; exact SeqAt.EqAt.int_str i t y u _ _ _ _ h
    · rcases keyIs_shape hv with ⟨j,u,rfl,rfl⟩ | ⟨y,u,rfl,rfl⟩
      · rw [zld] at h; exact SeqAt.EqAt.str_int x t j u _ _ _ _ h
      · rw [zlc] at h; exact wpAny_eqBool_str h
  «strs» := fun k x t v h => by
    rcases keyIs_shape h with ⟨i,u,rfl,e⟩ | ⟨y,u,rfl,e⟩
    · exact nomatch e
    · injection e with e1 _
      subst e1
      cases v <;> rfl
theorem zeF (prog : Program) (w : World) (i : Int) (t : Tok) : (zaU prog w).is (.inl i) (.int i t) = true := zgm i t
theorem zeE (prog : Program) (w : World) (x : Str) (t : Tok) : (zaU prog w).is (.inr x) (.str x t) = true := zgl x t
end L2
namespace L2
open PySem PySem.Spec PyProof.Rows
inductive V where
  | non | bl (b : Bool) | int (i : Int) | str (x : Str) | byt (b : Array UInt8) | flt (b : UInt64) | ref (a : Addr) | ty (n : String)
  deriving DecidableEq
noncomputable def RelV : V→Value→Prop
  | .non,u => u = Value.none
  | .bl b,u => u = Value.bool b
  | .int i,u => ∃ t,u = Value.int i t
  | .str x,u => ∃ t,u = Value.str x t
  | .byt b,u => ∃ t,u = Value.bytes b t
  | .flt b,u => ∃ t,u = Value.float b t
  | .ref a,u => u = Value.ref a
  | .ty n,u => u = Value.type n
noncomputable abbrev Vals : List V→List Value→Prop := Paired RelV
theorem Vals.length {xs : List V} {us : List Value} (r : Vals xs us) : xs.length = us.length := Paired.length r
theorem Vals.get : ∀ {xs : List V} {us : List Value} {i : Nat} {x : V},Vals xs us→xs[i]? = some x→∃ u,us[i]? = some u∧RelV x u
  | _,_,_,_,.nil,e => by simp at e
  | _,_,0,_,.cons r _,e => by simp at e; subst e; exact ⟨_,rfl,r⟩
  | _,_,i + 1,x,.cons _ t,e => by
    obtain ⟨u,h1,h2⟩ := Vals.get (i := i) (x := x) t (by simpa using e)
    exact ⟨u,by simpa using h1,h2⟩
theorem Vals.set {x : V} {u : Value} (r : RelV x u) : ∀ {xs : List V} {us : List Value} (i : Nat),Vals xs us→Vals (xs.set i x) (us.set i u)
  | _,_,_,.nil => .nil
  | _,_,0,.cons _ t => .cons r t
  | _,_,i + 1,.cons q t => .cons q (Vals.set r i t)
theorem Vals.append {xs ys : List V} {us ws : List Value} (h : Vals xs us) (h' : Vals ys ws) : Vals (xs++ys) (us++ws) := by
  induction h with
  | nil => exact h'
  | cons r _ ih => exact .cons r ih
theorem Vals.take : ∀ {xs : List V} {us : List Value} (n : Nat),Vals xs us→Vals (xs.take n) (us.take n)
  | _,_,0,_ => .nil
  | _,_,_ + 1,.nil => .nil
  | _,_,n + 1,.cons r t => .cons r (Vals.take n t)
theorem Vals.drop : ∀ {xs : List V} {us : List Value} (n : Nat),Vals xs us→Vals (xs.drop n) (us.drop n)
  | _,_,0,r => r
  | _,_,_ + 1,.nil => .nil
  | _,_,n + 1,.cons _ t => Vals.drop n t
theorem Vals.none_of : ∀ {xs : List V} {us : List Value} {i : Nat},Vals xs us→xs[i]? = none→us[i]? = none := fun {xs us i} r e => by
  have h1 := r.length
  have h2 : xs.length≤i := List.getElem?_eq_none_iff.mp e
  exact List.getElem?_eq_none_iff.mpr (by omega)
noncomputable def RelO : Option V→Option Value→Prop
  | some v,some u => RelV v u
  | none,none => True
  | _,_ => False
noncomputable def KV {κ : Type} : List (κ × V)→List (κ × Value)→Prop := Paired fun (p : κ × V) (q : κ × Value) => p.1 = q.1∧RelV p.2 q.2
noncomputable def kV : Key→V
  | .inl i => .int i
  | .inr x => .str x
inductive HO where
  | lst (xs : List V)
  | tup (xs : List V)
  | dK (kvs : List (Key × V)) | dT (kvs : List (List Key × V))
  | set (S : Int→Bool) (n : Nat)
  | ins (C dx : Addr) (fs : List (Str × V))
  | own (x : Addr)
  | xd (fs : List (Str × V))
  | met (f x : Addr)
  | rng (lo hi : Int)
  | frz (o : Obj) (u : HO)
  | tbl (ps : Array Value)
  | ext (φ : Heap→Prop)
noncomputable abbrev Hp := Addr→Option HO
noncomputable def upd (H : Hp) (a : Addr) (o : HO) : Hp := fun b => if b = a then some o else H b
theorem zag {H : Hp} {a : Addr} {o : HO} : upd H a o a = some o := by unfold upd; rw [if_pos rfl]
theorem zae {H : Hp} {a b : Addr} {o : HO} (h : b≠a) : upd H a o b = H b := by unfold upd; rw [if_neg h]
theorem zmp {H : Hp} {a b : Addr} {o u : HO} (h : H a = some o) (h' : H b = some u) (d : o≠u) : a≠b := by
  intro e; subst e; rw [h] at h'; exact d (Option.some.inj h')
theorem za0 {H : Hp} {a b : Addr} {o : HO} (h : H a = some o) (h' : H b = none) : a≠b := by
  intro e; subst e; rw [h] at h'; cases h'
section
variable (P : Program) (w : World)
noncomputable def zaP (H : Hp) (h : Heap) (a : Addr) : HO→Prop
  | .lst xs => xs.length≤sizeLine∧∃ (its : List Value) (n : Nat),Vals xs its∧h.get? a = some { cls := .type "list",data := .seq its.toArray n }
  | .tup xs => xs.length≤sizeLine∧∃ its : List Value,Vals xs its∧IsTup h a its.toArray∧∃ o,h.get? a = some o∧o.dict = none
  | .dK kvs => kvs.length≤sizeLine∧(a == sysModules) = false∧∃ vs,KV kvs vs∧h.DictOf (zaU P w) a vs
  | .dT kvs => kvs.length≤sizeLine∧(a == sysModules) = false∧∃ xs : List (List Key × Addr × Value),
      Paired (fun (p : List Key × V) (q : List Key × Addr × Value) => p.1 = q.1∧H q.2.1 = some (.tup (p.1.map kV))∧RelV p.2 q.2.2) kvs xs ∧
      ∃ o es ep,h.get? a = some o∧o.ExactDict∧o.data = .dict es ep∧es.toList = xs.map (entryOfKey (tupleKind (zaU P w)))∧(xs.map (·.1)).Nodup
  | .set S n => h.SetOf (intKind P w) a S n
  | .ins C dx fs => H dx = some (.own a)∧fs.length≤1000∧dx≠a∧h.get? a = some (PySem.W.instObj C dx) ∧
      ∃ mA,h.Ns1 dx mA∧(∀ f,RelO (fs.lookup f) (mA f))∧PySem.Within mA (fs.map (·.1))
  | .own _ => ∃ o,h.get? a = some o
  | .xd fs => ∃ mA,h.Ns1 a mA∧∀ f,RelO (fs.lookup f) (mA f)
  | .rng lo hi => ∃ t u v,h.get? a = some { cls := .type "range",data := .fields #[.int lo t,.int hi u,.int 1 v] }
  | .frz o u => h.get? a = some o∧zaP H h a u
  | .tbl ps => h.get? a = some { cls := .none,data := .fields ps }
  | .met f x => h.get? a = some (PySem.W.methodObj (.ref f) (.ref x))
  | .ext φ => φ h∧(∃ o,h.get? a = some o)∧∀ h1 h2 : Heap,φ h1→(∀ o,h1.get? a = some o→h2.get? a = some o)→φ h2
noncomputable def HOk (H : Hp) (h : Heap) : Prop := ∀ a o,H a = some o→zaP P w H h a o
end
section
variable {P : Program} {w : World} {H H' : Hp} {h h' : Heap} {a : Addr} {o : HO}
theorem zaP.lt (x : zaP P w H h a o) : a < h.objs.size := by
  cases o with
  | lst xs => obtain ⟨_,_,_,_,e⟩ := x; exact Heap.lt_size e
  | tup xs => obtain ⟨_,_,_,p,_⟩ := x; exact p.lt
  | dK kvs => obtain ⟨_,_,_,_,o,_,_,e,_⟩ := x; exact Heap.lt_size e
  | dT kvs => obtain ⟨_,_,_,_,o,_,_,e,_⟩ := x; exact Heap.lt_size e
  | set S n => obtain ⟨o,_,_,_,e,_⟩ := x; exact Heap.lt_size e
  | ins C dx fs => obtain ⟨_,_,_,e,_⟩ := x; exact Heap.lt_size e
  | own y => obtain ⟨_,e⟩ := x; exact Heap.lt_size e
  | xd fs => obtain ⟨_,⟨_,_,_,e,_⟩,_⟩ := x; exact Heap.lt_size e
  | rng lo hi => obtain ⟨_,_,_,e⟩ := x; exact Heap.lt_size e
  | frz ob u => obtain ⟨e,_⟩ := x; exact Heap.lt_size e
  | tbl ps => exact Heap.lt_size (show h.get? a = some _ from x)
  | met f y => exact Heap.lt_size (show h.get? a = some _ from x)
  | ext φ => obtain ⟨_,⟨_,e⟩,_⟩ := x; exact Heap.lt_size e
theorem Paired.mapP {α β : Type} {F G : α→β→Prop} {l₁ : List α} {l₂ : List β} (h : Paired F l₁ l₂) (f : ∀ a b,F a b→G a b) : Paired G l₁ l₂ := by
  induction h with
  | nil => exact .nil
  | cons r _ ih => exact .cons (f _ _ r) ih
theorem zaP.stay (x : zaP P w H h a o) (k : ∀ b u,(b = a∨H b = some (.own a))→h.get? b = some u→h'.get? b = some u)
    (ho : ∀ b,H b = some (.own a)→H' b = some (.own a)) (ht : ∀ b xs,H b = some (.tup xs)→H' b = some (.tup xs)) : zaP P w H' h' a o := by
  induction o with
  | lst xs => obtain ⟨z,its,n,r,e⟩ := x; exact ⟨z,its,n,r,k _ _ (.inl rfl) e⟩
  | tup xs => obtain ⟨z,its,r,⟨ob,e,c⟩,ob2,e2,c2⟩ := x; exact ⟨z,its,r,⟨ob,k _ _ (.inl rfl) e,c⟩,ob2,k _ _ (.inl rfl) e2,c2⟩
  | dK kvs => obtain ⟨z,y,vs,r,ob,es,ep,e,c⟩ := x; exact ⟨z,y,vs,r,ob,es,ep,k _ _ (.inl rfl) e,c⟩
  | dT kvs =>
    obtain ⟨z,y,xs,r,ob,es,ep,e,c⟩ := x
    exact ⟨z,y,xs,Paired.mapP r fun p q z => ⟨z.1,ht _ _ z.2.1,z.2.2⟩,ob,es,ep,k _ _ (.inl rfl) e,c⟩
  | set S n => obtain ⟨ob,es,ep,t,e,c⟩ := x; exact ⟨ob,es,ep,t,k _ _ (.inl rfl) e,c⟩
  | ins C dx fs =>
    obtain ⟨d,z,ne,e,mA,⟨od,es,ep,e2,c⟩,r⟩ := x
    exact ⟨ho _ d,z,ne,k _ _ (.inl rfl) e,mA,⟨od,es,ep,k _ _ (.inr d) e2,c⟩,r⟩
  | own y => obtain ⟨ob,e⟩ := x; exact ⟨ob,k _ _ (.inl rfl) e⟩
  | xd fs => obtain ⟨mA,⟨od,es,ep,e,c⟩,r⟩ := x; exact ⟨mA,⟨od,es,ep,k _ _ (.inl rfl) e,c⟩,r⟩
  | rng lo hi => obtain ⟨t,u,v,e⟩ := x; exact ⟨t,u,v,k _ _ (.inl rfl) e⟩
  | frz ob u ih => obtain ⟨e,q⟩ := x; exact ⟨k _ _ (.inl rfl) e,ih q⟩
  | tbl ps =>
    have e : h.get? a = some { cls := .none,data := .fields ps } := x
    show h'.get? a = some { cls := .none,data := .fields ps }
    exact k a _ (.inl rfl) e
  | met f y =>
    have e : h.get? a = some (PySem.W.methodObj (.ref f) (.ref y)) := x
    show h'.get? a = some (PySem.W.methodObj (.ref f) (.ref y))
    exact k a _ (.inl rfl) e
  | ext φ => obtain ⟨p,⟨o,e⟩,st⟩ := x; exact ⟨st _ _ p fun o q => k _ _ (.inl rfl) q,⟨o,k _ _ (.inl rfl) e⟩,st⟩
theorem HOk.lt (x : HOk P w H h) (e : H a = some o) : a < h.objs.size := (x a o e).lt
theorem HOk.fresh (x : HOk P w H h) (e : h.objs.size≤a) : H a = none := by
  cases q : H a with
  | none => rfl
  | some u => exact absurd (Nat.lt_of_lt_of_le (x.lt q) e) (Nat.lt_irrefl _)
theorem HOk.kept (x : HOk P w H h) (k : ∀ b u,h.get? b = some u→h'.get? b = some u) : HOk P w H h' := fun a o e =>
  (x a o e).stay (fun b u _ q => k b u q) (fun _ q => q) fun _ _ q => q
theorem HOk.laid (x : HOk P w H h) (k : ∀ b u,h.get? b = some u→h'.get? b = some u) (hp : h.objs.size≤a) (new : zaP P w (upd H a o) h' a o) : HOk P w (upd H a o) h' := fun b u e => by
  have hn := x.fresh hp
  by_cases hb : b = a
  · subst hb; rw [zag] at e; cases e; exact new
  · rw [zae hb] at e
    exact (x b u e).stay (fun c v _ q => k c v q) (fun c q => by rw [zae (za0 q hn)]; exact q) fun c xs q => by rw [zae (za0 q hn)]; exact q
end
noncomputable def Rd (H : Hp) (a : Addr) (u : HO) : Prop := H a = some u∨∃ o,H a = some (.frz o u)
theorem Rd.of {H : Hp} {a : Addr} {u : HO} (h : H a = some u) : Rd H a u := .inl h
theorem Rd.ok {P : Program} {w : World} {H : Hp} {h : Heap} {a : Addr} {u : HO} (r : Rd H a u) (x : HOk P w H h) : zaP P w H h a u := by
  rcases r with r | ⟨o,r⟩
  · exact x a u r
  · obtain ⟨_,q⟩ := x a _ r
    exact q
noncomputable def Mut : Option HO→Prop
  | some (.lst _) => True
  | some (.dK _) => True
  | some (.dT _) => True
  | some (.set _ _) => True
  | some (.ins _ _ _) => True
  | some (.ext _) => True
  | _ => False
section
variable {P : Program} {w : World} {H : Hp} {h h' : Heap} {x e : Addr} {o' : HO}
theorem HOk.write (ok : HOk P w H h) (mu : Mut (H x)) (he : e = x∨H e = some (.own x)) (k : ∀ b u,b≠e→h.get? b = some u→h'.get? b = some u) (heo : ∃ u,h'.get? e = some u)
    (new : zaP P w (upd H x o') h' x o') : HOk P w (upd H x o') h' := fun b u q => by
  have nown : ∀ c y,H c = some (.own y)→c≠x := fun c y r z => by subst z; rw [r] at mu; exact mu
  have ntup : ∀ c xs,H c = some (.tup xs)→c≠x := fun c xs r z => by subst z; rw [r] at mu; exact mu
  by_cases hb : b = x
  · subst hb; rw [zag] at q; cases q; exact new
  · rw [zae hb] at q
    by_cases hbe : b = e
    · have q' : H b = some (.own x) := by
        rcases he with z | z
        · exact absurd (hbe.trans z) hb
        · rw [hbe]; exact z
      rw [q] at q'; cases q'
      obtain ⟨v,hv⟩ := heo
      exact ⟨v,by rw [hbe]; exact hv⟩
    · refine (ok b u q).stay (fun c v hc r => k c v ?_ r) (fun c r => by rw [zae (nown c b r)]; exact r) fun c xs r => by rw [zae (ntup c xs r)]; exact r
      rcases hc with rfl | hc
      · exact hbe
      · rintro rfl
        rcases he with z | z
        · exact nown c b hc z
        · rw [hc] at z; cases z; exact hb rfl
end
structure Un (fs ex : List Addr) (H H' : Hp) (h h' : Heap) : Prop where
  keep : ∀ b o,h.get? b = some o→H b = none→b∉fs→b∉ex→h'.get? b = some o
  slot : ∀ b o,h.get? b = some o→H b = none→b∈fs→b∉ex→∃ sl,h'.get? b = some { o with slots := sl }
  free : ∀ b o,h.get? b = some o→H b = none→b∉ex→H' b = none
  there : ∀ b o,h.get? b = some o→b∉ex→∃ o',h'.get? b = some o'
  tups : ∀ b xs,H b = some (.tup xs)→H' b = some (.tup xs)
  frzs : ∀ b o u,H b = some (.frz o u)→H' b = some (.frz o u)
  tbls : ∀ b ps,H b = some (.tbl ps)→∃ more,H' b = some (.tbl (ps++more))
section
variable {fs fs' ex ex' : List Addr} {H H1 H2 : Hp} {h h1 h2 h' : Heap} {a x e : Addr} {o : HO}
theorem Un.any (u : Un fs ex H H1 h h1) {b : Addr} {ob : Obj} (q : h.get? b = some ob) (n : H b = none) (hx : b∉ex) : ∃ sl,h1.get? b = some { ob with slots := sl } := by
  by_cases hb : b∈fs
  · exact u.slot b ob q n hb hx
  · exact ⟨ob.slots,u.keep b ob q n hb hx⟩
theorem Un.trans (a : Un fs ex H H1 h h1) (b : Un fs ex H1 H2 h1 h2) : Un fs ex H H2 h h2 where
  keep := fun c ob q n hc hx => b.keep c ob (a.keep c ob q n hc hx) (a.free c ob q n hx) hc hx
  slot := fun c ob q n hc hx => by
    obtain ⟨sl,e1⟩ := a.slot c ob q n hc hx
    obtain ⟨sl',e2⟩ := b.slot c _ e1 (a.free c ob q n hx) hc hx
    exact ⟨sl',e2⟩
  free := fun c ob q n hx => by
    obtain ⟨o',e1⟩ := a.there c ob q hx
    exact b.free c o' e1 (a.free c ob q n hx) hx
  there := fun c ob q hx => by
    obtain ⟨o',e1⟩ := a.there c ob q hx
    exact b.there c o' e1 hx
  tups := fun c xs q => b.tups c xs (a.tups c xs q)
  frzs := fun c ob xs q => b.frzs c ob xs (a.frzs c ob xs q)
  tbls := fun c ps q => by
    obtain ⟨m1,e1⟩ := a.tbls c ps q
    obtain ⟨m2,e2⟩ := b.tbls c _ e1
    exact ⟨m1++m2,by rw [e2,Array.append_assoc]⟩
theorem Un.kept (k : ∀ b u,h.get? b = some u→h'.get? b = some u) : Un fs ex H H h h' :=
  ⟨fun b ob q _ _ _ => k b ob q,fun b ob q _ _ _ => ⟨ob.slots,k b ob q⟩,fun _ _ _ n _ => n,fun b ob q _ => ⟨ob,k b ob q⟩,fun _ _ q => q,fun _ _ _ q => q,fun _ ps q => ⟨#[],by rw [q]; simp⟩⟩
theorem Un.refl : Un fs ex H H h h := Un.kept fun _ _ q => q
theorem Un.laid (k : ∀ b u,h.get? b = some u→h'.get? b = some u) (hp : h.objs.size≤a) (hn : H a = none) : Un fs ex H (upd H a o) h h' where
  keep := fun b u q _ _ _ => k b u q
  slot := fun b u q _ _ _ => ⟨u.slots,k b u q⟩
  free := fun b u q n _ => by rw [zae (Nat.ne_of_lt (Nat.lt_of_lt_of_le (Heap.lt_size q) hp))]; exact n
  there := fun b u q _ => ⟨u,k b u q⟩
  tups := fun b xs q => by rw [zae (za0 q hn)]; exact q
  frzs := fun b u xs q => by rw [zae (za0 q hn)]; exact q
  tbls := fun b ps q => ⟨#[],by rw [zae (za0 q hn),q]; simp⟩
theorem Un.write (mu : Mut (H x)) (he : e = x∨H e = some (.own x)) (k : ∀ b u,b≠e→h.get? b = some u→h'.get? b = some u) (heo : ∃ u,h'.get? e = some u) : Un fs ex H (upd H x o) h h' := by
  have hx : ∀ b,H b = none→b≠x := fun b n z => by subst z; rw [n] at mu; exact mu
  have hb : ∀ b,H b = none→b≠e := fun b n z => by
    subst z
    rcases he with r | r
    · exact hx b n r
    · rw [n] at r; cases r
  have hm : ∀ b u,H b = some u→¬ Mut (some u)→b≠x := fun b u q nm z => by subst z; rw [q] at mu; exact nm mu
  refine ⟨fun b u q n _ _ => k b u (hb b n) q,fun b u q n _ _ => ⟨u.slots,k b u (hb b n) q⟩,fun b u q n _ => by rw [zae (hx b n)]; exact n,fun b u q _ => ?_,
    fun b xs q => by rw [zae (hm b _ q fun z => z)]; exact q,fun b u xs q => by rw [zae (hm b _ q fun z => z)]; exact q,fun b ps q => ⟨#[],by rw [zae (hm b _ q fun z => z),q]; simp⟩⟩
  by_cases hbe : b = e
  · subst hbe; exact heo
  · exact ⟨u,k b u hbe q⟩
theorem Un.mono (u : Un fs ex H H1 h h1) (hs : ∀ b∈fs,b∈fs') (hx : ∀ b∈ex,b∈ex') : Un fs' ex' H H1 h h1 :=
  ⟨fun b ob q n hb he => u.keep b ob q n (fun z => hb (hs b z)) fun z => he (hx b z),fun _ _ q n _ he => u.any q n fun z => he (hx _ z),fun b ob q n he => u.free b ob q n fun z => he (hx b z),fun b ob q he => u.there b ob q fun z => he (hx b z),u.tups,u.frzs,u.tbls⟩
end
noncomputable def trk (h : Heap) (H : Hp) : List Addr := (List.range h.objs.size).filter fun a => (H a).isSome
noncomputable def hidT (h : Heap) (H : Hp) : Heap := PySem.W.hideAll h (trk h H)
theorem zgv (h : Heap) (H : Hp) : (hidT h H).objs.size = h.objs.size := PySem.W.hideAll_size _ _
theorem zhK {h : Heap} {H : Hp} {b : Addr} {o : Obj} (e : h.get? b = some o) (n : H b = none) : (hidT h H).get? b = some o :=
  PySem.W.hideAll_get _ e fun hm => by
    have q : (H b).isSome = true := (List.mem_filter.mp hm).2
    rw [n] at q; simp at q
theorem zjn {h : Heap} {H : Hp} {b : Addr} {o : Obj} (e : (hidT h H).get? b = some o) : h.get? b = some o∧H b = none := by
  have e' : h.get? b = some o := PySem.W.of_hideAll (trk h H) e
  refine ⟨e',?_⟩
  cases q : H b with
  | none => rfl
  | some x =>
    have hm : b∈trk h H := List.mem_filter.mpr ⟨List.mem_range.mpr (Heap.lt_size e'),by simp [q]⟩
    have z : (hidT h H).get? b = none := PySem.W.hideAll_none (trk h H) hm
    rw [z] at e; cases e
noncomputable def zjR (g h : Heap) (L : Addr) : List (Addr × Obj) := (List.range h.objs.size).filterMap fun a => if a = L∨(g.get? a).isSome = true then none else (h.get? a).map fun o => (a,o)
noncomputable def rest (g h : Heap) (L d : Addr) : List (Addr × Obj) := (zjR g h L).filter fun p => decide (p.1≠d)
end L2
namespace L2
open PySem PySem.Spec PyProof.Rows
structure Mod (K : PySem.W.Frag) (mg : Str→Option Value) (base : Heap) : Prop where
  kin : K.In base
  glob : base.Ns mainGlobals mg
  blt : ∃ mb,base.Ns builtinsNs mb∧∀ x : Str,x≠"__name__"→mb x = bootBuiltins x
  nolimit : base.NoLimit
structure Cx where
  prog : Program
  w : World
  K : PySem.W.Frag
  mg : Str→Option Value
  base : Heap
  A : Around
  N : List Str
  s₀ : Shared
  H₀ : Hp
  env : Env
  outer : List Env
  stack : List Env
  ex : List Addr
  fn : Str→Bool
  calm : Bool
  pn : List (Addr × Obj)
  xe : Value→Shared→Prop
noncomputable def frs (l : List Env) : List Addr := l.filterMap (·.frame)
noncomputable abbrev Cx.fs (X : Cx) : List Addr := frs X.outer
noncomputable def Vis (sc : Scope) (x : Str) : Prop := sc.names.lookup x = some .local∨sc.names.lookup x = some .cell∨sc.names.lookup x = some .free
noncomputable def Loc (sc : Scope) (x : Str) : Prop := sc.names.lookup x = some .local∨sc.names.lookup x = some .cell
noncomputable def Look (env : Env) (h : Heap) (m : Str→Option Value) (x : Str) (u : Value) : Prop :=
  (env.kindOf x = some .local∧m x = some u)∨((env.kindOf x = some .cell∨env.kindOf x = some .free)∧∃ c,env.cells.lookup x = some c∧h.IsCell c (some u))
structure Cx.Ok (X : Cx) : Prop where
  mod : Mod X.K X.mg X.base
  kind : X.env.scope.kind = .function
  glob : X.env.globals = mainGlobals
  blt : X.env.builtins = builtinsNs
  above : X.s₀.heap.objs.size≤X.env.locals
  inj : ∀ x y c,X.env.cells.lookup x = some c→X.env.cells.lookup y = some c→x = y
  has : ∀ x,(X.env.kindOf x = some .cell∨X.env.kindOf x = some .free)→∃ c,X.env.cells.lookup x = some c
  cab : ∀ x c,X.fn x = true→X.env.cells.lookup x = some c→X.s₀.heap.objs.size≤c
  hd : X.calm = true→X.A.handled = none
  frames : X.A.frames = some X.stack
  stk : X.stack = X.outer∨(X.stack = X.env::X.outer∧X.env.frame = some X.env.locals)
  exf : ∀ b∈X.ex,b≠X.env.locals∧∀ x c,X.env.cells.lookup x = some c→c≠b
  bs : ∀ b o,X.base.get? b = some o→X.s₀.heap.get? b = some o∧X.H₀ b = none
  bsz : X.base.objs.size≤X.s₀.heap.objs.size
  noex : ∀ b o,X.base.get? b = some o→b∉X.ex
  exfs : ∀ b∈X.ex,b∉X.fs
  funs : X.s₀.heap.FunFrames X.base X.outer
  frf : ∀ b∈X.fs,X.H₀ b = none
structure Inv (X : Cx) (pins : List (Addr × Obj)) (σ : List (Option V)) (H : Hp) (s : Shared) : Prop where
  ok : X.Ok
  os : s.os = X.s₀.os
  bare : AllBare s.gens
  base : Un X.fs X.ex X.H₀ H X.s₀.heap s.heap
  loc : ∃ m,s.heap.Ns X.env.locals m∧∀ (i : Nat) (x : Str) (v : V),X.N[i]? = some x→σ[i]? = some (some v)→Vis X.env.scope x→∃ u,RelV v u∧Look X.env s.heap m x u
  cell : ∀ x c,X.env.cells.lookup x = some c→∃ v,s.heap.IsCell c v
  free : H X.env.locals = none
  freeC : ∀ x c,X.env.cells.lookup x = some c→H c = none
  pin : ∀ p∈X.pn++pins,s.heap.get? p.1 = some p.2∧H p.1 = none∧p.1≠X.env.locals∧p.1∉X.fs∧∀ v,p.2.data≠.cell v
  hok : HOk X.prog X.w H s.heap
  len : σ.length = X.N.length
section
variable {X : Cx} {pins : List (Addr × Obj)} {σ : List (Option V)} {H H' : Hp} {s : Shared} {h' : Heap}
theorem Cx.Ok.nofr (ok : X.Ok) {b : Addr} {o : Obj} (e : X.base.get? b = some o) : b∉X.fs := fun hb => by
  have := (ok.funs.mem hb).1
  rw [e] at this; cases this
theorem Inv.bs (I : Inv X pins σ H s) : ∀ b o,X.base.get? b = some o→s.heap.get? b = some o∧H b = none := fun b o e =>
  ⟨I.base.keep b o (I.ok.bs b o e).1 (I.ok.bs b o e).2 (I.ok.nofr e) (I.ok.noex b o e),I.base.free b o (I.ok.bs b o e).1 (I.ok.bs b o e).2 (I.ok.noex b o e)⟩
theorem Inv.bk (I : Inv X pins σ H s) : ∀ b o,X.base.get? b = some o→s.heap.get? b = some o := fun b o e => (I.bs b o e).1
theorem Inv.mod (I : Inv X pins σ H s) : Mod X.K X.mg X.base := I.ok.mod
theorem Inv.kIn (I : Inv X pins σ H s) : X.K.In s.heap := I.ok.mod.kin.keeps I.bk
theorem Inv.nolimit (I : Inv X pins σ H s) : s.heap.NoLimit := I.ok.mod.nolimit.keeps I.bk
theorem Inv.fr (I : Inv X pins σ H s) : ∃ m,Fr X.base X.env.locals s.heap m :=
  let ⟨m,hn,_⟩ := I.loc
  ⟨m,hn,I.bk,Nat.le_trans I.ok.bsz I.ok.above⟩
theorem Inv.lt (I : Inv X pins σ H s) : X.env.locals < s.heap.objs.size := let ⟨_,hn,_⟩ := I.loc; hn.lt
theorem Inv.sz (I : Inv X pins σ H s) : X.s₀.heap.objs.size≤s.heap.objs.size := Nat.le_trans I.ok.above (Nat.le_of_lt I.lt)
theorem Inv.nofs (I : Inv X pins σ H s) {a : Addr} (h : s.heap.objs.size≤a) : a∉X.fs := fun hb => by
  obtain ⟨_,o,ho,_⟩ := I.ok.funs.mem hb
  exact absurd (Nat.lt_of_lt_of_le (Heap.lt_size ho) (Nat.le_trans I.sz h)) (Nat.lt_irrefl _)
theorem Inv.cne (I : Inv X pins σ H s) : ∀ x c,X.env.cells.lookup x = some c→c≠X.env.locals := fun x c e z => by
  obtain ⟨v,o,ho,hd⟩ := I.cell x c e
  obtain ⟨m,⟨o',es,ep,ho',hd',_⟩,_⟩ := I.loc
  rw [z,ho'] at ho; cases ho; rw [hd'] at hd; cases hd
theorem Inv.funs (I : Inv X pins σ H s) : s.heap.FunFrames X.base X.outer := by
  have all : ∀ (l : List Env),(∀ b∈frs l,b∈X.fs)→X.s₀.heap.FunFrames X.base l→s.heap.FunFrames X.base l := by
    intro l
    induction l with
    | nil => intro _ _; trivial
    | cons env r ih =>
      intro hs hl
      obtain ⟨hk,⟨L,o,hf,hn,ho,hd⟩,hr⟩ := hl
      have hL : L∈X.fs := hs L (by unfold frs; rw [List.filterMap_cons,hf]; exact List.mem_cons_self)
      obtain ⟨sl,e⟩ := I.base.slot L o ho (I.ok.frf L hL) hL fun z => I.ok.exfs L z hL
      exact ⟨hk,⟨L,_,hf,hn,e,hd⟩,ih (fun b hb => hs b (by unfold frs; rw [List.filterMap_cons,hf]; exact List.mem_cons_of_mem _ hb)) hr⟩
  exact all X.outer (fun _ hb => hb) I.ok.funs
theorem Inv.stack (I : Inv X pins σ H s) : s.heap.FunFrames X.base X.stack := by
  rcases I.ok.stk with e | ⟨e,hf⟩
  · rw [e]; exact I.funs
  · rw [e]
    obtain ⟨m,hn,_⟩ := I.loc
    refine .cons (by rw [I.ok.kind]; decide) hf hn ?_ I.funs
    exact Heap.get?_none_of_le (Nat.le_trans I.ok.bsz I.ok.above)
theorem Inv.stkSub (I : Inv X pins σ H s) : ∀ b∈frs X.stack,b∈X.env.locals::X.fs := fun b hb => by
  rcases I.ok.stk with e | ⟨e,hf⟩
  · rw [e] at hb; exact List.mem_cons_of_mem _ hb
  · rw [e] at hb
    unfold frs at hb
    rw [List.filterMap_cons,hf] at hb
    exact hb
theorem Inv.stkFree (I : Inv X pins σ H s) : ∀ b∈frs X.stack,H b = none := fun b hb => by
  rcases List.mem_cons.mp (I.stkSub b hb) with e | hb
  · rw [e]; exact I.free
  · obtain ⟨_,o,ho,_⟩ := I.ok.funs.mem hb
    exact I.base.free b o ho (I.ok.frf b hb) fun z => I.ok.exfs b z hb
theorem Inv.step {g' : Array GenState} {t' : Nat} {d' : Drawn} {ch : List Addr} (I : Inv X pins σ H s)
    (hch : ∀ b∈ch,(b∈X.ex∨X.s₀.heap.objs.size≤b)∧b≠X.env.locals∧(∀ x c,X.env.cells.lookup x = some c→c≠b)∧∀ p∈X.pn++pins,p.1≠b)
    (keep : ∀ b o,b≠X.env.locals→b∉X.fs→b∉ch→s.heap.get? b = some o→H b = none→h'.get? b = some o)
    (slot : ∀ b o,b≠X.env.locals→b∈X.fs→b∉ch→s.heap.get? b = some o→H b = none→∃ sl,h'.get? b = some { o with slots := sl }) (free : ∀ b o,b∉ch→s.heap.get? b = some o→H b = none→H' b = none)
    (there : ∀ b o,b∉ch→s.heap.get? b = some o→∃ o',h'.get? b = some o')
    (tups : ∀ b xs,H b = some (.tup xs)→H' b = some (.tup xs)) (frzs : ∀ b o u,H b = some (.frz o u)→H' b = some (.frz o u)) (tbls : ∀ b ps,H b = some (.tbl ps)→∃ more,H' b = some (.tbl (ps++more)))
    (ns : ∀ m,s.heap.Ns X.env.locals m→h'.Ns X.env.locals m) (hok : HOk X.prog X.w H' h') (hg : AllBare g') :
    Inv X pins σ H' { s with heap := h',gens := g',drawn := d',toks := t' } := by
  have neL : ∀ b o,X.s₀.heap.get? b = some o→b≠X.env.locals := fun b o e => Nat.ne_of_lt (Nat.lt_of_lt_of_le (Heap.lt_size e) I.ok.above)
  have neC : ∀ b o,X.s₀.heap.get? b = some o→b∉X.ex→b∉ch := fun b o e hx hb => by
    rcases (hch b hb).1 with z | z
    · exact hx z
    · exact absurd (Nat.lt_of_lt_of_le (Heap.lt_size e) z) (Nat.lt_irrefl _)
  have cellK : ∀ x c,X.env.cells.lookup x = some c→∀ v,s.heap.IsCell c v→h'.IsCell c v := fun x c e v ⟨o,ho,hd⟩ => by
    have nch : c∉ch := fun z => (hch c z).2.2.1 x c e rfl
    by_cases hc : c∈X.fs
    · obtain ⟨sl,q⟩ := slot c o (I.cne x c e) hc nch ho (I.freeC x c e)
      exact ⟨_,q,hd⟩
    · exact ⟨o,keep c o (I.cne x c e) hc nch ho (I.freeC x c e),hd⟩
  refine ⟨I.ok,I.os,hg,⟨fun b o e n hb hx => ?_,fun b o e n hb hx => ?_,fun b o e n hx => ?_,fun b o e hx => ?_,fun b xs e => tups b xs (I.base.tups b xs e),fun b o xs e => frzs b o xs (I.base.frzs b o xs e),fun b ps e => ?_⟩,?_,fun x c e => ?_,?_,fun x c e => ?_,fun p hp => ?_,hok,I.len⟩
  · exact keep b o (neL b o e) hb (neC b o e hx) (I.base.keep b o e n hb hx) (I.base.free b o e n hx)
  · obtain ⟨sl,e1⟩ := I.base.slot b o e n hb hx
    obtain ⟨sl',e2⟩ := slot b _ (neL b o e) hb (neC b o e hx) e1 (I.base.free b o e n hx)
    exact ⟨sl',e2⟩
  · obtain ⟨o',e1⟩ := I.base.there b o e hx
    exact free b o' (neC b o e hx) e1 (I.base.free b o e n hx)
  · obtain ⟨o',e1⟩ := I.base.there b o e hx
    exact there b o' (neC b o e hx) e1
  · obtain ⟨m1,e1⟩ := I.base.tbls b ps e
    obtain ⟨m2,e2⟩ := tbls b _ e1
    exact ⟨m1++m2,by rw [e2,Array.append_assoc]⟩
  · obtain ⟨m,hn,hl⟩ := I.loc
    refine ⟨m,ns m hn,fun i x v e1 e2 e3 => ?_⟩
    obtain ⟨u,r,l⟩ := hl i x v e1 e2 e3
    refine ⟨u,r,?_⟩
    rcases l with l | ⟨k,c,e,z⟩
    · exact .inl l
    · exact .inr ⟨k,c,e,cellK x c e _ z⟩
  · obtain ⟨v,z⟩ := I.cell x c e
    exact ⟨v,cellK x c e v z⟩
  · obtain ⟨m,⟨o,_,_,ho,_⟩,_⟩ := I.loc
    exact free _ o (fun z => (hch _ z).2.1 rfl) ho I.free
  · obtain ⟨v,o,ho,hd⟩ := I.cell x c e
    exact free c o (fun z => (hch c z).2.2.1 x c e rfl) ho (I.freeC x c e)
  · obtain ⟨e,n,ne,nf,d⟩ := I.pin p hp
    have nch : p.1∉ch := fun z => (hch p.1 z).2.2.2 p hp rfl
    exact ⟨keep p.1 p.2 ne nf nch e n,free p.1 p.2 nch e n,ne,nf,d⟩
theorem Inv.un {t' : Nat} (I : Inv X pins σ H s) (u : Un X.fs [] H H' s.heap h') (hok : HOk X.prog X.w H' h') : Inv X pins σ H' { s with heap := h',toks := t' } := by
  obtain ⟨m,⟨o,es,ep,ho,r⟩,_⟩ := id I.loc
  obtain ⟨sl,hL⟩ := u.any ho I.free (by simp)
  exact I.step (g' := s.gens) (d' := s.drawn) (ch := []) (fun _ z => nomatch z) (fun b o _ hb _ e n => u.keep b o e n hb (by simp)) (fun b o _ hb _ e n => u.slot b o e n hb (by simp)) (fun b o _ e n => u.free b o e n (by simp)) (fun b o _ e => u.there b o e (by simp)) u.tups u.frzs u.tbls (fun m' hm => by
    obtain ⟨o',es',ep',ho',r'⟩ := hm
    rw [ho] at ho'; cases ho'
    exact ⟨_,es',ep',hL,r'⟩) hok I.bare
theorem Inv.call {g' : Array GenState} {t' : Nat} {d' : Drawn} {ch : List Addr} (I : Inv X pins σ H s) (u : Un (frs X.stack) ch H H' s.heap h') (hok : HOk X.prog X.w H' h') (hg : AllBare g')
    (hch : ∀ b∈ch,(b∈X.ex∨X.s₀.heap.objs.size≤b)∧b≠X.env.locals∧(∀ x c,X.env.cells.lookup x = some c→c≠b)∧∀ p∈X.pn++pins,p.1≠b) :
    Inv X pins σ H' { s with heap := h',gens := g',drawn := d',toks := t' } := by
  obtain ⟨m,⟨o,es,ep,ho,r⟩,_⟩ := id I.loc
  obtain ⟨sl,hL⟩ := u.any ho I.free fun z => (hch _ z).2.1 rfl
  exact I.step (ch := ch) hch (fun b o hL hb hc e n => u.keep b o e n (fun z => (List.mem_cons.mp (I.stkSub b z)).elim hL hb) hc) (fun b o _ _ hc e n => u.any e n hc) (fun b o hc e n => u.free b o e n hc) (fun b o hc e => u.there b o e hc) u.tups u.frzs u.tbls (fun m' hm => by
    obtain ⟨o',es',ep',ho',r'⟩ := hm
    rw [ho] at ho'; cases ho'
    exact ⟨_,es',ep',hL,r'⟩) hok hg
theorem Inv.turned {t' : Nat} {it : Addr} (I : Inv X pins σ H s) (k : ∀ b o,b≠it→s.heap.get? b = some o→h'.get? b = some o) (hn : H it = none) (hL : it≠X.env.locals)
    (h1 : it∈X.ex∨X.s₀.heap.objs.size≤it) (h2 : ∀ x c,X.env.cells.lookup x = some c→c≠it) (h3 : ∀ p∈X.pn++pins,p.1≠it) : Inv X pins σ H { s with heap := h',toks := t' } := by
  have nit : ∀ b u,H b = some u→b≠it := fun b u e z => by rw [z,hn] at e; cases e
  refine I.step (g' := s.gens) (d' := s.drawn) (ch := [it]) (fun b hb => ?_) (fun b o _ _ hc e _ => k b o (fun z => hc (by simp [z])) e) (fun b o _ _ hc e _ => ⟨o.slots,k b o (fun z => hc (by simp [z])) e⟩) (fun _ _ _ _ n => n)
    (fun b o hc e => ⟨o,k b o (fun z => hc (by simp [z])) e⟩) (fun _ _ e => e) (fun _ _ _ e => e) (fun b ps e => ⟨#[],by rw [e]; simp⟩) (fun m hm => ?_) (fun b u e => ?_) I.bare
  · have e : b = it := by simpa using hb
    subst e
    exact ⟨h1,hL,h2,h3⟩
  · obtain ⟨o,es,ep,ho,r⟩ := hm
    exact ⟨o,es,ep,k _ o (Ne.symm hL) ho,r⟩
  · refine (I.hok b u e).stay (fun c v hc q => k c v ?_ q) (fun _ q => q) fun _ _ q => q
    rcases hc with z | z
    · rw [z]; exact nit b u e
    · exact nit c _ z
theorem Inv.tok (I : Inv X pins σ H s) (t : Nat) : Inv X pins σ H { s with toks := t } := I.un (h' := s.heap) (t' := t) Un.refl I.hok
theorem Inv.kept {t' : Nat} (I : Inv X pins σ H s) (k : ∀ b u,s.heap.get? b = some u→h'.get? b = some u) : Inv X pins σ H { s with heap := h',toks := t' } := I.un (Un.kept k) (I.hok.kept k)
theorem Inv.laid {a : Addr} {o : HO} {t' : Nat} (I : Inv X pins σ H s) (k : ∀ b u,s.heap.get? b = some u→h'.get? b = some u) (hp : s.heap.objs.size≤a) (new : zaP X.prog X.w (upd H a o) h' a o) :
    Inv X pins σ (upd H a o) { s with heap := h',toks := t' } := I.un (Un.laid k hp (I.hok.fresh hp)) (I.hok.laid k hp new)
theorem Inv.write {x e : Addr} {o : HO} {t' : Nat} (I : Inv X pins σ H s) (mu : Mut (H x)) (he : e = x∨H e = some (.own x)) (k : ∀ b u,b≠e→s.heap.get? b = some u→h'.get? b = some u) (heo : ∃ u,h'.get? e = some u)
    (new : zaP X.prog X.w (upd H x o) h' x o) : Inv X pins σ (upd H x o) { s with heap := h',toks := t' } := I.un (Un.write mu he k heo) (I.hok.write mu he k heo new)
theorem Inv.pins_of {pins' : List (Addr × Obj)} (I : Inv X pins σ H s) (h : ∀ p∈pins',s.heap.get? p.1 = some p.2∧H p.1 = none∧p.1≠X.env.locals∧p.1∉X.fs∧∀ v,p.2.data≠.cell v) : Inv X pins' σ H s :=
  ⟨I.ok,I.os,I.bare,I.base,I.loc,I.cell,I.free,I.freeC,fun p hp => (List.mem_append.mp hp).elim (fun z => I.pin p (List.mem_append_left _ z)) (h p),I.hok,I.len⟩
theorem ze3 {N : List Str} (hN : N.Nodup) {i j : Nat} {x : Str} (a : N[i]? = some x) (b : N[j]? = some x) : i = j := by
  obtain ⟨h1,e1⟩ := List.getElem?_eq_some_iff.mp a
  obtain ⟨h2,e2⟩ := List.getElem?_eq_some_iff.mp b
  exact (List.getElem_inj hN).mp (e1.trans e2.symm)
theorem zfN {M : Model} {A : Around} {E : Value→Shared→Prop} {i : Nat} {x : Str} {v : V} {u : Value} {Q : Unit→Shared→Prop} (I : Inv X pins σ H s) (hN : X.N.Nodup) (hi : X.N[i]? = some x) (hx : Loc X.env.scope x) (r : RelV v u)
    (h : ∀ s',Inv X pins (σ.set i (some v)) H s'→(∃ a,Heap.SameBut a s.heap s'.heap∧(a = X.env.locals∨X.env.cells.lookup x = some a))→Q () s') (hf : X.fn x = true∨X.env.scope.names.lookup x = some .local := by first | exact .inl rfl | exact .inr rfl | assumption) : wpAny M A (storeName X.env x u) Q E s := by
  obtain ⟨m,hn,hl⟩ := id I.loc
  have hcls : (X.env.scope.kind == .class || (X.env.scope.kind == .module && X.env.locals != X.env.globals)) = false := by rw [I.ok.kind]; rfl
  have hiσ : i < σ.length := by rw [I.len]; exact (List.getElem?_eq_some_iff.mp hi).1
  have cne := I.cne
  have tracked : ∀ {a : Addr} {h' : Heap},(∃ o,s.heap.get? a = some o∧H a = none)→Heap.SameBut a s.heap h'→HOk X.prog X.w H h' := fun {a h'} ha hs b ob e => by
    obtain ⟨_,_,hfree⟩ := ha
    refine (I.hok b ob e).stay (fun c w' hc q => (hs.2 c ?_).trans q) (fun _ q => q) fun _ _ q => q
    rintro rfl
    rcases hc with rfl | hc
    · rw [hfree] at e; cases e
    · rw [hfree] at hc; cases hc
  rcases hx with hk | hk
  · refine wpAny_storeName_local hk hn (fun h' hn' hs => ?_) hcls
    obtain ⟨oL,_,_,hoL,_⟩ := id hn
    refine h _ ⟨I.ok,I.os,I.bare,⟨fun b o e n hb hx => ?_,fun b o e n hb hx => ?_,I.base.free,fun b o e hx => ?_,I.base.tups,I.base.frzs,I.base.tbls⟩,⟨_,hn',fun j y v' e1 e2 e3 => ?_⟩,fun y c e => ?_,I.free,I.freeC,fun p hp => ?_,tracked ⟨oL,hoL,I.free⟩ hs,by simpa using I.len⟩ ⟨_,hs,.inl rfl⟩
    · exact (hs.2 b (Nat.ne_of_lt (Nat.lt_of_lt_of_le (Heap.lt_size e) I.ok.above))).trans (I.base.keep b o e n hb hx)
    · obtain ⟨sl,e1⟩ := I.base.slot b o e n hb hx
      exact ⟨sl,(hs.2 b (Nat.ne_of_lt (Nat.lt_of_lt_of_le (Heap.lt_size e) I.ok.above))).trans e1⟩
    · obtain ⟨o',e1⟩ := I.base.there b o e hx
      exact ⟨o',(hs.2 b (Nat.ne_of_lt (Nat.lt_of_lt_of_le (Heap.lt_size e) I.ok.above))).trans e1⟩
    · by_cases hj : j = i
      · subst hj
        rw [hi] at e1; cases e1
        rw [List.getElem?_set_self hiσ] at e2
        cases e2
        exact ⟨u,r,.inl ⟨hk,by simp⟩⟩
      · rw [List.getElem?_set_ne (Ne.symm hj)] at e2
        obtain ⟨u',r',q⟩ := hl j y v' e1 e2 e3
        refine ⟨u',r',?_⟩
        rcases q with ⟨k,e⟩ | ⟨k,c,e,z⟩
        · refine .inl ⟨k,?_⟩
          have : y≠x := fun e => hj (ze3 hN e1 (e ▸ hi))
          simp [this,e]
        · exact .inr ⟨k,c,e,z.sameBut hs (cne y c e)⟩
    · obtain ⟨w',z⟩ := I.cell y c e
      exact ⟨w',z.sameBut hs (cne y c e)⟩
    · obtain ⟨e,n,ne,nf,d⟩ := I.pin p hp
      exact ⟨(hs.2 p.1 ne).trans e,n,ne,nf,d⟩
  · have hfn : X.fn x = true := by
      rcases hf with z | z
      · exact z
      · rw [z] at hk; cases hk
    obtain ⟨c,hc⟩ := I.ok.has x (.inl hk)
    obtain ⟨w',z⟩ := I.cell x c hc
    refine wpAny_storeName_cell I.ok.kind hk hc z (fun h' hc' hs => ?_)
    obtain ⟨oc,hoc,hocd⟩ := id z
    refine h { s with heap := h' } ⟨I.ok,I.os,I.bare,⟨fun b o e n hb hx => ?_,fun b o e n hb hx => ?_,I.base.free,fun b o e hx => ?_,I.base.tups,I.base.frzs,I.base.tbls⟩,⟨m,hn.sameBut hs (Ne.symm (cne x c hc)),fun j y v' e1 e2 e3 => ?_⟩,fun y c' e => ?_,I.free,I.freeC,fun p hp => ?_,tracked ⟨oc,hoc,I.freeC x c hc⟩ hs,by simpa using I.len⟩ ⟨c,hs,.inr hc⟩
    · exact (hs.2 b (Nat.ne_of_lt (Nat.lt_of_lt_of_le (Heap.lt_size e) (I.ok.cab x c hfn hc)))).trans (I.base.keep b o e n hb hx)
    · obtain ⟨sl,e1⟩ := I.base.slot b o e n hb hx
      exact ⟨sl,(hs.2 b (Nat.ne_of_lt (Nat.lt_of_lt_of_le (Heap.lt_size e) (I.ok.cab x c hfn hc)))).trans e1⟩
    · obtain ⟨o',e1⟩ := I.base.there b o e hx
      exact ⟨o',(hs.2 b (Nat.ne_of_lt (Nat.lt_of_lt_of_le (Heap.lt_size e) (I.ok.cab x c hfn hc)))).trans e1⟩
    · by_cases hj : j = i
      · subst hj
        rw [hi] at e1; cases e1
        rw [List.getElem?_set_self hiσ] at e2
        cases e2
        exact ⟨u,r,.inr ⟨.inl hk,c,hc,hc'⟩⟩
      · rw [List.getElem?_set_ne (Ne.symm hj)] at e2
        obtain ⟨u',r',q⟩ := hl j y v' e1 e2 e3
        refine ⟨u',r',?_⟩
        rcases q with q | ⟨k,c',e,z'⟩
        · exact .inl q
        · refine .inr ⟨k,c',e,z'.sameBut hs ?_⟩
          rintro rfl
          exact hj (ze3 hN e1 (I.ok.inj _ _ _ e hc ▸ hi))
    · by_cases hcc : c' = c
      · subst hcc; exact ⟨_,hc'⟩
      · obtain ⟨w2,z2⟩ := I.cell y c' e
        exact ⟨w2,z2.sameBut hs hcc⟩
    · obtain ⟨e,n,ne,nf,d⟩ := I.pin p hp
      refine ⟨(hs.2 p.1 ?_).trans e,n,ne,nf,d⟩
      intro q
      rw [q,hoc] at e
      have q' : oc = p.2 := Option.some.inj e
      exact d w' (by rw [← q']; exact hocd)
theorem zcP {M : Model} {A : Around} {E : Value→Shared→Prop} {i : Nat} {x : Str} {v : V} {u : Value} {Q : Unit→Shared→Prop} (I : Inv X pins σ H s) (hN : X.N.Nodup) (hi : X.N[i]? = some x) (hx : Loc X.env.scope x) (r : RelV v u)
    (h : ∀ s',Inv X pins (σ.set i (some v)) H s'→Q () s') (hf : X.fn x = true∨X.env.scope.names.lookup x = some .local := by first | exact .inl rfl | exact .inr rfl | assumption) : wpAny M A (storeName X.env x u) Q E s :=
  zfN I hN hi hx r (fun s' I' _ => h s' I') hf
theorem Inv.call' {s' : Shared} {ch : List Addr} (I : Inv X pins σ H s) (ho : s'.os = s.os) (u : Un (frs X.stack) ch H H' s.heap s'.heap) (hok : HOk X.prog X.w H' s'.heap) (hg : AllBare s'.gens)
    (hch : ∀ b∈ch,(b∈X.ex∨X.s₀.heap.objs.size≤b)∧b≠X.env.locals∧(∀ x c,X.env.cells.lookup x = some c→c≠b)∧∀ p∈X.pn++pins,p.1≠b) : Inv X pins σ H' s' := by
  obtain ⟨h',g',d',t',o'⟩ := s'
  have e : o' = s.os := ho
  subst e
  exact I.call (g' := g') (t' := t') (d' := d') u hok hg hch
end
noncomputable abbrev XK := Value→Option Addr→Hp→Prop
noncomputable abbrev St := List (Option V)
noncomputable abbrev VK := V→Hp→Prop
noncomputable abbrev TE := St→Hp→VK→Prop
noncomputable abbrev TT := St→Hp→(Bool→Hp→Prop)→Prop
noncomputable abbrev TA := St→Hp→(List V→Hp→Prop)→Prop
structure Ends where
  nx : St→Hp→Prop
  rt : VK
  bk : St→Hp→Prop := fun _ _ => False
  ct : St→Hp→Prop := fun _ _ => False
noncomputable abbrev TS := Ends→St→Hp→Prop
noncomputable def EP (X : Cx) (pins : List (Addr × Obj)) (σ : St) (Q : VK) (u : Value) (s' : Shared) : Prop := ∃ v H',Inv X pins σ H' s'∧RelV v u∧Q v H'
noncomputable def TP (X : Cx) (pins : List (Addr × Obj)) (σ : St) (Q : Bool→Hp→Prop) (b : Bool) (s' : Shared) : Prop := ∃ H',Inv X pins σ H' s'∧Q b H'
noncomputable def AP (X : Cx) (pins : List (Addr × Obj)) (σ : St) (Q : List V→Hp→Prop) (us : List Value) (s' : Shared) : Prop := ∃ vs H',Inv X pins σ H' s'∧Vals vs us∧Q vs H'
noncomputable def SP (X : Cx) (pins : List (Addr × Obj)) (D : Ends) (f : Flow) (s' : Shared) : Prop :=
  match f with
  | .next => ∃ σ' H',Inv X pins σ' H' s'∧D.nx σ' H'
  | .brk => ∃ σ' H',Inv X pins σ' H' s'∧D.bk σ' H'
  | .cont => ∃ σ' H',Inv X pins σ' H' s'∧D.ct σ' H'
  | .ret u => ∃ v σ' H',Inv X pins σ' H' s'∧RelV v u∧D.rt v H'
noncomputable def PE (X : Cx) (e : Expr) (t : TE) : Prop :=
  ∀ (pins : List (Addr × Obj)) (s : Shared) (σ : St) (H : Hp) (Q : VK),Inv X pins σ H s→t σ H Q→wpAny (model X.prog X.w) X.A (eval e X.env) (EP X pins σ Q) X.xe s
noncomputable def PT (X : Cx) (e : Expr) (t : TT) : Prop :=
  ∀ (pins : List (Addr × Obj)) (s : Shared) (σ : St) (H : Hp) (Q : Bool→Hp→Prop),Inv X pins σ H s→t σ H Q→wpAny (model X.prog X.w) X.A (isTrue e X.env (eval e X.env)) (TP X pins σ Q) X.xe s
noncomputable def PW (X : Cx) (e : Expr) (t : TT) : Prop :=
  ∀ (whole : Sem Value) (pins : List (Addr × Obj)) (s : Shared) (σ : St) (H : Hp) (Q : Bool→Hp→Prop),Inv X pins σ H s→t σ H Q→wpAny (model X.prog X.w) X.A (isTrue e X.env whole) (TP X pins σ Q) X.xe s
theorem PW.pt {X : Cx} {e : Expr} {t : TT} (h : PW X e t) : PT X e t := h _
noncomputable def PA (X : Cx) (es : List Expr) (t : TA) : Prop :=
  ∀ (pos : Pos) (pins : List (Addr × Obj)) (s : Shared) (σ : St) (H : Hp) (Q : List V→Hp→Prop),Inv X pins σ H s→t σ H Q→wpAny (model X.prog X.w) X.A (spliced (backTo pos (starEach es X.env))) (AP X pins σ Q) X.xe s
noncomputable def PS (X : Cx) (st : Stmt) (t : TS) : Prop :=
  ∀ (pins : List (Addr × Obj)) (s : Shared) (σ : St) (H : Hp) (D : Ends),Inv X pins σ H s→t D σ H→wpAny (model X.prog X.w) X.A (exec st X.env) (SP X pins D) X.xe s
noncomputable def PSs (X : Cx) (st : List Stmt) (t : TS) : Prop :=
  ∀ (pins : List (Addr × Obj)) (s : Shared) (σ : St) (H : Hp) (D : Ends),Inv X pins σ H s→t D σ H→wpAny (model X.prog X.w) X.A (execs st X.env) (SP X pins D) X.xe s
theorem thn {α : Type} {t : Sem α} {Q Q' : α→Shared→Prop} {M : Model} {A : Around} {E : Value→Shared→Prop} {s : Shared} (h : wpAny M A t Q E s) (hQ : ∀ a s,Q a s→Q' a s) : wpAny M A t Q' E s := wpAny_mono h hQ fun _ _ x => x
end L2
namespace L2
open PySem PySem.Spec PyProof.Rows
section
variable {X : Cx}
noncomputable def tVar (i : Nat) : TE := fun σ H Q => ∃ v,σ[i]? = some (some v)∧Q v H
noncomputable def tC (v : V) : TE := fun _ H Q => Q v H
theorem zb2 {i : Nat} {x : Str} {pos : Pos} (hN : X.N[i]? = some x) (hv : Vis X.env.scope x) (hd : (x == ("__debug__" : Str)) = false := by decide) (hcd : (x == ("__classdict__" : Str)) = false := by decide) : PE X (.Name x pos) (tVar i) := by
  intro pins s σ H Q I h
  obtain ⟨v,e,h⟩ := h
  obtain ⟨m,hn,hl⟩ := I.loc
  obtain ⟨u,r,l⟩ := hl i x v hN e hv
  have fin : EP X pins σ Q u s := ⟨v,H,I,r,h⟩
  rcases l with ⟨hk,hm⟩ | ⟨hk,c,hc,hcell⟩
  · exact wpAny_Name (wpAny_loadName_local I.ok.kind hk hn hm fin) hd
  · rcases hk with hk | hk
    · exact wpAny_Name (wpAny_loadName_cell I.ok.kind hk hc hcell fin) hd
    · exact wpAny_Name (wpAny_loadName_free I.ok.kind hk hc hcell fin hcd) hd
theorem zkP {i j pos} : PE X (.Constant (.int i) j pos) (tC (.int i)) := fun _ _ _ H _ I h => wpAny_Constant_int ⟨.int i,H,I.tok _,⟨_,rfl⟩,h⟩
theorem zmk {b j pos} : PE X (.Constant (.bool b) j pos) (tC (.bl b)) := fun _ _ _ H _ I h => Constant_bool ⟨.bl b,H,I,rfl,h⟩
theorem zkN {j pos} : PE X (.Constant .none j pos) (tC .non) := fun _ _ _ H _ I h => Constant_none ⟨.non,H,I,rfl,h⟩
theorem zkK {x j pos} : PE X (.Constant (.str x) j pos) (tC (.str x)) := fun _ _ _ H _ I h => Calls.Constant_str ⟨.str x,H,I.tok _,⟨_,rfl⟩,h⟩
noncomputable def Gl (X : Cx) (x : Str) : Prop := X.env.kindOf x = some .globalImplicit
theorem zcv {E : Value→Shared→Prop} {pins : List (Addr × Obj)} {s : Shared} {σ : St} {H : Hp} {x : Str} {u : Value} {pos : Pos} {Q : Value→Shared→Prop} (I : Inv X pins σ H s) (hg : Gl X x) (hm : X.mg x = some u) (h : Q u s)
    (hd : (x == ("__debug__" : Str)) = false := by decide) : wpAny (model X.prog X.w) X.A (eval (.Name x pos) X.env) Q E s :=
  Calls.Name_function_global I.ok.kind hg (Calls.loadGlobal_global (by rw [I.ok.glob]; exact I.mod.glob.keeps I.bk) hm h) hd
theorem zd6 {E : Value→Shared→Prop} {pins : List (Addr × Obj)} {s : Shared} {σ : St} {H : Hp} {x : Str} {u : Value} {pos : Pos} {Q : Value→Shared→Prop} (I : Inv X pins σ H s) (hg : Gl X x) (hm : X.mg x = none) (hv : bootBuiltins x = some u) (h : Q u s)
    (hn : x≠"__name__" := by decide) (hd : (x == ("__debug__" : Str)) = false := by decide) : wpAny (model X.prog X.w) X.A (eval (.Name x pos) X.env) Q E s := by
  obtain ⟨mb,h1,h2⟩ := I.mod.blt
  exact Calls.Name_function_global I.ok.kind hg (Calls.loadGlobal_builtin (by rw [I.ok.glob]; exact I.mod.glob.keeps I.bk) hm (by rw [I.ok.blt]; exact h1.keeps I.bk) ((h2 x hn).trans hv) h) hd
theorem zeD {x : Str} {v : V} {u : Value} {pos : Pos} (hg : Gl X x) (hm : X.mg x = some u) (r : RelV v u) (hd : (x == ("__debug__" : Str)) = false := by decide) : PE X (.Name x pos) (tC v) :=
  fun _ _ _ H _ I h => zcv I hg hm ⟨v,H,I,r,h⟩ hd
theorem zf4 {x : Str} {v : V} {u : Value} {pos : Pos} (hg : Gl X x) (hm : X.mg x = none) (hv : bootBuiltins x = some u) (r : RelV v u) (hn : x≠"__name__" := by decide) (hd : (x == ("__debug__" : Str)) = false := by decide) : PE X (.Name x pos) (tC v) :=
  fun _ _ _ H _ I h => zd6 I hg hm hv ⟨v,H,I,r,h⟩ hn hd
variable {a b : Expr} {ta tb : TE} {pos : Pos}
noncomputable def tB (t : TE) : TT := fun σ H Q => t σ H fun x H1 => ∃ c,x = .bl c∧Q c H1
variable {tA tB' : TT} {rest : List Expr}
noncomputable def tAnd (t u : TT) : TT := fun σ H Q => t σ H fun c H1 => if c = true then u σ H1 Q else Q false H1
noncomputable def tOr (t u : TT) : TT := fun σ H Q => t σ H fun c H1 => if c = true then Q true H1 else u σ H1 Q
noncomputable def tNot (t : TT) : TT := fun σ H Q => t σ H fun c H1 => Q (! c) H1
theorem ziZ (ha : PT X a tA) : PW X (.BoolOp .And [a] pos) tA := by
  intro wh pins s σ H Q I h
  refine isTrue_and (thn (ha pins s σ H Q I h) fun c s1 e => ?_)
  cases c with
  | true => exact isTrue_and_nil e
  | false => exact e
theorem zkx (ha : PT X a tA) : PW X (.BoolOp .Or [a] pos) tA := by
  intro wh pins s σ H Q I h
  refine isTrue_or (thn (ha pins s σ H Q I h) fun c s1 e => ?_)
  cases c with
  | false => exact isTrue_or_nil e
  | true => exact e
theorem zky (ha : PT X a tA) (hb : PW X (.BoolOp .And (b::rest) pos) tB') : PW X (.BoolOp .And (a::b::rest) pos) (tAnd tA tB') := by
  intro wh pins s σ H Q I h
  refine isTrue_and (thn (ha pins s σ H _ I h) fun c s1 ⟨H1,I1,q1⟩ => ?_)
  cases c with
  | true => exact hb wh pins s1 σ H1 Q I1 q1
  | false => exact ⟨H1,I1,q1⟩
theorem zmd (ha : PT X a tA) (hb : PW X (.BoolOp .Or (b::rest) pos) tB') : PW X (.BoolOp .Or (a::b::rest) pos) (tOr tA tB') := by
  intro wh pins s σ H Q I h
  refine isTrue_or (thn (ha pins s σ H _ I h) fun c s1 ⟨H1,I1,q1⟩ => ?_)
  cases c with
  | true => exact ⟨H1,I1,q1⟩
  | false => exact hb wh pins s1 σ H1 Q I1 q1
theorem zkz (ha : PT X a tA) : PT X (.UnaryOp .Not a pos) (tNot tA) := by
  intro pins s σ H Q I h
  exact isTrue_not (ha pins s σ H (fun c H1 => Q (! c) H1) I h)
noncomputable def zl1 (ta tb : TE) : TE := fun σ H Q => ta σ H fun x H1 => ∃ c,x = .bl c∧if c = true then tb σ H1 Q else Q (.bl false) H1
noncomputable def zlY (ta : TE) : TE := fun σ H Q => ta σ H fun x H1 => ∃ c,x = .bl c∧Q (.bl (! c)) H1
theorem zkL {op} {t : TE} (h : PE X a t) : PE X (.BoolOp op [a] pos) t := fun pins s σ H Q I hw => BoolOp_one (h pins s σ H Q I hw)
theorem zkR (ha : PE X a ta) (hb : PE X (.BoolOp .And (b::rest) pos) tb) : PE X (.BoolOp .And (a::b::rest) pos) (zl1 ta tb) := by
  intro pins s σ H Q I h
  refine BoolOp_and (thn (ha pins s σ H _ I h) fun v s1 ⟨x,H1,I1,r1,q1⟩ => ?_)
  obtain ⟨c,rfl,q1⟩ := q1
  cases r1
  refine wpAny_truthy_bool ?_
  cases c with
  | true => exact hb pins s1 σ H1 Q I1 q1
  | false => exact ⟨.bl false,H1,I1,rfl,q1⟩
theorem zkM (ha : PE X a ta) : PE X (.UnaryOp .Not a pos) (zlY ta) := by
  intro pins s σ H Q I h
  refine UnaryOp_ (thn (ha pins s σ H _ I h) fun v s1 ⟨x,H1,I1,r1,q1⟩ => ?_)
  obtain ⟨c,rfl,q1⟩ := q1
  cases r1
  exact not_of (wpAny_truthy_bool ⟨.bl (! c),H1,I1,rfl,q1⟩)
end
end L2
namespace L2
open PySem PySem.Spec PyProof.Rows
noncomputable def SqL (K : PySem.W.Frag) (H : Hp) (a : Addr) (xs : List V) : Prop :=
  Rd H a (.lst xs) ∨
    ∃ (o : Obj) (its : Array Value) (n : Nat),K.lookup a = some o∧o.cls = .type "list"∧o.dict = none∧o.data = .seq its n∧its.size≤sizeLine∧Vals xs its.toList
noncomputable def SqT (K : PySem.W.Frag) (H : Hp) (a : Addr) (xs : List V) : Prop :=
  Rd H a (.tup xs) ∨
    ∃ (o : Obj) (its : Array Value) (n : Nat),K.lookup a = some o∧o.cls = .type "tuple"∧o.data = .seq its n∧its.size≤sizeLine∧Vals xs its.toList
noncomputable def absV : Value→Option V
  | .none => some .non
  | .bool b => some (.bl b)
  | .int i _ => some (.int i)
  | .str x _ => some (.str x)
  | .bytes b _ => some (.byt b)
  | .float b _ => some (.flt b)
  | .ref a => some (.ref a)
  | .type n => some (.ty n)
  | _ => none
theorem RelV.abs {x : V} {u : Value} (r : RelV x u) : absV u = some x := by
  cases x with
  | non => cases r; rfl
  | bl _ => cases r; rfl
  | int _ => obtain ⟨t,rfl⟩ := r; rfl
  | str _ => obtain ⟨t,rfl⟩ := r; rfl
  | byt _ => obtain ⟨t,rfl⟩ := r; rfl
  | flt _ => obtain ⟨t,rfl⟩ := r; rfl
  | ref _ => cases r; rfl
  | ty _ => cases r; rfl
theorem RelV.inj {x y : V} {u : Value} (r : RelV x u) (q : RelV y u) : x = y := Option.some.inj (r.abs.symm.trans q.abs)
theorem Vals.inj {xs ys : List V} {us : List Value} (h : Vals xs us) (h' : Vals ys us) : xs = ys := by
  induction h generalizing ys with
  | nil => cases h'; rfl
  | cons r t ih =>
    cases h' with
    | cons r' t' => rw [r.inj r',ih t']
section
variable {X : Cx} {pins : List (Addr × Obj)} {σ : St} {H : Hp} {s : Shared} {a : Addr} {xs ys : List V}
theorem SqL.of {K : PySem.W.Frag} (h : H a = some (.lst xs)) : SqL K H a xs := .inl (.inl h)
theorem SqT.of {K : PySem.W.Frag} (h : H a = some (.tup xs)) : SqT K H a xs := .inl (.inl h)
theorem Inv.list (I : Inv X pins σ H s) (h : SqL X.K H a xs) : ∃ its : List Value,Vals xs its∧PlainL s.heap a its.toArray∧xs.length≤sizeLine := by
  rcases h with h | ⟨o,its,n,hk,hc,hd,hs,hz,r⟩
  · obtain ⟨z,its,n,r,e⟩ := h.ok I.hok
    exact ⟨its,r,⟨_,n,e,rfl,rfl,rfl⟩,z⟩
  · refine ⟨its.toList,r,⟨o,n,I.kIn a o hk,hc,hd,by simpa using hs⟩,?_⟩
    have e := r.length
    simp only [Array.length_toList] at e
    omega
theorem Inv.tuple (I : Inv X pins σ H s) (h : SqT X.K H a xs) : ∃ its : List Value,Vals xs its∧IsTup s.heap a its.toArray∧xs.length≤sizeLine := by
  rcases h with h | ⟨o,its,n,hk,hc,hs,hz,r⟩
  · obtain ⟨z,its,r,p,_⟩ := h.ok I.hok
    exact ⟨its,r,p,z⟩
  · refine ⟨its.toList,r,⟨o,I.kIn a o hk,hc,n,by simpa using hs⟩,?_⟩
    have e := r.length
    simp only [Array.length_toList] at e
    omega
theorem Inv.list_inj (I : Inv X pins σ H s) (h : SqL X.K H a xs) (h' : SqL X.K H a ys) : xs = ys := by
  obtain ⟨its,r,⟨o,n,e,_,_,d⟩,_⟩ := I.list h
  obtain ⟨its',r',⟨o',n',e',_,_,d'⟩,_⟩ := I.list h'
  rw [e] at e'; cases e'
  rw [d] at d'
  injection d' with d1 _
  have : its = its' := by simpa using congrArg Array.toList d1
  subst this
  exact r.inj r'
theorem Inv.tuple_inj (I : Inv X pins σ H s) (h : SqT X.K H a xs) (h' : SqT X.K H a ys) : xs = ys := by
  obtain ⟨its,r,⟨o,e,_,n,d⟩,_⟩ := I.tuple h
  obtain ⟨its',r',⟨o',e',_,n',d'⟩,_⟩ := I.tuple h'
  rw [e] at e'; cases e'
  rw [d] at d'
  injection d' with d1 _
  have : its = its' := by simpa using congrArg Array.toList d1
  subst this
  exact r.inj r'
end
noncomputable abbrev Cx.wish (X : Cx) (E : Value→Shared→Prop) : Cx := { X with xe := E }
noncomputable abbrev Cx.nox (X : Cx) : Cx := X.wish fun _ _ => False
theorem Cx.Ok.wish {X : Cx} (ok : X.Ok) (E : Value→Shared→Prop) : (X.wish E).Ok :=
  ⟨ok.mod,ok.kind,ok.glob,ok.blt,ok.above,ok.inj,ok.has,ok.cab,ok.hd,ok.frames,ok.stk,ok.exf,ok.bs,ok.bsz,ok.noex,ok.exfs,ok.funs,ok.frf⟩
theorem Cx.Ok.unwish {X : Cx} {E : Value→Shared→Prop} (ok : (X.wish E).Ok) : X.Ok :=
  ⟨ok.mod,ok.kind,ok.glob,ok.blt,ok.above,ok.inj,ok.has,ok.cab,ok.hd,ok.frames,ok.stk,ok.exf,ok.bs,ok.bsz,ok.noex,ok.exfs,ok.funs,ok.frf⟩
section
variable {X : Cx} {pins : List (Addr × Obj)} {σ : St} {H : Hp} {s : Shared} {E : Value → Shared → Prop}
theorem Inv.wish (I : Inv X pins σ H s) (E : Value→Shared→Prop) : Inv (X.wish E) pins σ H s := ⟨I.ok.wish E,I.os,I.bare,I.base,I.loc,I.cell,I.free,I.freeC,I.pin,I.hok,I.len⟩
theorem Inv.unwish (I : Inv (X.wish E) pins σ H s) : Inv X pins σ H s := ⟨I.ok.unwish,I.os,I.bare,I.base,I.loc,I.cell,I.free,I.freeC,I.pin,I.hok,I.len⟩
theorem SP.unwish {D : Ends} {f : Flow} {s' : Shared} (h : SP (X.wish E) pins D f s') : SP X pins D f s' := by
  cases f with
  | next => obtain ⟨σ',H',I,q⟩ := h; exact ⟨σ',H',I.unwish,q⟩
  | brk => obtain ⟨σ',H',I,q⟩ := h; exact ⟨σ',H',I.unwish,q⟩
  | cont => obtain ⟨σ',H',I,q⟩ := h; exact ⟨σ',H',I.unwish,q⟩
  | ret u => obtain ⟨v,σ',H',I,r,q⟩ := h; exact ⟨v,σ',H',I.unwish,r,q⟩
theorem PE.nox {e : Expr} {t : TE} (h : PE X.nox e t) : PE X e t := fun pins s σ H Q I hw =>
  wpAny_mono (h pins s σ H Q (I.wish _) hw) (fun _ _ ⟨v,H',I',r,q⟩ => ⟨v,H',I'.unwish,r,q⟩) fun _ _ z => False.elim z
theorem PT.nox {e : Expr} {t : TT} (h : PT X.nox e t) : PT X e t := fun pins s σ H Q I hw =>
  wpAny_mono (h pins s σ H Q (I.wish _) hw) (fun _ _ ⟨H',I',q⟩ => ⟨H',I'.unwish,q⟩) fun _ _ z => False.elim z
theorem PSs.nox {st : List Stmt} {t : TS} (h : PSs X.nox st t) : PSs X st t := fun pins s σ H D I hw =>
  wpAny_mono (h pins s σ H D (I.wish _) hw) (fun _ _ q => q.unwish) fun _ _ z => False.elim z
end
section
variable {X : Cx} {st : Stmt} {rest : List Stmt} {t u : TS} {e : Expr} {te : TE} {pos : Pos}
noncomputable def zlZ : TS := fun D σ H => D.nx σ H
noncomputable def tSeq (t u : TS) : TS := fun D σ H => t { D with nx := u D } σ H
theorem zi3 : PSs X [] zlZ := fun _ _ σ H _ I h => wpAny_execs_nil ⟨σ,H,I,h⟩
theorem zeZ (h1 : PS X st t) (h2 : PSs X rest u) : PSs X (st::rest) (tSeq t u) := by
  intro pins s σ H D I h
  refine wpAny_execs_cons (thn (h1 pins s σ H { D with nx := u D } I h) fun f s1 q => ?_)
  cases f with
  | next =>
    obtain ⟨σ',H',I',q⟩ := q
    exact h2 pins s1 σ' H' D I' q
  | ret v => exact q
  | brk => exact q
  | cont => exact q
theorem zi2 (h1 : PS X st t) : PSs X [st] t := by
  intro pins s σ H D I h
  refine wpAny_execs_cons (thn (h1 pins s σ H D I h) fun f s1 q => ?_)
  cases f with
  | next => exact wpAny_execs_nil q
  | ret v => exact q
  | brk => exact q
  | cont => exact q
theorem Inv.quiet {pins : List (Addr × Obj)} {σ : St} {H : Hp} {s : Shared} (I : Inv X pins σ H s) : interactive X.env = false := by simp [interactive,I.ok.kind]
noncomputable def zj8 (te : TE) : TS := fun D σ H => te σ H fun _ H1 => D.nx σ H1
theorem zeC (he : PE X e te) (hs : swapsWith e none pos.line X.env = pure false := by rfl) : PS X (.Expr e pos) (zj8 te) := by
  intro pins s σ H D I h
  exact wpAny_Expr_any (thn (he pins s σ H _ I h) fun v s1 ⟨x,H1,I1,r1,q1⟩ => ⟨σ,H1,I1,q1⟩) I.quiet hs
noncomputable def tRet (te : TE) : TS := fun D σ H => te σ H D.rt
theorem zin (he : PE X e te) : PS X (.Return (some e) pos) (tRet te) := by
  intro pins s σ H D I h
  exact wpAny_Return_some (thn (he pins s σ H _ I h) fun v s1 ⟨x,H1,I1,r1,q1⟩ => ⟨x,σ,H1,I1,r1,q1⟩)
noncomputable def tIfS (c : TT) (t u : TS) : TS := fun D σ H => c σ H fun b H1 => if b = true then t D σ H1 else u D σ H1
theorem zmf {c : Expr} {a b : List Stmt} {tc : TT} (hc : PT X c tc) (ha : PSs X a t) (hb : PSs X b u) : PS X (.If c a b pos) (tIfS tc t u) := by
  intro pins s σ H D I h
  refine wpAny_If (thn (hc pins s σ H _ I h) fun d s1 ⟨H1,I1,q1⟩ => ?_)
  cases d with
  | true => exact ha pins s1 σ H1 D I1 q1
  | false => exact hb pins s1 σ H1 D I1 q1
noncomputable def zj7 : TS := fun _ _ _ => False
theorem zhm : PS X st zj7 := fun _ _ _ _ _ _ h => h.elim
end
noncomputable abbrev TG := V→St→Hp→(St→Hp→Prop)→Prop
noncomputable abbrev TGs := List V→St→Hp→(St→Hp→Prop)→Prop
noncomputable def PG (X : Cx) (target : Expr) (t : TG) : Prop :=
  ∀ (pins : List (Addr × Obj)) (s : Shared) (σ : St) (H : Hp) (v : V) (u : Value) (Q : St→Hp→Prop),Inv X pins σ H s→RelV v u→t v σ H Q →
    wpAny (model X.prog X.w) X.A (assign target X.env u) (fun _ s' => ∃ σ' H',Inv X pins σ' H' s'∧Q σ' H') X.xe s
noncomputable def PGs (X : Cx) (ts : List Expr) (t : TGs) : Prop :=
  ∀ (pins : List (Addr × Obj)) (s : Shared) (σ : St) (H : Hp) (vs : List V) (us : List Value) (Q : St→Hp→Prop),Inv X pins σ H s→Vals vs us→t vs σ H Q →
    wpAny (model X.prog X.w) X.A (assignInOrder ((assignEach ts X.env).map (·.2)) us) (fun _ s' => ∃ σ' H',Inv X pins σ' H' s'∧Q σ' H') X.xe s
noncomputable abbrev TSet := V→V→V→Hp→(Hp→Prop)→Prop
noncomputable def PSet (X : Cx) (t : TSet) : Prop :=
  ∀ (pins : List (Addr × Obj)) (s : Shared) (σ : St) (H : Hp) (o i v : V) (ov iv u : Value) (Q : Hp→Prop),Inv X pins σ H s→RelV o ov→RelV i iv→RelV v u→t o i v H Q →
    wpAny (model X.prog X.w) X.A (setItem ov iv u) (fun _ s' => ∃ H',Inv X pins σ H' s'∧Q H') X.xe s
section
variable {X : Cx} {pos : Pos}
noncomputable def zlx (i : Nat) : TG := fun v σ H Q => Q (σ.set i (some v)) H
theorem zi7 {i : Nat} {x : Str} (hN : X.N.Nodup) (hi : X.N[i]? = some x) (hx : Loc X.env.scope x) (hf : X.fn x = true∨X.env.scope.names.lookup x = some .local := by first | exact .inl rfl | exact .inr rfl | assumption) : PG X (.Name x pos) (zlx i) := by
  intro pins s σ H v u Q I r h
  exact wpAny_assign_Name (zcP I hN hi hx r (fun s' I' => ⟨_,H,I',h⟩) hf)
noncomputable def gNil : TGs := fun vs σ H Q => vs = []∧Q σ H
noncomputable def zmy (t : TG) (u : TGs) : TGs := fun vs σ H Q => ∃ v r,vs = v::r∧t v σ H fun σ' H' => u r σ' H' Q
theorem zi6 : PGs X [] gNil := by
  intro pins s σ H vs us Q I r h
  obtain ⟨e,h⟩ := h
  subst e
  cases r
  exact assignInOrder_nil ⟨σ,H,I,h⟩
theorem zhr {e : Expr} {es : List Expr} {t : TG} {u : TGs} (h1 : PG X e t) (h2 : PGs X es u)
    (hs : (assignEach (e::es) X.env).map (·.2) = assign e X.env::(assignEach es X.env).map (·.2) := by rfl) : PGs X (e::es) (zmy t u) := by
  intro pins s σ H vs us Q I r h
  obtain ⟨v,vr,e1,h⟩ := h
  subst e1
  cases r with
  | cons r rr =>
    rw [hs]
    refine assignInOrder_cons (thn (h1 pins s σ H _ _ _ I r h) fun _ s1 ⟨σ1,H1,I1,q1⟩ => ?_)
    exact h2 pins s1 σ1 H1 _ _ Q I1 rr q1
noncomputable def gTup (K : PySem.W.Frag) (n : Nat) (t : TGs) : TG := fun v σ H Q => ∃ a xs,v = .ref a∧SqT K H a xs∧xs.length = n∧t xs σ H Q
theorem zkG {es : List Expr} {k : Nat} {t : TGs} {n : Nat} (hc : X.calm = true) (h : PGs X es t)
    (hn : (assignEach es X.env).length = n := by rfl) (hst : (assignEach es X.env).findIdx? (·.1) = none := by rfl) : PG X (.Tuple es k pos) (gTup X.K n t) := by
  intro pins s σ H v u Q I r hw
  obtain ⟨a,xs,e1,hq,hl,hw⟩ := hw
  subst e1
  cases r
  obtain ⟨its,rv,ht,hz⟩ := I.tuple hq
  refine assign_Tuple_tuple (I.ok.hd hc) ht (by simp [hn,← hl,rv.length]) hst fun h' hx => ?_
  have I1 : Inv X pins σ H { s with heap := h' } := I.kept (t' := s.toks) fun b o e => hx b o (Nat.ne_of_lt (Heap.lt_size e)) e
  exact h pins _ σ H xs _ Q I1 (by simpa using rv) hw
noncomputable def gSub (to ti : TE) (t : TSet) : TG := fun v σ H Q => to σ H fun o H1 => ti σ H1 fun i H2 => t o i v H2 fun H3 => Q σ H3
theorem zkH {o i : Expr} {to ti : TE} {t : TSet} (ho : PE X o to) (hi : PE X i ti) (hs : PSet X t)
    (ha : ∀ v,assign (.Subscript o i pos) X.env v = (do
      let ov ← holding [v] (eval o X.env)
      let iv ← holding [v,ov] (eval i X.env)
      standAt pos
      holding [v,ov,iv] (setItem ov iv v)
      release [v,ov,iv] []) := by intro _; rfl) : PG X (.Subscript o i pos) (gSub to ti t) := by
  intro pins s σ H v u Q I r h
  rw [ha]
  refine wpAny_bind (wpAny_holding (thn (ho pins s σ H _ I h) fun ov s1 ⟨x,H1,I1,r1,q1⟩ => ?_))
  refine wpAny_bind (wpAny_holding (thn (hi pins s1 σ H1 _ I1 q1) fun iv s2 ⟨y,H2,I2,r2,q2⟩ => ?_))
  refine wpAny_bind (wpAny_standAt (wpAny_bind (wpAny_holding (thn (hs pins s2 σ H2 x y v ov iv u _ I2 r1 r2 r q2) fun _ s3 ⟨H3,I3,q3⟩ => ?_))))
  exact wpAny_release ⟨σ,H3,I3,q3⟩
noncomputable def tAsg (te : TE) (g : TG) : TS := fun D σ H => te σ H fun x H1 => g x σ H1 D.nx
theorem zkA {tg e : Expr} {te : TE} {g : TG} (he : PE X e te) (hg : PG X tg g) (hs : swapsWithSole [tg] e pos.line X.env = pure false := by rfl) (hw : swappedStores [tg] e X.env = pure none := by rfl)
    (h1 : (assignEach [tg] X.env).map (·.2) = [assign tg X.env] := by rfl) : PS X (.Assign [tg] e pos) (tAsg te g) := by
  intro pins s σ H D I h
  refine wpAny_Assign_stores (thn (he pins s σ H _ I h) fun v s1 ⟨x,H1,I1,r1,q1⟩ => ?_) hs hw
  rw [h1]
  exact thn (hg pins s1 σ H1 x v _ I1 r1 q1) fun _ s2 q => q
theorem zim {i : Nat} {x : Str} {e : Expr} {te : TE} {pos' : Pos} (hN : X.N.Nodup) (hi : X.N[i]? = some x) (hx : Loc X.env.scope x) (he : PE X e te) (hs : swapsWith e (some (.Name x pos')) pos.line X.env = pure false := by rfl) (hf : X.fn x = true∨X.env.scope.names.lookup x = some .local := by first | exact .inl rfl | exact .inr rfl | assumption) :
    PS X (.Assign [.Name x pos'] e pos) (tAsg te (zlx i)) := by
  intro pins s σ H D I h
  refine wpAny_Assign_Name (thn (he pins s σ H _ I h) fun v s1 ⟨y,H1,I1,r1,q1⟩ => ?_) hs
  exact zcP I1 hN hi hx r1 (fun s2 I2 => ⟨_,H1,I2,q1⟩) hf
end
section
variable {X : Cx} {pos : Pos}
end
structure It where
  go : Nat→Hp→Prop
  yld : Nat→Hp→V→Hp→Prop
  stop : Nat→Hp→Prop
noncomputable def FpOk (X : Cx) (pins : List (Addr × Obj)) (H : Hp) (b : Addr) : Prop :=
  H b = none∧b≠X.env.locals∧b∉X.fs∧(b∈X.ex∨X.s₀.heap.objs.size≤b)∧(∀ x c,X.env.cells.lookup x = some c→c≠b)∧∀ p∈X.pn++pins,p.1≠b
theorem Inv.fpOk {X : Cx} {pins : List (Addr × Obj)} {σ : St} {H H' : Hp} {s : Shared} {b : Addr} (I : Inv X pins σ H s) (hb : s.heap.objs.size≤b) (hn : H' b = none) : FpOk X pins H' b := by
  refine ⟨hn,Nat.ne_of_gt (Nat.lt_of_lt_of_le I.lt hb),I.nofs hb,.inr (Nat.le_trans I.sz hb),fun x c e z => ?_,fun p hp z => ?_⟩
  · obtain ⟨v,q⟩ := I.cell x c e
    exact absurd (Nat.lt_of_lt_of_le q.lt (by rw [z]; exact hb)) (Nat.lt_irrefl _)
  · exact absurd (Nat.lt_of_lt_of_le (Heap.lt_size (I.pin p hp).1) (by rw [z]; exact hb)) (Nat.lt_irrefl _)
structure Turn (P : Program) (w : World) (K : PySem.W.Frag) (tg : Expr) (J : It) (fp : List Addr) (it : Addr) (tn : Nat→Heap→Prop) : Prop where
  mem : it∈fp
  obj : ∀ i h,tn i h→∀ b∈fp,∃ o,h.get? b = some o∧∀ v,o.data≠.cell v
  keep : ∀ i h h',tn i h→(∀ b∈fp,∀ o,h.get? b = some o→h'.get? b = some o)→tn i h'
  item : ∀ (X : Cx),X.prog = P→X.w = w→X.K = K→X.calm = true→∀ (i : Nat) (pins : List (Addr × Obj)) (s : Shared) (σ : St) (H : Hp) (E : Value→Shared→Prop),Inv X pins σ H s→(∀ b∈fp,FpOk X pins H b)→tn i s.heap→J.go i H →
    wpAny (model P w) X.A (pyNext (.ref it)) (fun r s1 => ∃ u,r = some u ∧
      wpAny (model P w) X.A (letOwnedTupleGo tg (.ref it) u) (fun _ s2 => ∃ x H',Inv X pins σ H' s2∧RelV x u∧J.yld i H x H'∧tn (i + 1) s2.heap∧∀ b∈fp,H' b = none) E s1) E s
  done : ∀ (X : Cx),X.prog = P→X.w = w→X.K = K→X.calm = true→∀ (i : Nat) (pins : List (Addr × Obj)) (s : Shared) (σ : St) (H : Hp) (E : Value→Shared→Prop),Inv X pins σ H s→(∀ b∈fp,FpOk X pins H b)→tn i s.heap→J.stop i H →
    wpAny (model P w) X.A (pyNext (.ref it)) (fun r s1 => r = none∧Inv X pins σ H s1) E s
  self : ∀ (A : Around) (i : Nat) (s : Shared) (Q : Value→Shared→Prop) (E : Value→Shared→Prop),tn i s.heap→Q (.ref it) s→wpAny (model P w) A (pyIter (.ref it)) Q E s
noncomputable abbrev TI := St→Hp→(It→Hp→Prop)→Prop
noncomputable def PIE (X : Cx) (pins : List (Addr × Obj)) (σ : St) (tg : Expr) (R : It→Hp→Prop) (itv : Value) (s2 : Shared) : Prop :=
  ∃ (it : Addr) (fp : List Addr) (tn : Nat→Heap→Prop) (J : It) (H' : Hp),itv = .ref it∧Inv X pins σ H' s2∧Turn X.prog X.w X.K tg J fp it tn∧tn 0 s2.heap∧(∀ b∈fp,FpOk X pins H' b)∧R J H'
noncomputable def PI (X : Cx) (tg iter : Expr) (wi : TI) : Prop :=
  ∀ (pins : List (Addr × Obj)) (s : Shared) (σ : St) (H : Hp) (R : It→Hp→Prop),Inv X pins σ H s→wi σ H R →
    wpAny (model X.prog X.w) X.A (eval iter X.env) (fun v s1 => wpAny (model X.prog X.w) X.A (pyIter v) (PIE X pins σ tg R) X.xe s1) X.xe s
theorem zjD {M : Model} {A : Around} {E : Value→Shared→Prop} {s : Shared} {tg : Expr} {it : Addr} {u : Value} {o : Obj} {n : String} {vs : Array Value} {Q : Unit→Shared→Prop} (ho : s.heap.get? it = some o) (hc : o.cls = .type n) (hd : o.data = .fields vs)
    (hn : ["enumerate","zip","dict_itemiterator","dict_reverseitemiterator","odict_iterator","itertools.zip_longest","itertools.pairwise"].contains n = false) (hQ : Q () s) : wpAny M A (letOwnedTupleGo tg (.ref it) u) Q E s := by
  unfold letOwnedTupleGo
  cases tg <;> first
    | exact wpAny_pure hQ
    | (cases u <;> first
        | exact wpAny_pure hQ
        | (refine wpAny_bind (wpAny_load ho ?_)
           rw [hc,hd]
           show wpAny M A (if (["enumerate","zip","dict_itemiterator","dict_reverseitemiterator","odict_iterator","itertools.zip_longest","itertools.pairwise"].contains n && vs[0]? == some (rawInt _)) = true then _ else _) Q E s
           rw [if_neg (by intro h; rw [hn,Bool.false_and] at h; cases h)]
           exact wpAny_pure hQ))
noncomputable def Itl (K : PySem.W.Frag) (a : Addr) : It :=
  ⟨fun i H => ∃ xs x,SqL K H a xs∧xs[i]? = some x,fun i H x H' => H' = H∧∀ xs,SqL K H a xs→xs[i]? = some x,fun i H => ∃ xs,SqL K H a xs∧xs.length≤i⟩
noncomputable def Itt (K : PySem.W.Frag) (a : Addr) : It :=
  ⟨fun i H => ∃ xs x,SqT K H a xs∧xs[i]? = some x,fun i H x H' => H' = H∧∀ xs,SqT K H a xs→xs[i]? = some x,fun i H => ∃ xs,SqT K H a xs∧xs.length≤i⟩
noncomputable def Itr (lo : Int) (n : Nat) : It := ⟨fun i _ => i < n,fun i H x H' => H' = H∧x = .int (lo + i),fun i _ => n≤i⟩
theorem zfL {P : Program} {w : World} {K : PySem.W.Frag} {tg : Expr} (a it : Addr) : Turn P w K tg (Itl K a) [it] it (fun i h => h.IsListIter it a i) where
  mem := by simp
  obj := fun i h st b hb => by
    have e : b = it := by simpa using hb
    subst e
    obtain ⟨o,e,c,d⟩ := st
    exact ⟨o,e,fun v z => by rw [d] at z; cases z⟩
  keep := fun i h h' st k => st.at fun o e => k it (by simp) o e
  item := by
    intro X hP hw hK hc i pins s σ H E I hf st hg
    subst hP hw hK
    obtain ⟨xs,x,hq,hx⟩ := hg
    obtain ⟨its,rv,p,hz⟩ := I.list hq
    obtain ⟨u,hu,ru⟩ := rv.get hx
    obtain ⟨f0,f1,f2,f3,f4,f5⟩ := hf it (by simp)
    refine wpAny_pyNext_list_item st p.isList (x := u) (by simpa using hu) fun h' st' sb => ?_
    have I1 : Inv X pins σ H { s with heap := h' } := I.turned (t' := s.toks) (fun b o hb e => (sb.2 b hb).trans e) f0 f1 f3 f4 f5
    obtain ⟨o,e,c,d⟩ := id st'
    exact ⟨u,rfl,zjD (s := { s with heap := h' }) e c d (by decide) ⟨x,H,I1,ru,⟨rfl,fun ys hy => by rw [I.list_inj hy hq]; exact hx⟩,st',fun b hb => (hf b hb).1⟩⟩
  done := by
    intro X hP hw hK hc i pins s σ H E I hf st hg
    subst hP hw hK
    obtain ⟨xs,hq,hx⟩ := hg
    obtain ⟨its,rv,p,hz⟩ := I.list hq
    obtain ⟨f0,f1,f2,f3,f4,f5⟩ := hf it (by simp)
    have hl := rv.length
    exact wpAny_pyNext_list_end (I.ok.hd hc) st p.isList (by simp; omega) fun h' eb => ⟨rfl,I.turned (t' := s.toks) (fun b o hb e => eb b o hb e) f0 f1 f3 f4 f5⟩
  self := fun _ _ _ _ _ st h => wpAny_pyIter_listiter st h
theorem zfo {P : Program} {w : World} {K : PySem.W.Frag} {tg : Expr} (a it : Addr) : Turn P w K tg (Itt K a) [it] it (fun i h => h.IsTupleIter it a i) where
  mem := by simp
  obj := fun i h st b hb => by
    have e : b = it := by simpa using hb
    subst e
    obtain ⟨o,e,c,d⟩ := st
    exact ⟨o,e,fun v z => by rw [d] at z; cases z⟩
  keep := fun i h h' st k => st.at fun o e => k it (by simp) o e
  item := by
    intro X hP hw hK hc i pins s σ H E I hf st hg
    subst hP hw hK
    obtain ⟨xs,x,hq,hx⟩ := hg
    obtain ⟨its,rv,p,hz⟩ := I.tuple hq
    obtain ⟨u,hu,ru⟩ := rv.get hx
    obtain ⟨f0,f1,f2,f3,f4,f5⟩ := hf it (by simp)
    refine wpAny_pyNext_tuple_item st (show s.heap.IsTuple a its.toArray from p) (x := u) (by simpa using hu) fun h' st' sb => ?_
    have I1 : Inv X pins σ H { s with heap := h' } := I.turned (t' := s.toks) (fun b o hb e => (sb.2 b hb).trans e) f0 f1 f3 f4 f5
    obtain ⟨o,e,c,d⟩ := id st'
    exact ⟨u,rfl,zjD (s := { s with heap := h' }) e c d (by decide) ⟨x,H,I1,ru,⟨rfl,fun ys hy => by rw [I.tuple_inj hy hq]; exact hx⟩,st',fun b hb => (hf b hb).1⟩⟩
  done := by
    intro X hP hw hK hc i pins s σ H E I hf st hg
    subst hP hw hK
    obtain ⟨xs,hq,hx⟩ := hg
    obtain ⟨its,rv,p,hz⟩ := I.tuple hq
    obtain ⟨f0,f1,f2,f3,f4,f5⟩ := hf it (by simp)
    have hl := rv.length
    exact wpAny_pyNext_tuple_end (I.ok.hd hc) st (show s.heap.IsTuple a its.toArray from p) (by simp; omega) fun h' eb => ⟨rfl,I.turned (t' := s.toks) (fun b o hb e => eb b o hb e) f0 f1 f3 f4 f5⟩
  self := fun _ _ _ _ _ st h => wpAny_pyIter_tupleiter st h
theorem zfp {P : Program} {w : World} {K : PySem.W.Frag} {tg : Expr} (it : Addr) (lo : Int) (n : Nat) : Turn P w K tg (Itr lo n) [it] it (fun i h => IsRangeIter h it (lo + (i : Nat) * 1) ((n : Int) - (i : Nat)) 1) where
  mem := by simp
  obj := fun i h st b hb => by
    have e : b = it := by simpa using hb
    subst e
    exact ⟨_,st,fun v z => by
      have z' : Data.fields _ = Data.cell v := z
      cases z'⟩
  keep := fun i h h' st k => k it (by simp) _ st
  item := by
    intro X hP hw hK hc i pins s σ H E I hf st hg
    subst hP hw hK
    obtain ⟨f0,f1,f2,f3,f4,f5⟩ := hf it (by simp)
    have W := Walks.range (prog := X.prog) (w := X.w) (I.ok.hd hc) it lo 1 n
    refine W.item i s _ _ hg st fun v h' tk hv st' kk => ?_
    obtain ⟨t,rfl⟩ := hv
    have I1 : Inv X pins σ H { s with heap := h',toks := tk } := I.turned (fun b o hb e => kk b o (by simpa using hb) e) f0 f1 f3 f4 f5
    refine ⟨_,rfl,zjD (s := { s with heap := h',toks := tk }) (n := "range_iterator") st' rfl rfl (by decide) ⟨.int (lo + i),H,I1,⟨t,?_⟩,⟨rfl,rfl⟩,st',fun b hb => (hf b hb).1⟩⟩
    rw [Int.mul_one]
  done := by
    intro X hP hw hK hc i pins s σ H E I hf st hg
    subst hP hw hK
    obtain ⟨f0,f1,f2,f3,f4,f5⟩ := hf it (by simp)
    exact wpAny_pyNext_range_end (I.ok.hd hc) st (by have : n≤i := hg; omega) fun h' eb => ⟨rfl,I.turned (t' := s.toks) (fun b o hb e => eb b o hb e) f0 f1 f3 f4 f5⟩
  self := fun _ _ _ _ _ st h => wpAny_pyIter_rangeiter st h
end L2
namespace L2
open PySem PySem.Spec PyProof.Rows
section
variable {X : Cx} {tg : Expr}
theorem zhe {pins : List (Addr × Obj)} {σ : St} {H : Hp} {s : Shared} {R : It→Hp→Prop} {E : Value→Shared→Prop} {lo hi : Int} {t u v : Tok} {tk : Nat} (I : Inv X pins σ H s) (h1 : -(2 ^ 62)≤lo) (h2 : lo < 2 ^ 62) (h3 : -(2 ^ 62)≤hi) (h4 : hi < 2 ^ 62)
    (q : R (Itr lo (hi - lo).toNat) H) : wpAny (model X.prog X.w) X.A (pyIter (.ref s.heap.objs.size)) (PIE X pins σ tg R) E { s with heap := s.heap.push { cls := .type "range",data := .fields #[.int lo t,.int hi u,.int 1 v] },toks := tk } := by
  refine wpAny_pyIter_range (IsRange.new ..) (small_one h1 h2 h3 h4) ?_
  have I1 : Inv X pins σ H { s with heap := s.heap.push { cls := .type "range",data := .fields #[.int lo t,.int hi u,.int 1 v] },toks := tk } := I.kept fun b o e => Heap.get?_push_of_some _ e
  refine ⟨(s.heap.push { cls := .type "range",data := .fields #[.int lo t,.int hi u,.int 1 v] }).objs.size,[(s.heap.push { cls := .type "range",data := .fields #[.int lo t,.int hi u,.int 1 v] }).objs.size],_,_,H,rfl,
    I1.kept (t' := tk) fun b o e => Heap.get?_push_of_some _ e,zfp _ lo (hi - lo).toNat,?_,fun b hb => ?_,q⟩
  · have e1 : lo + ((0 : Nat) : Int) * 1 = lo := by simp
    have e2 : (((hi - lo).toNat : Nat) : Int) - ((0 : Nat) : Int) = Builtin.Range.rangeSize lo hi 1 := by rw [rangeSize_one]; split <;> omega
    show IsRangeIter _ _ (lo + ((0 : Nat) : Int) * 1) ((((hi - lo).toNat : Nat) : Int) - ((0 : Nat) : Int)) 1
    rw [e1,e2]
    exact Heap.get?_push_size _ rfl
  · have e : b = (s.heap.push { cls := .type "range",data := .fields #[.int lo t,.int hi u,.int 1 v] }).objs.size := by simpa using hb
    subst e
    exact I1.fpOk (Nat.le_refl _) (I1.hok.fresh (Nat.le_refl _))
noncomputable def zmx (ta : TA) : TI := fun σ H R => ta σ H fun vs H1 => ∃ j : Int,vs = [.int j]∧-(2 ^ 62)≤j∧j < 2 ^ 62∧R (Itr 0 j.toNat) H1
theorem zf2 {a : Expr} {ta : TA} {p pos : Pos} (hg : Gl X "range") (hm : X.mg "range" = none) (ha : PA X [a] ta) (hs : starEach [a] X.env = [(false,eval a X.env)] := by rfl) : PI X tg (.Call (.Name "range" p) [a] [] pos) (zmx ta) := by
  intro pins s σ H R I h
  refine Call_ (zd6 I hg hm boot_range (PyProof.Rows.callWith_type1 (thn (ha pos pins s σ H _ I h) fun us s1 ⟨vs,H1,I1,r1,q1⟩ => ?_) hs rfl))
  obtain ⟨j,e,q1,q2,q⟩ := q1
  subst e
  cases r1 with
  | cons r rr =>
    cases rr
    obtain ⟨t,rfl⟩ := r
    exact call_range_1 (zhe I1 (by omega) (by omega) q1 q2 (by simpa using q))
noncomputable def tFor (wi : TI) (g : TG) (tb : TS) : TS := fun D σ H => wi σ H fun J H1 => ∃ W : Nat→Nat→St→Hp→Prop,(∃ m,W 0 m σ H1)∧∀ i m σ H,W i m σ H →
  (J.stop i H∧D.nx σ H)∨(J.go i H∧∃ N : St→Hp→Prop,(∀ σ' H',N σ' H'→∃ m',m' < m∧W (i + 1) m' σ' H')∧∀ x H',J.yld i H x H'→g x σ H' fun σ2 H2 => tb { D with nx := N,ct := N,bk := D.nx } σ2 H2)
noncomputable def zdZ (fp : List Addr) (h : Heap) : List (Addr × Obj) := fp.filterMap fun b => (h.get? b).map fun o => (b,o)
theorem zbS {fp : List Addr} {h : Heap} {b : Addr} {o : Obj} (hb : b∈fp) (e : h.get? b = some o) : (b,o)∈zdZ fp h := List.mem_filterMap.mpr ⟨b,hb,by rw [e]; rfl⟩
theorem zgb {fp : List Addr} {h : Heap} {p : Addr × Obj} (hp : p∈zdZ fp h) : p.1∈fp∧h.get? p.1 = some p.2 := by
  obtain ⟨b,hb,e⟩ := List.mem_filterMap.mp hp
  cases q : h.get? b with
  | none => rw [q] at e; cases e
  | some o =>
    rw [q] at e
    have e' : (b,o) = p := Option.some.inj e
    subst e'
    exact ⟨hb,q⟩
theorem Inv.pinned {pins : List (Addr × Obj)} {σ : St} {H : Hp} {s : Shared} {fp : List Addr} (I : Inv X pins σ H s) (hf : ∀ b∈fp,FpOk X pins H b) (ho : ∀ b∈fp,∃ o,s.heap.get? b = some o∧∀ v,o.data≠.cell v) : Inv X (pins++zdZ fp s.heap) σ H s :=
  I.pins_of fun p hp => (List.mem_append.mp hp).elim (fun z => I.pin p (List.mem_append_right _ z)) fun z => by
    obtain ⟨hb,e⟩ := zgb z
    obtain ⟨f0,f1,f2,_⟩ := hf p.1 hb
    obtain ⟨o,e',d⟩ := ho p.1 hb
    rw [e] at e'; cases e'
    exact ⟨e,f0,f1,f2,d⟩
theorem Inv.unpinned {pins pl : List (Addr × Obj)} {σ : St} {H : Hp} {s : Shared} (I : Inv X (pins++pl) σ H s) : Inv X pins σ H s := I.pins_of fun p hp => I.pin p (List.mem_append_right _ (List.mem_append_left _ hp))
theorem zio {iter : Expr} {body : List Stmt} {wi : TI} {g : TG} {tb : TS} {pos : Pos} (hp : PassesOwn (model X.prog X.w) X.A X.env X.xe) (hc : X.calm = true) (hi : PI X tg iter wi) (hg : PG X tg g) (hb : PSs X body tb)
    (hs : ∀ x,foldedSetIterable iter X.env x = pure x := by intro _; rfl) : PS X (.For tg iter body [] pos) (tFor wi g tb) := by
  intro pins s σ H D I h
  refine wpAny_For (thn (hi pins s σ H _ I h) fun v s1 h1 => thn h1 fun itv s2 h2 => ?_) hs
  obtain ⟨it,fp,tn,J,H2,e,I2,T,st2,f2,W,⟨m0,w0⟩,turn⟩ := h2
  subst e
  have stat : ∀ {H' : Hp},(∀ b∈fp,H' b = none)→∀ b∈fp,FpOk X pins H' b := fun hn b hb => ⟨hn b hb,(f2 b hb).2⟩
  refine codeAny_forLoop_any (fun n s' => ∃ i σ' H',Inv X pins σ' H' s'∧tn i s'.heap∧(∀ b∈fp,H' b = none)∧W i n σ' H') ?_ m0 ⟨0,σ,H2,I2,st2,fun b hb => (f2 b hb).1,w0⟩
  rintro n s3 ⟨i,σ3,H3,I3,st3,fr3,w3⟩
  rcases turn i n σ3 H3 w3 with ⟨stop,qn⟩ | ⟨go,N,hN,step⟩
  · refine wpAny_passesOwn hp (thn (T.done X rfl rfl rfl hc i pins s3 σ3 H3 X.xe I3 (stat fr3) st3 stop) fun r s4 ⟨hr,I4⟩ => ?_)
    subst hr
    exact wpAny_execs_nil ⟨σ3,H3,I4,qn⟩
  · refine wpAny_passesOwn hp (thn (T.item X rfl rfl rfl hc i pins s3 σ3 H3 X.xe I3 (stat fr3) st3 go) fun r s4 ⟨u,hr,h4⟩ => ?_)
    subst hr
    refine wpAny_passesOwn hp (thn h4 fun _ s5 ⟨x,H5,I5,r5,y5,st5,fr5⟩ => ?_)
    have I5' := I5.pinned (stat fr5) (T.obj _ _ st5)
    refine wpAny_passesOwn hp (thn (hg _ s5 σ3 H5 x u _ I5' r5 (step x H5 y5)) fun _ s6 ⟨σ6,H6,I6,q6⟩ => ?_)
    refine wpAny_passesOwn hp (thn (hb _ s6 σ6 H6 _ I6 q6) fun f s7 q7 => ?_)
    have again : ∀ {σ7 : St} {H7 : Hp},Inv X (pins++zdZ fp s5.heap) σ7 H7 s7→N σ7 H7→∃ m,m < n∧∃ i σ' H',Inv X pins σ' H' s7∧tn i s7.heap∧(∀ b∈fp,H' b = none)∧W i m σ' H' := fun {σ7 H7} I7 n7 => by
      obtain ⟨m',hm,w7⟩ := hN σ7 H7 n7
      refine ⟨m',hm,i + 1,σ7,H7,I7.unpinned,T.keep _ _ _ st5 fun b hb o e => (I7.pin (b,o) (List.mem_append_right _ (List.mem_append_right _ (zbS hb e)))).1,fun b hb => ?_,w7⟩
      obtain ⟨o,e,d⟩ := T.obj _ _ st5 b hb
      exact (I7.pin (b,o) (List.mem_append_right _ (List.mem_append_right _ (zbS hb e)))).2.1
    cases f with
    | next => obtain ⟨σ7,H7,I7,n7⟩ := q7; exact again I7 n7
    | cont => obtain ⟨σ7,H7,I7,n7⟩ := q7; exact again I7 n7
    | brk => obtain ⟨σ7,H7,I7,q7⟩ := q7; exact ⟨σ7,H7,I7.unpinned,q7⟩
    | ret v => obtain ⟨x7,σ7,H7,I7,r7,q7⟩ := q7; exact ⟨x7,σ7,H7,I7.unpinned,r7,q7⟩
end
end L2
namespace L2
open PySem PySem.Spec PyProof.Rows
noncomputable abbrev R2 := V→V→Hp→VK→Prop
noncomputable def OpR (X : Cx) (f : Value→Value→Sem Value) (r : R2) : Prop :=
  ∀ (pins : List (Addr × Obj)) (s : Shared) (σ : St) (H : Hp) (x y : V) (v u : Value) (Q : VK),Inv X pins σ H s→RelV x v→RelV y u→r x y H Q →
    wpAny (model X.prog X.w) X.A (f v u) (EP X pins σ Q) X.xe s
noncomputable def UnR (X : Cx) (f : Value→Sem Value) (r : V→Hp→VK→Prop) : Prop :=
  ∀ (pins : List (Addr × Obj)) (s : Shared) (σ : St) (H : Hp) (x : V) (v : Value) (Q : VK),Inv X pins σ H s→RelV x v→r x H Q →
    wpAny (model X.prog X.w) X.A (f v) (EP X pins σ Q) X.xe s
noncomputable def zbR (X : Cx) (f : Value) (r : List V→Hp→VK→Prop) : Prop :=
  ∀ (pins : List (Addr × Obj)) (s : Shared) (σ : St) (H : Hp) (xs : List V) (us : List Value) (Q : VK),Inv X pins σ H s→Vals xs us→r xs H Q →
    wpAny (model X.prog X.w) X.A (call f us) (EP X pins σ Q) X.xe s
noncomputable def TruR (X : Cx) (r : V→Hp→(Bool→Hp→Prop)→Prop) : Prop :=
  ∀ (pins : List (Addr × Obj)) (s : Shared) (σ : St) (H : Hp) (x : V) (v : Value) (Q : Bool→Hp→Prop),Inv X pins σ H s→RelV x v→r x H Q →
    wpAny (model X.prog X.w) X.A (truthy v) (TP X pins σ Q) X.xe s
noncomputable def tOp (r : R2) (ta tb : TE) : TE := fun σ H Q => ta σ H fun x H1 => tb σ H1 fun y H2 => r x y H2 Q
noncomputable def tUn (r : V→Hp→VK→Prop) (ta : TE) : TE := fun σ H Q => ta σ H fun x H1 => r x H1 Q
noncomputable def rI (C : Int→Int→Prop) (g : Int→Int→V) : R2 := fun x y H Q => ∃ i j,x = .int i∧y = .int j∧C i j∧Q (g i j) H
noncomputable def rI0 (g : Int→Int→V) : R2 := fun x y H Q => ∃ i j,x = .int i∧y = .int j∧Q (g i j) H
noncomputable def rU (g : Int→V) : V→Hp→VK→Prop := fun x H Q => ∃ i,x = .int i∧Q (g i) H
section
variable {X : Cx} {a b c : Expr} {ta tb tc : TE} {pos : Pos}
theorem binT (ha : PE X a ta) (hb : PE X b tb) {pins : List (Addr × Obj)} {s : Shared} {σ : St} {H : Hp} {R : V→V→Hp→Prop} (I : Inv X pins σ H s)
    (h : ta σ H fun x H1 => tb σ H1 fun y H2 => R x y H2) {Q : Value→Shared→Prop} {f : Value→Value→Sem Value}
    (hf : ∀ v u s2 x y H2,Inv X pins σ H2 s2→RelV x v→RelV y u→R x y H2→wpAny (model X.prog X.w) X.A (f v u) Q X.xe s2) :
    wpAny (model X.prog X.w) X.A (eval a X.env) (fun v s₁ => wpAny (model X.prog X.w) X.A (eval b X.env) (fun u s₂ => wpAny (model X.prog X.w) X.A (f v u) Q X.xe s₂) X.xe s₁) X.xe s := by
  refine thn (ha pins s σ H _ I h) fun v s1 ⟨x,H1,I1,r1,q1⟩ => ?_
  refine thn (hb pins s1 σ H1 _ I1 q1) fun u s2 ⟨y,H2,I2,r2,q2⟩ => ?_
  exact hf v u s2 x y H2 I2 r1 r2 q2
theorem zmh {op : Operator} {r : R2} (ho : OpR X (binaryOp op) r) (ha : PE X a ta) (hb : PE X b tb) : PE X (.BinOp a op b pos) (tOp r ta tb) := by
  intro pins s σ H Q I h
  exact wpAny_BinOp (binT ha hb I h fun v u s2 x y H2 I2 rx ry q => ho pins s2 σ H2 x y v u Q I2 rx ry q)
theorem zmg {op : UnaryOp} {r : V→Hp→VK→Prop} (ho : UnR X (unaryOp op) r) (ha : PE X a ta) : PE X (.UnaryOp op a pos) (tUn r ta) := by
  intro pins s σ H Q I h
  exact UnaryOp_ (thn (ha pins s σ H _ I h) fun v s1 ⟨x,H1,I1,r1,q1⟩ => ho pins s1 σ H1 x v Q I1 r1 q1)
theorem opI {f : Value→Value→Sem Value} {C : Int→Int→Prop} {g : Int→Int→Int}
    (rule : ∀ (i j : Int) (t u : Tok) (s : Shared) (Q : Value→Shared→Prop) (E : Value→Shared→Prop),C i j→Q (.int (g i j) s.toks) { s with toks := s.toks + 1 }→wpAny (model X.prog X.w) X.A (f (.int i t) (.int j u)) Q E s) :
    OpR X f (rI C fun i j => .int (g i j)) := by
  intro pins s σ H x y v u Q I rx ry h
  obtain ⟨i,j,rfl,rfl,hc,q⟩ := h
  obtain ⟨t,rfl⟩ := rx
  obtain ⟨t',rfl⟩ := ry
  exact rule i j t t' s _ _ hc ⟨.int (g i j),H,I.tok _,⟨_,rfl⟩,q⟩
theorem opI0 {f : Value→Value→Sem Value} {g : Int→Int→Int}
    (rule : ∀ (i j : Int) (t u : Tok) (s : Shared) (Q : Value→Shared→Prop) (E : Value→Shared→Prop),Q (.int (g i j) s.toks) { s with toks := s.toks + 1 }→wpAny (model X.prog X.w) X.A (f (.int i t) (.int j u)) Q E s) :
    OpR X f (rI0 fun i j => .int (g i j)) := by
  intro pins s σ H x y v u Q I rx ry h
  obtain ⟨i,j,rfl,rfl,q⟩ := h
  obtain ⟨t,rfl⟩ := rx
  obtain ⟨t',rfl⟩ := ry
  exact rule i j t t' s _ _ ⟨.int (g i j),H,I.tok _,⟨_,rfl⟩,q⟩
theorem opB0 {f : Value→Value→Sem Value} {g : Int→Int→Bool}
    (rule : ∀ (i j : Int) (t u : Tok) (s : Shared) (Q : Value→Shared→Prop) (E : Value→Shared→Prop),Q (.bool (g i j)) s→wpAny (model X.prog X.w) X.A (f (.int i t) (.int j u)) Q E s) :
    OpR X f (rI0 fun i j => .bl (g i j)) := by
  intro pins s σ H x y v u Q I rx ry h
  obtain ⟨i,j,rfl,rfl,q⟩ := h
  obtain ⟨t,rfl⟩ := rx
  obtain ⟨t',rfl⟩ := ry
  exact rule i j t t' s _ _ ⟨.bl (g i j),H,I,rfl,q⟩
noncomputable def CDiv (i j : Int) : Prop := 0 < j∧j < 1073741824
noncomputable def CPow (i j : Int) : Prop := 0≤j∧j≤1000000∧i.natAbs < 2 ^ 64
noncomputable def CMul (i j : Int) : Prop := (-(2 ^ 64) < i∧i < 2 ^ 64)∨(-(2 ^ 64) < j∧j < 2 ^ 64)
theorem CMul.ok {i j : Int} (h : CMul i j) : IntMulOk i j := by
  rcases h with ⟨h1,h2⟩ | ⟨h1,h2⟩
  · exact .of_left (intBits_le_64 h1 h2)
  · exact .of_right (intBits_le_64 h1 h2)
theorem zk2 : OpR X (binaryOp .Add) (rI0 fun i j => .int (i + j)) := opI0 fun _ _ _ _ _ _ _ q => add_int q
theorem zkT : OpR X (binaryOp .Sub) (rI0 fun i j => .int (i - j)) := opI0 fun _ _ _ _ _ _ _ q => sub_int q
theorem zkV : OpR X (binaryOp .Mult) (rI CMul fun i j => .int (i * j)) := opI fun _ _ _ _ _ _ _ hc q => mul_int q hc.ok
theorem zjf : OpR X (binaryOp .FloorDiv) (rI CDiv fun i j => .int (i / j)) := opI fun i j _ _ _ _ _ hc q => by
  have h1 : (0 : Int) < j := hc.1
  have h2 : j < 1073741824 := hc.2
  exact floordiv_int (by omega) (by rw [Int.fdiv_eq_ediv_of_nonneg i (by omega)]; exact q) (.inl (PyProof.noPylong_small (by omega)))
theorem zkW : OpR X (binaryOp .Mod) (rI (fun _ j => 0 < j) fun i j => .int (i % j)) := opI fun i j _ _ _ _ _ hc q => by
  have h1 : (0 : Int) < j := hc
  exact mod_int' (by omega) (by rw [Int.fmod_eq_emod_of_nonneg i (by omega)]; exact q)
theorem zkU : OpR X (binaryOp .Pow) (rI CPow fun i j => .int (i ^ j.toNat)) := opI fun _ _ _ _ _ _ _ hc q => pow_int_small hc.1 hc.2.1 hc.2.2 q
theorem unI {f : Value→Sem Value} {g : Int→Int}
    (rule : ∀ (i : Int) (t : Tok) (s : Shared) (Q : Value→Shared→Prop) (E : Value→Shared→Prop),Q (.int (g i) s.toks) { s with toks := s.toks + 1 }→wpAny (model X.prog X.w) X.A (f (.int i t)) Q E s) :
    UnR X f (rU fun i => .int (g i)) := by
  intro pins s σ H x v Q I rx h
  obtain ⟨i,rfl,q⟩ := h
  obtain ⟨t,rfl⟩ := rx
  exact rule i t s _ _ ⟨.int (g i),H,I.tok _,⟨_,rfl⟩,q⟩
theorem zj0 : UnR X (unaryOp .USub) (rU fun i => .int (-i)) := unI fun _ _ _ _ _ q => neg_int q
end
noncomputable def scal : V→V→Bool
  | .non,.non => true | .non,.int _ => true | .int _,.non => true | .non,.bl _ => true | .bl _,.non => true | .non,.str _ => true | .str _,.non => true
  | .int _,.int _ => true | .bl _,.bl _ => true | .str _,.str _ => true | .byt _,.byt _ => true
  | .int _,.str _ => true | .str _,.int _ => true | .bl _,.str _ => true | .str _,.bl _ => true
  | _,_ => false
noncomputable def rEq : R2 := fun x y H Q => scal x y = true∧Q (.bl (decide (x = y))) H
noncomputable def rNe : R2 := fun x y H Q => scal x y = true∧Q (.bl (! decide (x = y))) H
theorem zeK {i j : Int} : decide (V.int i = V.int j) = (i == j) := by
  rw [Bool.eq_iff_iff]
  simp
theorem zgJ {i j : Bool} : decide (V.bl i = V.bl j) = (i == j) := by
  rw [Bool.eq_iff_iff]
  simp
theorem zeJ {i j : Str} : decide (V.str i = V.str j) = (i == j) := by
  rw [Bool.eq_iff_iff]
  simp
theorem zgI {i j : Array UInt8} : decide (V.byt i = V.byt j) = (i.toList == j.toList) := by
  rw [Bool.eq_iff_iff]
  cases i
  cases j
  simp
section
variable {X : Cx} {a b c : Expr} {ta tb tc : TE} {pos : Pos}
theorem zas {pins : List (Addr × Obj)} {σ : St} {H : Hp} {s : Shared} {Q : VK} {k k' : Bool} (I : Inv X pins σ H s) (q : Q (.bl k) H) (e : k = k') : EP X pins σ Q (.bool k') s := by
  subst e
  exact ⟨.bl k,H,I,rfl,q⟩
theorem zk1 : OpR X (compareOp .Eq) rEq := by
  intro pins s σ H x y v u Q I rx ry h
  obtain ⟨hs,q⟩ := h
  cases x with
  | non =>
    cases rx
    cases y with
    | non => cases ry; exact PySem.EqNone.eq_none_none (zas I q (by simp))
    | bl j => cases ry; exact PySem.EqNone.eq_none_bool (zas I q (by simp))
    | int j => obtain ⟨t',rfl⟩ := ry; exact PySem.EqNone.eq_none_int (zas I q (by simp))
    | str j => obtain ⟨t',rfl⟩ := ry; exact PySem.EqNone.eq_none_str (zas I q (by simp))
    | _ => exact absurd (show false = true from hs) Bool.false_ne_true
  | bl i =>
    cases rx
    cases y with
    | non => cases ry; exact PySem.EqNone.eq_bool_none (zas I q (by simp))
    | bl j => cases ry; exact eq_bool (zas I q zgJ)
    | str j => obtain ⟨t',rfl⟩ := ry; exact PySem.EqMixed.eq_bool_str (zas I q (by simp))
    | _ => exact absurd (show false = true from hs) Bool.false_ne_true
  | int i =>
    obtain ⟨t,rfl⟩ := rx
    cases y with
    | non => cases ry; exact PySem.EqNone.eq_int_none (zas I q (by simp))
    | int j => obtain ⟨t',rfl⟩ := ry; exact eq_int (zas I q zeK)
    | str j => obtain ⟨t',rfl⟩ := ry; exact PySem.EqMixed.eq_int_str (zas I q (by simp))
    | _ => exact absurd (show false = true from hs) Bool.false_ne_true
  | str i =>
    obtain ⟨t,rfl⟩ := rx
    cases y with
    | non => cases ry; exact PySem.EqNone.eq_str_none (zas I q (by simp))
    | bl j => cases ry; exact PySem.EqMixed.eq_str_bool (zas I q (by simp))
    | int j => obtain ⟨t',rfl⟩ := ry; exact PySem.EqMixed.eq_str_int (zas I q (by simp))
    | str j => obtain ⟨t',rfl⟩ := ry; exact eq_str (zas I q zeJ)
    | _ => exact absurd (show false = true from hs) Bool.false_ne_true
  | byt i =>
    obtain ⟨t,rfl⟩ := rx
    cases y with
    | byt j => obtain ⟨t',rfl⟩ := ry; exact PySem.W.eq_bytes (zas I q zgI)
    | _ => exact absurd (show false = true from hs) Bool.false_ne_true
  | _ => cases y <;> exact absurd (show false = true from hs) Bool.false_ne_true
theorem zml : OpR X (compareOp .NotEq) rNe := by
  intro pins s σ H x y v u Q I rx ry h
  obtain ⟨hs,q⟩ := h
  cases x with
  | non =>
    cases rx
    cases y with
    | non => cases ry; exact PySem.EqNone.ne_none_none (zas I q (by simp))
    | bl j => cases ry; exact PySem.EqNone.ne_none_bool (zas I q (by simp))
    | int j => obtain ⟨t',rfl⟩ := ry; exact PySem.EqNone.ne_none_int (zas I q (by simp))
    | str j => obtain ⟨t',rfl⟩ := ry; exact PySem.EqNone.ne_none_str (zas I q (by simp))
    | _ => exact absurd (show false = true from hs) Bool.false_ne_true
  | bl i =>
    cases rx
    cases y with
    | non => cases ry; exact PySem.EqNone.ne_bool_none (zas I q (by simp))
    | bl j => cases ry; exact ne_bool (zas I q (congrArg not zgJ))
    | str j => obtain ⟨t',rfl⟩ := ry; exact PySem.EqMixed.ne_bool_str (zas I q (by simp))
    | _ => exact absurd (show false = true from hs) Bool.false_ne_true
  | int i =>
    obtain ⟨t,rfl⟩ := rx
    cases y with
    | non => cases ry; exact PySem.EqNone.ne_int_none (zas I q (by simp))
    | int j => obtain ⟨t',rfl⟩ := ry; exact ne_int (zas I q (congrArg not zeK))
    | str j => obtain ⟨t',rfl⟩ := ry; exact PySem.EqMixed.ne_int_str (zas I q (by simp))
    | _ => exact absurd (show false = true from hs) Bool.false_ne_true
  | str i =>
    obtain ⟨t,rfl⟩ := rx
    cases y with
    | non => cases ry; exact PySem.EqNone.ne_str_none (zas I q (by simp))
    | bl j => cases ry; exact PySem.EqMixed.ne_str_bool (zas I q (by simp))
    | int j => obtain ⟨t',rfl⟩ := ry; exact PySem.EqMixed.ne_str_int (zas I q (by simp))
    | str j => obtain ⟨t',rfl⟩ := ry; exact ne_str (zas I q (congrArg not zeJ))
    | _ => exact absurd (show false = true from hs) Bool.false_ne_true
  | byt i =>
    obtain ⟨t,rfl⟩ := rx
    cases y with
    | byt j => obtain ⟨t',rfl⟩ := ry; exact PySem.W.ne_bytes (zas I q (congrArg not zgI))
    | _ => exact absurd (show false = true from hs) Bool.false_ne_true
  | _ => cases y <;> exact absurd (show false = true from hs) Bool.false_ne_true
theorem zhv : OpR X (compareOp .Lt) (rI0 fun i j => .bl (decide (i < j))) := opB0 fun _ _ _ _ _ _ _ q => lt_int q
theorem zkX : OpR X (compareOp .LtE) (rI0 fun i j => .bl (decide (i≤j))) := opB0 fun _ _ _ _ _ _ _ q => le_int q
theorem zmm : OpR X (compareOp .Gt) (rI0 fun i j => .bl (decide (j < i))) := opB0 fun _ _ _ _ _ _ _ q => gt_int q
theorem zf8 : OpR X (compareOp .In) (fun x y H Q => ∃ i j,x = .str i∧y = .str j∧Q (.bl (!(Builtin.Str.occurrences j i 0 j.length 1).isEmpty)) H) := by
  intro pins s σ H x y v u Q I rx ry h
  obtain ⟨i,j,rfl,rfl,q⟩ := h
  obtain ⟨t,rfl⟩ := rx
  obtain ⟨t',rfl⟩ := ry
  exact in_str (zas I q rfl)
theorem zkY : OpR X (compareOp .Is) (fun x y H Q => y = .non∧Q (.bl (decide (x = .non))) H) := by
  intro pins s σ H x y v u Q I rx ry h
  obtain ⟨rfl,q⟩ := h
  cases ry
  refine is_none_gen (zas I q ?_)
  cases x <;> first
    | (cases rx; rfl)
    | (obtain ⟨t,rfl⟩ := rx; rfl)
theorem zje : OpR X (compareOp .IsNot) (fun x y H Q => y = .non∧Q (.bl (! decide (x = .non))) H) := by
  intro pins s σ H x y v u Q I rx ry h
  obtain ⟨rfl,q⟩ := h
  cases ry
  refine isnot_none_gen (zas I q ?_)
  cases x <;> first
    | (cases rx; rfl)
    | (obtain ⟨t,rfl⟩ := rx; rfl)
theorem OpR.or {f : Value→Value→Sem Value} {r r' : R2} (h : OpR X f r) (h' : OpR X f r') : OpR X f (fun x y H Q => r x y H Q∨r' x y H Q) := by
  intro pins s σ H x y v u Q I rx ry q
  rcases q with q | q
  · exact h pins s σ H x y v u Q I rx ry q
  · exact h' pins s σ H x y v u Q I rx ry q
theorem zcE (b : Expr) {op : CmpOp} (h : op≠.In := by decide) (h2 : op≠.NotIn := by decide) : behindInMarks op b = false := by
  have e1 : (op == CmpOp.In) = false := by cases op <;> first | rfl | exact absurd rfl h
  have e2 : (op == CmpOp.NotIn) = false := by cases op <;> first | rfl | exact absurd rfl h2
  cases b <;> simp [behindInMarks,e1,e2]
theorem zi9 {op : CmpOp} {r : R2} (ho : OpR X (compareOp op) r) (ha : PE X a ta) (hb : PE X b tb) (hm : behindInMarks op b = false) : PE X (.Compare a [op] [b] pos) (tOp r ta tb) := by
  intro pins s σ H Q I h
  exact wpAny_Compare1 (binT ha hb I h fun v u s2 x y H2 I2 rx ry q => ho pins s2 σ H2 x y v u Q I2 rx ry q) hm
noncomputable def zj6 (t : TE) : TT := fun σ H Q => t σ H fun x H' => ∃ k,x = .bl k∧Q k H'
theorem zi1 {op : CmpOp} {r : R2} (ho : OpR X (compareOp op) r) (ha : PE X a ta) (hb : PE X b tb) (hm : behindInMarks op b = false) : PT X (.Compare a [op] [b] pos) (zj6 (tOp r ta tb)) := by
  intro pins s σ H Q I h
  refine wpAny_isTrue_Compare1 (thn (ha pins s σ H _ I h) fun v s1 ⟨x,H1,I1,r1,q1⟩ => thn (hb pins s1 σ H1 _ I1 q1) fun u s2 ⟨y,H2,I2,r2,q2⟩ =>
    thn (ho pins s2 σ H2 x y v u _ I2 r1 r2 q2) fun c s3 ⟨z,H3,I3,r3,k,e,q3⟩ => ?_) hm
  subst e
  cases r3
  exact wpAny_truthy_bool ⟨H3,I3,q3⟩
noncomputable def zfM (r r' : R2) (ta tb tc : TE) : TE := fun σ H Q => ta σ H fun x H1 => tb σ H1 fun y H2 => r x y H2 fun z H3 => ∃ k,z = .bl k ∧
  (if k = true then tc σ H3 fun w' H4 => r' y w' H4 Q else Q (.bl false) H3)
theorem zht {op op' : CmpOp} {r r' : R2} (ho : OpR X (compareOp op) r) (ho' : OpR X (compareOp op') r') (ha : PE X a ta) (hb : PE X b tb) (hc : PE X c tc)
    (hm : lastMarks [op,op'] [b,c] = false := by with_unfolding_all rfl) : PE X (.Compare a [op,op'] [b,c] pos) (zfM r r' ta tb tc) := by
  intro pins s σ H Q I h
  refine Compare_chain (thn (ha pins s σ H _ I h) fun v s1 ⟨x,H1,I1,r1,q1⟩ => chain_link (thn (hb pins s1 σ H1 _ I1 q1) fun u s2 ⟨y,H2,I2,r2,q2⟩ =>
    thn (ho pins s2 σ H2 x y v u _ I2 r1 r2 q2) fun d s3 ⟨z,H3,I3,r3,k,e,q3⟩ => ?_)) hm
  subst e
  cases r3
  refine wpAny_truthy_bool ?_
  cases k with
  | false => exact ite_ff ⟨.bl false,H3,I3,rfl,q3⟩
  | true => exact ite_tt (chain_last (thn (hc pins s3 σ H3 _ I3 q3) fun w' s4 ⟨z',H4,I4,r4,q4⟩ => ho' pins s4 σ H4 y z' u w' Q I4 r2 r4 q4))
theorem zhl {op op' : CmpOp} {r r' : R2} (ho : OpR X (compareOp op) r) (ho' : OpR X (compareOp op') r') (ha : PE X a ta) (hb : PE X b tb) (hc : PE X c tc)
    (hm : lastMarks [op,op'] [b,c] = false := by with_unfolding_all rfl) : PT X (.Compare a [op,op'] [b,c] pos) (zj6 (zfM r r' ta tb tc)) := by
  intro pins s σ H Q I h
  refine isTrue_chain (thn (ha pins s σ H _ I h) fun v s1 ⟨x,H1,I1,r1,q1⟩ => test_link (thn (hb pins s1 σ H1 _ I1 q1) fun u s2 ⟨y,H2,I2,r2,q2⟩ =>
    thn (ho pins s2 σ H2 x y v u _ I2 r1 r2 q2) fun d s3 ⟨z,H3,I3,r3,k,e,q3⟩ => ?_)) hm
  subst e
  cases r3
  refine wpAny_truthy_bool ?_
  cases k with
  | false =>
    obtain ⟨k',e',q'⟩ := q3
    cases e'
    exact ite_ff ⟨H3,I3,q'⟩
  | true =>
    refine ite_tt (test_last (thn (hc pins s3 σ H3 _ I3 q3) fun w' s4 ⟨z',H4,I4,r4,q4⟩ => thn (ho' pins s4 σ H4 y z' u w' _ I4 r2 r4 q4) fun d' s5 ⟨z2,H5,I5,r5,k2,e2,q5⟩ => ?_))
    subst e2
    cases r5
    exact wpAny_truthy_bool ⟨H5,I5,q5⟩
noncomputable def TruV (K : PySem.W.Frag) (x : V) (H : Hp) (k : Bool) : Prop :=
  match x with
  | .non => k = false
  | .bl b => k = b
  | .int i => k = (i != 0)
  | .str y => y.length≤sizeLine∧k = ((y.length : Int) != 0)
  | .byt y => y.size≤sizeLine∧k = ((y.size : Int) != 0)
  | .ref p => (∃ xs,SqL K H p xs∧k = ! xs.isEmpty)∨(∃ xs,SqT K H p xs∧k = ! xs.isEmpty)∨∃ kvs,Rd H p (.dK kvs)∧k = ! kvs.isEmpty
  | _ => False
theorem zfB {κ : Type} {kvs : List (κ × V)} {vs : List (κ × Value)} (r : KV kvs vs) : (! vs.isEmpty) = ! kvs.isEmpty := by
  cases r <;> rfl
theorem zdt {xs : List V} {its : List Value} (r : Vals xs its) : (! its.toArray.isEmpty) = ! xs.isEmpty := by
  cases r <;> simp
theorem zds : (sizeLine : Nat) < 2 ^ 63 := by rw [sizeLine_eq]; decide
theorem zj5 : TruR X (fun x H Q => ∃ k,TruV X.K x H k∧Q k H) := by
  intro pins s σ H x v Q I rx h
  obtain ⟨k,e,q⟩ := h
  have hl := zds
  have hs : sizeLine = 16777216 := sizeLine_eq
  cases x with
  | non =>
    cases rx
    have e' : k = false := e
    subst e'
    exact truthy_none ⟨H,I,q⟩
  | bl b =>
    cases rx
    have e' : k = b := e
    subst e'
    exact wpAny_truthy_bool ⟨H,I,q⟩
  | int i =>
    obtain ⟨t,rfl⟩ := rx
    have e' : k = (i != 0) := e
    subst e'
    exact PySem.P.truthy_int ⟨H,I,q⟩
  | str y =>
    obtain ⟨t,rfl⟩ := rx
    obtain ⟨hy,e'⟩ : y.length≤sizeLine∧k = ((y.length : Int) != 0) := e
    subst e'
    exact PySem.P.truthy_str (by omega) ⟨H,I.tok _,q⟩
  | byt y =>
    obtain ⟨t,rfl⟩ := rx
    obtain ⟨hy,e'⟩ : y.size≤sizeLine∧k = ((y.size : Int) != 0) := e
    subst e'
    exact PySem.W.truthy_bytes (by omega) ⟨H,I.tok _,q⟩
  | ref p =>
    cases rx
    have e' : (∃ xs,SqL X.K H p xs∧k = ! xs.isEmpty)∨(∃ xs,SqT X.K H p xs∧k = ! xs.isEmpty)∨∃ kvs,Rd H p (.dK kvs)∧k = ! kvs.isEmpty := e
    rcases e' with ⟨xs,hx,e'⟩ | ⟨xs,hx,e'⟩ | ⟨kvs,hx,e'⟩
    · subst e'
      obtain ⟨its,r,pl,hz⟩ := I.list hx
      have hlen := r.length
      exact wpAny_truthy_list pl.isList (by simp only [List.size_toArray]; omega) ⟨H,I.tok _,by rw [zdt r]; exact q⟩
    · subst e'
      obtain ⟨its,r,pl,hz⟩ := I.tuple hx
      have hlen := r.length
      exact truthy_tuple pl (by simp only [List.size_toArray]; omega) ⟨H,I.tok _,by rw [zdt r]; exact q⟩
    · subst e'
      obtain ⟨hz,hS,vs,r,m⟩ : kvs.length≤sizeLine∧(p == sysModules) = false∧∃ vs,KV kvs vs∧s.heap.DictOf (zaU X.prog X.w) p vs := hx.ok I.hok
      have hlen : kvs.length = vs.length := Paired.length r
      exact wpAny_truthy_dict hS m (by omega) ⟨H,I.tok _,by rw [zfB r]; exact q⟩
  | _ => exact (show False from e).elim
theorem zhk (ha : PE X a ta) (he : ∀ whole,isTrue a X.env whole = (do let v ← whole; standAt a.pos; holding [v] (truthy v))) :
    PT X a (fun σ H Q => ta σ H fun x H' => ∃ k,TruV X.K x H' k∧Q k H') := by
  intro pins s σ H Q I h
  exact isTrue_plain (thn (ha pins s σ H _ I h) fun v s1 ⟨x,H1,I1,r1,q1⟩ => zj5 pins s1 σ H1 x v Q I1 r1 q1) (he _)
theorem zfw : OpR X (binaryOp .Add) (fun x y H Q => ∃ i j,x = .str i∧y = .str j∧i.length + j.length≤sizeLine∧Q (.str (i++j)) H) := by
  intro pins s σ H x y v u Q I rx ry h
  obtain ⟨i,j,rfl,rfl,hz,q⟩ := h
  obtain ⟨t,rfl⟩ := rx
  obtain ⟨t',rfl⟩ := ry
  exact add_str (fun t' tk => ⟨.str (i++j),H,I.tok _,⟨_,rfl⟩,q⟩) hz
theorem zdU {x : V} {us : List Value} (r : Vals [x] us) : ∃ u,us = [u]∧RelV x u := by
  cases r with
  | cons r1 r2 => cases r2; exact ⟨_,rfl,r1⟩
theorem zfJ {x y : V} {us : List Value} (r : Vals [x,y] us) : ∃ u w',us = [u,w']∧RelV x u∧RelV y w' := by
  cases r with
  | cons r1 r2 =>
    cases r2 with
    | cons r3 r4 => cases r4; exact ⟨_,_,rfl,r1,r3⟩
noncomputable def LenV (K : PySem.W.Frag) (x : V) (H : Hp) (n : Nat) : Prop :=
  match x with
  | .str y => y.length≤sizeLine∧n = y.length
  | .byt y => y.size≤sizeLine∧n = y.size
  | .ref p => (∃ xs,SqL K H p xs∧n = xs.length)∨∃ xs,SqT K H p xs∧n = xs.length
  | _ => False
theorem zhY : zbR X (.builtin "len") (fun xs H Q => ∃ x n,xs = [x]∧LenV X.K x H n∧Q (.int n) H) := by
  intro pins s σ H xs us Q I r h
  obtain ⟨x,n,rfl,e,q⟩ := h
  obtain ⟨u,rfl,rx⟩ := zdU r
  have hl := zds
  have hs : sizeLine = 16777216 := sizeLine_eq
  cases x with
  | str y =>
    obtain ⟨t,rfl⟩ := rx
    obtain ⟨hy,e'⟩ : y.length≤sizeLine∧n = y.length := e
    subst e'
    exact len_str (by omega) ⟨.int _,H,I.tok _,⟨_,rfl⟩,q⟩
  | byt y =>
    obtain ⟨t,rfl⟩ := rx
    obtain ⟨hy,e'⟩ : y.size≤sizeLine∧n = y.size := e
    subst e'
    exact PySem.W.len_bytes (by omega) ⟨.int _,H,I.tok _,⟨_,rfl⟩,q⟩
  | ref p =>
    cases rx
    have e' : (∃ xs,SqL X.K H p xs∧n = xs.length)∨∃ xs,SqT X.K H p xs∧n = xs.length := e
    rcases e' with ⟨xs,hx,e'⟩ | ⟨xs,hx,e'⟩
    · subst e'
      obtain ⟨its,r',pl,hz⟩ := I.list hx
      have hlen := r'.length
      exact Calls.call_len_list pl.isList (by simp only [List.size_toArray]; omega) ⟨.int xs.length,H,I.tok _,⟨_,by simp only [List.size_toArray]; rw [hlen]⟩,q⟩
    · subst e'
      obtain ⟨its,r',pl,hz⟩ := I.tuple hx
      have hlen := r'.length
      exact len_tuple pl (by simp only [List.size_toArray]; omega) ⟨.int xs.length,H,I.tok _,⟨_,by simp only [List.size_toArray]; rw [hlen]⟩,q⟩
  | _ => exact (show False from e).elim
end
end L2
namespace L2
open PySem PySem.Spec PyProof.Rows
structure ObjM (h : Heap) (x dx C : Addr) (mA : Str→Option Value) : Prop where
  obj : h.get? x = some (PySem.W.instObj C dx)
  ns : h.Ns1 dx mA
  ne : dx≠x
theorem zgi {h : Heap} {dx : Addr} {mA : Str→Option Value} (n : h.Ns1 dx mA) : ∃ od,h.get? dx = some od∧∀ name,PySem.W.lookIn name od = some (mA name) := by
  obtain ⟨o,es,ep,ho,hd,hk,_,hm⟩ := n
  refine ⟨o,ho,fun name => ?_⟩
  have e := hm name
  unfold nsFind findBy at e
  rw [← Array.find?_toList] at e
  unfold PySem.W.lookIn
  rw [hd]
  dsimp only
  split
  · rename_i y q
    rw [q] at e
    exact congrArg some e
  · rename_i q
    rw [q] at e
    have a : es.toList.any (·.refKey) = false := by
      rw [List.any_eq_false]
      intro y hy
      obtain ⟨z,t,hkey⟩ := hk y (Array.mem_toList_iff.mp hy)
      simp [DictEntry.refKey,hkey]
    have a' : ¬ es.toList.any (·.refKey) = true := by rw [a]; exact Bool.false_ne_true
    rw [if_neg a']
    exact congrArg some e
theorem ObjM.look {h : Heap} {x dx C : Addr} {mA : Str→Option Value} (I : ObjM h x dx C mA) : ∃ od,PySem.W.InstAt h x (PySem.W.instObj C dx) C (some od)∧∀ name,PySem.W.lookIn name od = some (mA name) :=
  let ⟨od,ho,hl⟩ := zgi I.ns
  ⟨od,⟨I.obj,rfl,rfl,ho⟩,hl⟩
section
variable {prog : Program} {w : World} {A : Around} {E : Value → Shared → Prop} {s : Shared} {K : PySem.W.Frag} {x dx C f : Addr} {mA : Str → Option Value} {name : Str} {v : Value}
end
noncomputable def putF (f : Str) (v : V) : List (Str × V)→List (Str × V)
  | [] => [(f,v)]
  | (g,x)::r => if g = f then (g,v)::r else (g,x)::putF f v r
theorem RelO.some_of {v : V} {o : Option Value} (r : RelO (some v) o) : ∃ u,o = some u∧RelV v u := by
  cases o with
  | none => exact (show False from r).elim
  | some u => exact ⟨u,rfl,r⟩
theorem RelO.none_of {o : Option Value} (r : RelO none o) : o = none := by
  cases o with
  | none => rfl
  | some u => exact (show False from r).elim
section
variable {P : Program} {w : World} {H H' : Hp} {h h' : Heap} {a C dx : Addr} {fs fs' : List (Str × V)}
end
structure Cls (K : PySem.W.Frag) (C : Addr) : Prop where
  pg : PySem.W.plainGet K C Str.empty = true
  hd : PySem.W.hasDictIn K C = true
  po : PySem.W.plainOver K C = true
  sa : PySem.W.findIn K (.ref C) "__setattr__" = some (some (.builtin "object.__setattr__"))
theorem Cls.get {K : PySem.W.Frag} {C : Addr} (c : Cls K C) (f : Str) : PySem.W.plainGet K C f = true := c.pg
structure Con (K : PySem.W.Frag) (C : Addr) (f : Str) (v : V) (u : Value) : Prop where
  at_ : PySem.W.findIn K (.ref C) f = some (some u)
  rel : RelV v u
  get : PySem.W.specialIn K u "__get__" = some none
  cp : PySem.W.copiedNames.contains f = false
structure Meth (K : PySem.W.Frag) (C : Addr) (m : Str) (f : Addr) : Prop where
  at_ : PySem.W.findIn K (.ref C) m = some (some (.ref f))
  fn : PySem.W.isFn K (.ref f) = true
  kp : PySem.W.keepIn K (.ref f) = true
section
variable {X : Cx} {pins : List (Addr × Obj)} {σ : St} {H : Hp} {s : Shared} {a C dx : Addr} {fs : List (Str × V)} {f : Str} {v : V} {A : Around} {E : Value → Shared → Prop}
theorem Inv.made (I : Inv X pins σ H s) : Inv X pins σ (upd (upd H s.heap.objs.size (.own (s.heap.objs.size + 1))) (s.heap.objs.size + 1) (.ins C s.heap.objs.size []))
    { s with heap := (s.heap.push PySem.W.emptyDict).push (PySem.W.instObj C s.heap.objs.size) } := by
  have e1 : (s.heap.push PySem.W.emptyDict).get? s.heap.objs.size = some PySem.W.emptyDict := Heap.get?_push_size s.heap rfl
  have e2 : ((s.heap.push PySem.W.emptyDict).push (PySem.W.instObj C s.heap.objs.size)).get? (s.heap.objs.size + 1) = some (PySem.W.instObj C s.heap.objs.size) := by
    have := Heap.get?_push_size (s.heap.push PySem.W.emptyDict) (o := PySem.W.instObj C s.heap.objs.size) rfl
    rwa [Heap.size_push] at this
  have e3 : (s.heap.push PySem.W.emptyDict).Ns s.heap.objs.size (fun _ => none) := ⟨PySem.W.emptyDict,#[],_,e1,rfl,(fun e he => absurd he (by simp)),fun _ => rfl⟩
  have I1 := I.laid (a := s.heap.objs.size) (o := .own (s.heap.objs.size + 1)) (h' := s.heap.push PySem.W.emptyDict) (t' := s.toks) (fun b u q => Heap.get?_push_of_some _ q) (Nat.le_refl _) ⟨_,e1⟩
  refine I1.laid (a := s.heap.objs.size + 1) (o := .ins C s.heap.objs.size []) (t' := s.toks) (fun b u q => Heap.get?_push_of_some _ q) (Nat.le_of_eq (Heap.size_push _ _)) ?_
  have ne : s.heap.objs.size≠s.heap.objs.size + 1 := Nat.ne_of_lt (Nat.lt_succ_self _)
  refine ⟨by rw [zae ne,zag],Nat.zero_le _,ne,e2,fun _ => none,(Heap.Ns1.of_empty e3).at fun o q => Heap.get?_push_of_some _ q,fun _ => True.intro,fun y hy => absurd rfl hy⟩
theorem zjN {prog : Program} {w : World} {env : Env} {e : Expr} {f : Str} {pos : Pos} {s : Shared} {Q : Value→Shared→Prop} (hb : attributeBase e f env (eval e env) = eval e env)
    (h : wpAny (model prog w) A (eval e env) (fun o s₁ => wpAny (model prog w) A (getAttr o f true) Q E s₁) E s) : wpAny (model prog w) A (eval (.Attribute e f pos) env) Q E s :=
  Attribute_any_ h (by rw [arm_eval_Attribute,hb])
end
section
variable {X : Cx} {o e value : Expr} {f : Str} {pos pos' tpos : Pos} {ta tv : TE}
end
section
variable {X : Cx} {pins : List (Addr × Obj)} {σ : St} {H : Hp} {s : Shared} {A : Around} {E : Value → Shared → Prop} {Q : Value → Shared → Prop} {c : Value} {b : Bool}
inductive TyOf (K : PySem.W.Frag) (H : Hp) : V→Value→Prop where
  | non : TyOf K H .non (.type "NoneType")
  | bl (x : Bool) : TyOf K H (.bl x) (.type "bool")
  | int (i : Int) : TyOf K H (.int i) (.type "int")
  | str (x : Str) : TyOf K H (.str x) (.type "str")
  | flt (x : UInt64) : TyOf K H (.flt x) (.type "float")
  | lst {a : Addr} {xs : List V} (e : H a = some (.lst xs)) : TyOf K H (.ref a) (.type "list")
  | frz {a : Addr} {o : Obj} {xs : List V} (e : H a = some (.frz o (.lst xs))) : TyOf K H (.ref a) (.type "list")
  | tup {a : Addr} {xs : List V} (e : H a = some (.tup xs)) : TyOf K H (.ref a) (.type "tuple")
  | dK {a : Addr} {kvs : List (Key × V)} (e : H a = some (.dK kvs)) : TyOf K H (.ref a) (.type "dict")
  | dT {a : Addr} {kvs : List (List Key × V)} (e : H a = some (.dT kvs)) : TyOf K H (.ref a) (.type "dict")
  | ins {a C dx : Addr} {fs : List (Str × V)} (e : H a = some (.ins C dx fs)) (cl : Cls K C) (ha : PySem.W.findIn K (.ref C) "__class__" = some (some (.builtin "object.__class__")))
      (hn : PySem.W.specialIn K (.builtin "object.__class__") "__get__" = some (some (.builtin "getset_descriptor.__get__"))) (htk : PySem.W.takesIn K (.builtin "object.__class__") = some true)
      (hm : PySem.W.mroIn K C (.type "object") = some true) : TyOf K H (.ref a) (.ref C)
end
end L2
namespace L2
open PySem PySem.Spec PyProof.Rows
structure Room (k : Nat) (A : Around) : Prop where
  hd : A.handled = none
  dp : A.depth + 3 * k + 5 < recursionLimit
  un : A.units + 16 * k + 200 < cLine
theorem Room.mono {j k : Nat} {A : Around} (r : Room k A) (h : j≤k) : Room j A := ⟨r.hd,by have := r.dp; omega,by have := r.un; omega⟩
theorem Room.deeper {k : Nat} {A : Around} (r : Room (k + 1) A) (env : Env) : Room k (A.deeper env) :=
  ⟨r.hd,by have := r.dp; show A.depth + 1 + 3 * k + 5 < _; omega,by have := r.un; show A.units + 3 + 16 * k + 200 < _; omega⟩
theorem Room.in1 {k : Nat} {A : Around} (r : Room (k + 1) A) : Room k A.in1 :=
  ⟨r.hd,by have := r.dp; show A.depth + 3 * k + 5 < _; omega,by have := r.un; show A.units + 1 + 16 * k + 200 < _; omega⟩
theorem zfz {A : Around} {C : Addr} {us : List Value} {kw : List (Str × Value)} : (A.under (.builtin "type.__call__" ⟨.ref C::us,kw⟩)).depth = A.depth + 1 := by
  first | rfl | simp [Around.under,Code.weight,Code.isCreation,Code.isGuard,Code.isCaller,Code.frames,Code.isFrame,guardIds]
theorem zfy {A : Around} {C : Addr} {us : List Value} {kw : List (Str × Value)} : (A.under (.builtin "type.__call__" ⟨.ref C::us,kw⟩)).units = A.units + 1 := by
  first | rfl | simp [Around.under,Code.cUnits,Code.frames,Code.isFrame]
theorem Room.make {k : Nat} {A : Around} (r : Room (k + 1) A) (C : Addr) (us : List Value) (kw : List (Str × Value)) : Room k (A.under (.builtin "type.__call__" ⟨.ref C::us,kw⟩)) :=
  ⟨r.hd,by have := r.dp; rw [zfz]; omega,by have := r.un; rw [zfy]; omega⟩
theorem Room.depth {k : Nat} {A : Around} (r : Room k A) : A.depth < recursionLimit := by have := r.dp; omega
theorem Room.units {k : Nat} {A : Around} (r : Room k A) : A.units + 64 < cLine := by have := r.un; omega
noncomputable def tNil : TA := fun _ H Q => Q [] H
noncomputable def ziQ (ta : TE) (tr : TA) : TA := fun σ H Q => ta σ H fun x H1 => tr σ H1 fun xs H2 => Q (x::xs) H2
section
variable {X : Cx} {e : Expr} {es : List Expr} {te : TE} {t : TA} {pos : Pos}
theorem zb3 : PA X [] tNil := fun _ _ _ _ H Q I h => Calls.spliced_nil ⟨[],H,I,.nil,h⟩
theorem zaO (ha : PE X e te) (hr : PA X es t) (hs : starEach (e::es) X.env = (false,eval e X.env)::starEach es X.env := by rfl) : PA X (e::es) (ziQ te t) := by
  intro pos pins s σ H Q I h
  rw [hs]
  show wpAny _ _ (spliced ((false,eval e X.env)::backTo pos (starEach es X.env))) _ _ s
  refine Calls.spliced_cons (thn (ha pins s σ H _ I h) fun u s1 ⟨x,H1,I1,r1,q1⟩ => ?_)
  exact thn (hr pos pins s1 σ H1 _ I1 q1) fun us s2 ⟨xs,H2,I2,r2,q2⟩ => ⟨x::xs,H2,I2,.cons r1 r2,q2⟩
noncomputable def tTup (t : TA) : TE := fun σ H Q => t σ H fun xs H1 => xs.length≤sizeLine∧∀ p,H1 p = none→Q (.ref p) (upd H1 p (.tup xs))
noncomputable def tLst (t : TA) : TE := fun σ H Q => t σ H fun xs H1 => xs.length≤sizeLine∧∀ p,H1 p = none→Q (.ref p) (upd H1 p (.lst xs))
theorem zkJ {x1} (h : PA X es t) : PE X (.Tuple es x1 pos) (tTup t) := by
  intro pins s σ H Q I hq
  refine wpAny_Tuple_spliced (thn (h pos pins s σ H _ I hq) fun us s1 ⟨xs,H1,I1,r,z,q⟩ => ⟨by rw [← r.length]; exact z,?_⟩)
  have hf : H1 s1.heap.objs.size = none := I1.hok.fresh (Nat.le_refl _)
  refine ⟨.ref s1.heap.objs.size,upd H1 s1.heap.objs.size (.tup xs),I1.laid (t' := s1.toks) (fun b u e => Heap.get?_push_of_some _ e) (Nat.le_refl _) ?_,rfl,q _ hf⟩
  exact ⟨z,us,r,⟨_,Heap.get?_push_size _ rfl,rfl,_,rfl⟩,_,Heap.get?_push_size _ rfl,rfl⟩
theorem zkO (h : PA X es t) : PE X (.List es pos) (tLst t) := by
  intro pins s σ H Q I hq
  refine wpAny_List_spliced (thn (h pos pins s σ H _ I hq) fun us s1 ⟨xs,H1,I1,r,z,q⟩ => ⟨by rw [← r.length]; exact z,?_⟩)
  have hf : H1 s1.heap.objs.size = none := I1.hok.fresh (Nat.le_refl _)
  refine ⟨.ref s1.heap.objs.size,upd H1 s1.heap.objs.size (.lst xs),I1.laid (t' := s1.toks) (fun b u e => Heap.get?_push_of_some _ e) (Nat.le_refl _) ?_,rfl,q _ hf⟩
  exact ⟨z,us,0,r,Heap.get?_push_size _ rfl⟩
end
noncomputable abbrev Sp := List V→Hp→VK→XK→Prop
noncomputable abbrev CXT := List Env→Hp→Shared→XK→Value→Shared→Prop
structure Env0 (P : Program) (w : World) (K : PySem.W.Frag) (mg : Str→Option Value) (base : Heap) (A : Around) (outer : List Env) (s : Shared) (H : Hp) : Prop where
  frames : A.frames = some outer
  mod : Mod K mg base
  bs : ∀ b o,base.get? b = some o→s.heap.get? b = some o∧H b = none
  bsz : base.objs.size≤s.heap.objs.size
  funs : s.heap.FunFrames base outer
  frf : ∀ b∈frs outer,H b = none
  hok : HOk P w H s.heap
  bare : AllBare s.gens
noncomputable def CE (outer : List Env) (P : Program) (w : World) (H : Hp) (s : Shared) (Q : VK) (u : Value) (s' : Shared) : Prop :=
  ∃ v H',s'.os = s.os∧AllBare s'.gens∧Un (frs outer) [] H H' s.heap s'.heap∧HOk P w H' s'.heap∧RelV v u∧Q v H'
noncomputable def CR (CX : CXT) (outer : List Env) (P : Program) (w : World) (H : Hp) (s : Shared) (Q : VK) (E : XK) (r : Result) (s' : Shared) : Prop :=
  match r with
  | .ok (.ret u) => CE outer P w H s Q u s'
  | .ok _ => False
  | .error e => CX outer H s E e s'
structure FnOk (P : Program) (w : World) (K : PySem.W.Frag) (mg : Str→Option Value) (base : Heap) (CX : CXT) (k : Nat) (f : Addr) (fd : FuncData) (ps : List Str) (sp : Sp) : Prop where
  len : ∀ vs H Q E,sp vs H Q E→vs.length = ps.length
  run : ∀ (A : Around) (outer : List Env) (s : Shared) (H : Hp) (args : Args) (us : List Value) (vs : List V) (Q : VK) (E : XK),Room k A→Env0 P w K mg base A outer s H→BindsTo s fd args (ps.zip us)→Vals vs us→sp vs H Q E →
    codeAny (model P w) A (.call (.ref f) args) (CR CX outer P w H s Q E) s
theorem FnOk.mono {P : Program} {w : World} {K : PySem.W.Frag} {mg : Str→Option Value} {base : Heap} {CX : CXT} {j k : Nat} {f : Addr} {fd : FuncData} {ps : List Str} {sp : Sp} (F : FnOk P w K mg base CX j f fd ps sp) (h : j≤k) :
    FnOk P w K mg base CX k f fd ps sp := ⟨F.len,fun A outer s H args us vs Q E hr => F.run A outer s H args us vs Q E (hr.mono h)⟩
theorem FnOk.imp {P : Program} {w : World} {K : PySem.W.Frag} {mg : Str→Option Value} {base : Heap} {CX : CXT} {k : Nat} {f : Addr} {fd : FuncData} {ps : List Str} {sp sp' : Sp} (F : FnOk P w K mg base CX k f fd ps sp)
    (h : ∀ vs H Q E,sp' vs H Q E→sp vs H Q E) : FnOk P w K mg base CX k f fd ps sp' :=
  ⟨fun vs H Q E q => F.len vs H Q E (h _ _ _ _ q),fun A outer s H args us vs Q E hr he hb hv hs => F.run A outer s H args us vs Q E hr he hb hv (h _ _ _ _ hs)⟩
theorem Env0.make {P : Program} {w : World} {K : PySem.W.Frag} {mg : Str→Option Value} {base : Heap} {A : Around} {outer : List Env} {s : Shared} {H : Hp} (e : Env0 P w K mg base A outer s H) (C : Addr) (us : List Value) (kw : List (Str × Value)) :
    Env0 P w K mg base (A.under (.builtin "type.__call__" ⟨.ref C::us,kw⟩)) outer s H := ⟨by first | exact e.frames | (simpa [Around.under,Code.envs,Code.isFrame,pushEnvs] using e.frames),e.mod,e.bs,e.bsz,e.funs,e.frf,e.hok,e.bare⟩
theorem Env0.in1 {P : Program} {w : World} {K : PySem.W.Frag} {mg : Str→Option Value} {base : Heap} {A : Around} {outer : List Env} {s : Shared} {H : Hp} (e : Env0 P w K mg base A outer s H) :
    Env0 P w K mg base A.in1 outer s H := ⟨e.frames,e.mod,e.bs,e.bsz,e.funs,e.frf,e.hok,e.bare⟩
section
variable {X : Cx} {pins : List (Addr × Obj)} {σ : St} {H : Hp} {s s' : Shared}
theorem Inv.env0 (I : Inv X pins σ H s) : Env0 X.prog X.w X.K X.mg X.base X.A X.stack s H :=
  ⟨I.ok.frames,I.ok.mod,I.bs,Nat.le_trans I.ok.bsz I.sz,I.stack,I.stkFree,I.hok,I.bare⟩
theorem Inv.after {Q : VK} {u : Value} (I : Inv X pins σ H s) (h : CE X.stack X.prog X.w H s Q u s') : EP X pins σ Q u s' := by
  obtain ⟨v,H',os,bare,un,hok,r,q⟩ := h
  obtain ⟨hh,g,d,t,os'⟩ := s'
  obtain rfl : os' = s.os := os
  exact ⟨v,H',I.call (h' := hh) (g' := g) (d' := d) (t' := t) (ch := []) un hok bare (fun b z => absurd z (by simp)),r,q⟩
end
noncomputable def zl0 (sp : Sp) (dvs : List V) (E : XK) (t : TA) : TE := fun σ H Q => t σ H fun vs H1 => sp (vs++dvs) H1 Q E
noncomputable def zcr (K : PySem.W.Frag) (fd : FuncData) (ps : List Str) (ds : List Value) : Prop :=
  ∀ (s : Shared) (us : List Value),K.In s.heap→(us++ds).length = ps.length→BindsTo s fd ⟨us,[]⟩ (ps.zip (us++ds))
theorem zcr.all {K : PySem.W.Frag} {fd : FuncData} {ps : List Str} (h : ∀ us : List Value,us.length = ps.length→bindArgs fd ⟨us,[]⟩ = pure (ps.zip us)) : zcr K fd ps [] := fun s us _ hl => by
  rw [List.append_nil] at hl ⊢
  exact .of_eq (h us hl)
noncomputable def zg0 (CX : CXT) (X : Cx) (E : XK) : Prop := ∀ (pins : List (Addr × Obj)) (σ : St) (H : Hp) (s : Shared) (e : Value) (s' : Shared),Inv X pins σ H s→CX X.stack H s E e s'→X.xe e s'
section
variable {X : Cx} {CX : CXT} {k : Nat} {f C : Addr} {fd : FuncData} {ps : List Str} {sp : Sp} {dvs : List V} {ds : List Value} {E : XK} {x m : Str} {p pos apos : Pos} {e o : Expr} {es : List Expr} {ta : TE} {t : TA}
theorem zko {pins : List (Addr × Obj)} {σ : St} {H : Hp} {s : Shared} {Q : VK} {us : List Value} {vs : List V} (F : FnOk X.prog X.w X.K X.mg X.base CX k f fd ps sp) (hr : Room k X.A) (hb : zcr X.K fd ps ds) (hd : Vals dvs ds) (hx : zg0 CX X E)
    (I : Inv X pins σ H s) (r : Vals vs us) (h : sp (vs++dvs) H Q E) : wpAny (model X.prog X.w) X.A (call (.ref f) us) (EP X pins σ Q) X.xe s := by
  have r2 : Vals (vs++dvs) (us++ds) := r.append hd
  have hl : (us++ds).length = ps.length := by rw [← r2.length]; exact F.len _ _ _ _ h
  refine wpAny_call (codeAny_mono (F.run X.A X.stack s H ⟨us,[]⟩ (us++ds) (vs++dvs) Q E hr I.env0 (hb s us I.kIn hl) r2 h) fun r s' hq => ?_)
  cases r with
  | error e => exact hx pins σ H s e s' I hq
  | ok fl =>
    cases fl with
    | ret u => exact I.after hq
    | next => exact False.elim hq
    | brk => exact False.elim hq
    | cont => exact False.elim hq
theorem zf3 (F : FnOk X.prog X.w X.K X.mg X.base CX k f fd ps sp) (hr : Room k X.A) (hg : Gl X x) (hm : X.mg x = some (.ref f)) (hk : PySem.W.keepIn X.K (.ref f) = true) (hb : zcr X.K fd ps ds) (hd : Vals dvs ds) (hx : zg0 CX X E)
    (ha : PA X (e::es) t) (hdb : (x == ("__debug__" : Str)) = false := by decide) (he : starEach (e::es) X.env = (false,eval e X.env)::starEach es X.env := by rfl) (hpl : (backTo pos (starEach es X.env)).any (·.1) = false := by rfl) :
    PE X (.Call (.Name x p) (e::es) [] pos) (zl0 sp dvs E t) := by
  intro pins s σ H Q I h
  refine wpAny_Call_Name_kw (zcv I hg hm ?_ hdb)
  refine PySem.W.callWith_K (h₀ := X.base) I.ok.mod.kin hk (thn (ha pos pins s σ H _ I h) fun us s1 ⟨vs,H1,I1,r,q⟩ => ⟨I1.kIn,?_⟩) he hpl
  exact zko F hr hb hd hx I1 r q
structure Mk (K : PySem.W.Frag) (C f : Addr) : Prop where
  makes : PySem.W.makesIn K C = true
  init : PySem.W.findIn K (.ref C) "__init__" = some (some (.ref f))
  fn : PySem.W.isFn K (.ref f) = true
  kp : PySem.W.keepIn K (.ref C) = true
end
section
variable {X : Cx} {CX : CXT} {k : Nat} {f C : Addr} {fd : FuncData} {ps ks : List Str} {sp : Sp} {E : XK} {x m : Str} {p pos apos kpos : Pos} {e o : Expr} {es : List Expr} {kws : List Keyword} {te ta : TE} {t tk : TA} {nm : Option Str}
structure KBinds (K : PySem.W.Frag) (fd : FuncData) (ps ks : List Str) (g : List Value→List Value→List Value) (gV : List V→List V→List V) : Prop where
  to : ∀ (s : Shared) (us ws : List Value),K.In s.heap→(g us ws).length = ps.length→BindsTo s fd ⟨us,ks.zip ws⟩ (ps.zip (g us ws))
  rel : ∀ {vs : List V} {us : List Value} {zs : List V} {ws : List Value},Vals vs us→Vals zs ws→Vals (gV vs zs) (g us ws)
variable {g : List Value → List Value → List Value} {gV : List V → List V → List V}
end
structure FnScope (N P : List Str) (sc : Scope) : Prop where
  kind : sc.kind = .function
  co : sc.isCoroutine = false
  gen : sc.isGenerator = false
  nd : N.Nodup
  pre : N.take P.length = P
  par : ∀ x∈P,sc.names.lookup x = some .local∨sc.names.lookup x = some .cell
  nofree : ∀ y∈sc.names,y.2≠.free
theorem zei {kindOf : Str→Option NameKind} {x : Str} : ∀ {binds : List (Str × Value)} {m : Str→Option Value},(∀ v,(x,v)∉binds)→bindL kindOf binds m x = m x
  | [],_,_ => rfl
  | (n,v)::r,m,h => by
    unfold bindL
    rw [zei fun w hw => h w (List.mem_cons_of_mem _ hw)]
    split
    · have : x≠n := by rintro rfl; exact h v List.mem_cons_self
      simp [this]
    · rfl
theorem zek {kindOf : Str→Option NameKind} {x : Str} : ∀ {binds : List (Str × Value)} {m : Str→Option Value},(∀ v,(x,v)∉binds)→bindC kindOf binds m x = m x
  | [],_,_ => rfl
  | (n,v)::r,m,h => by
    unfold bindC
    rw [zek fun w hw => h w (List.mem_cons_of_mem _ hw)]
    split
    · rfl
    · have : x≠n := by rintro rfl; exact h v List.mem_cons_self
      simp [this]
theorem zej {kindOf : Str→Option NameKind} {x : Str} {v : Value} : ∀ {P : List Str} {vs : List Value} {i : Nat} {m : Str→Option Value},P.Nodup→P[i]? = some x→vs[i]? = some v→kindOf x = some .local →
    bindL kindOf (P.zip vs) m x = some v
  | [],_,_,_,_,h,_,_ => by simp at h
  | _::_,[],_,_,_,_,h,_ => by simp at h
  | p::P,w::vs,0,m,nd,h1,h2,hk => by
    simp at h1 h2; subst h1; subst h2
    show bindL kindOf ((p,w)::P.zip vs) m p = _
    unfold bindL
    rw [zei fun v hv => (List.nodup_cons.mp nd).1 (List.of_mem_zip hv).1,if_pos hk]
    simp
  | p::P,w::vs,i + 1,m,nd,h1,h2,hk => by
    show bindL kindOf ((p,w)::P.zip vs) m x = _
    unfold bindL
    exact zej (i := i) (List.nodup_cons.mp nd).2 (by simpa using h1) (by simpa using h2) hk
theorem zel {kindOf : Str→Option NameKind} {x : Str} {v : Value} : ∀ {P : List Str} {vs : List Value} {i : Nat} {m : Str→Option Value},P.Nodup→P[i]? = some x→vs[i]? = some v→kindOf x≠some .local →
    bindC kindOf (P.zip vs) m x = some v
  | [],_,_,_,_,h,_,_ => by simp at h
  | _::_,[],_,_,_,_,h,_ => by simp at h
  | p::P,w::vs,0,m,nd,h1,h2,hk => by
    simp at h1 h2; subst h1; subst h2
    show bindC kindOf ((p,w)::P.zip vs) m p = _
    unfold bindC
    rw [zek fun v hv => (List.nodup_cons.mp nd).1 (List.of_mem_zip hv).1,if_neg hk]
    simp
  | p::P,w::vs,i + 1,m,nd,h1,h2,hk => by
    show bindC kindOf ((p,w)::P.zip vs) m x = _
    unfold bindC
    exact zel (i := i) (List.nodup_cons.mp nd).2 (by simpa using h1) (by simpa using h2) hk
noncomputable def start (N : List Str) (vs : List V) : St := vs.map some++List.replicate (N.length - vs.length) none
noncomputable def cxOf (CX : CXT) (P : Program) (w : World) (K : PySem.W.Frag) (mg : Str→Option Value) (base : Heap) (N : List Str) (qual : Str) (scope : Scope) (f : Addr) (cd : Value) (A : Around) (outer : List Env) (s : Shared) (H : Hp) (E : XK) : Cx where
  prog := P
  w := w
  K := K
  mg := mg
  base := base
  A := A.deeper (envOfC qual scope s.heap.objs.size f cd)
  N := N
  s₀ := s
  H₀ := H
  env := envOfC qual scope s.heap.objs.size f cd
  outer := outer
  stack := envOfC qual scope s.heap.objs.size f cd::outer
  ex := []
  calm := true
  fn := fun _ => true
  pn := []
  xe := fun e s' => wpAny (model P w) (A.deeper (envOfC qual scope s.heap.objs.size f cd)) (leaving (envOfC qual scope s.heap.objs.size f cd) e) (fun _ s'' => CX outer H s E e s'') (fun e' s'' => CX outer H s E e' s'') s'
theorem zfh {sc : Scope} {n : Nat} {x : Str} (h : sc.names.lookup x = some .cell) : ∃ c,(cellsFrom n sc.names []).lookup x = some c := by
  have q := PySem.W.cellsFrom_some sc.names n [] (.inl h)
  exact Option.isSome_iff_exists.mp q
theorem zgr {CX : CXT} {P : Program} {w : World} {K : PySem.W.Frag} {mg : Str→Option Value} {base : Heap} {N ps : List Str} {qual : Str} {scope : Scope} {f : Addr} {cd : Value} {A : Around} {outer : List Env} {s s1 : Shared} {H : Hp} {E : XK} {us : List Value} {vs : List V}
    (S : FnScope N ps scope) (hd : A.handled = none) (e0 : Env0 P w K mg base A outer s H) (hl : vs.length = ps.length) (r : Vals vs us)
    (x : InCallC s s.heap.objs.size (bindL (envOfC qual scope s.heap.objs.size f cd).kindOf (ps.zip us) fun _ => none) (cellsFrom (s.heap.objs.size + 1) scope.names []) (bindC (envOfC qual scope s.heap.objs.size f cd).kindOf (ps.zip us) fun _ => none) s1) :
    Inv (cxOf CX P w K mg base N qual scope f cd A outer s H E) [] (start N vs) H s1 := by
  have hpl : ps.length≤N.length := by have := congrArg List.length S.pre; rw [List.length_take] at this; omega
  obtain ⟨h1,tk,rfl,hk⟩ := x.done
  have noA : ∀ b : Addr,b∉(cxOf CX P w K mg base N qual scope f cd A outer s H E).ex := fun b z => absurd (show b∈([] : List Addr) from z) (by simp)
  refine ⟨⟨e0.mod,S.kind,rfl,rfl,Nat.le_refl _,fun y z c h1 h2 => ?_,fun y hy => ?_,fun y c _ h => ?_,fun _ => hd,Around.frames_deeper e0.frames,.inr ⟨rfl,rfl⟩,fun b z => absurd z (noA b),e0.bs,e0.bsz,fun b _ _ => noA b,fun b z => absurd z (noA b),e0.funs,e0.frf⟩,
    rfl,e0.bare,Un.kept hk,⟨_,x.toInCall.ns,fun i y v h1 h2 h3 => ?_⟩,fun y c h => ⟨_,x.cell y c h⟩,e0.hok.fresh (Nat.le_refl _),fun y c h => ?_,fun p hp => absurd (show p∈([] : List (Addr × Obj)) from hp) (by simp),e0.hok.kept hk,?_⟩
  · exact name_of_addr x.apart (PySem.mem_of_lookup h1) (PySem.mem_of_lookup h2)
  · have hy : scope.names.lookup y = some .cell∨scope.names.lookup y = some .free := hy
    rcases hy with hy | hy
    · exact zfh hy
    · exact absurd rfl (S.nofree _ (PySem.mem_of_lookup hy))
  · exact Nat.le_of_lt (x.above y c (PySem.mem_of_lookup h))
  · have hi : i < vs.length := by
      unfold start at h2
      by_cases hi : i < vs.length
      · exact hi
      · rw [List.getElem?_append_right (by simpa using hi)] at h2
        rw [List.getElem?_replicate] at h2
        split at h2 <;> cases h2
    have ha : vs[i]? = some v := by
      unfold start at h2
      rw [List.getElem?_append_left (by simpa using hi),List.getElem?_map] at h2
      cases e : vs[i]? with
      | none => rw [e] at h2; cases h2
      | some a => rw [e] at h2; cases h2; rfl
    obtain ⟨u,hu,rv⟩ := r.get ha
    have hp : ps[i]? = some y := by
      rw [← S.pre,List.getElem?_take_of_lt (by omega)]; exact h1
    have ndP : ps.Nodup := by rw [← S.pre]; exact S.nd.sublist (List.take_sublist _ _)
    refine ⟨u,rv,?_⟩
    rcases S.par y (List.mem_of_getElem? hp) with k | k
    · exact .inl ⟨k,zej ndP hp hu k⟩
    · obtain ⟨c,e⟩ := zfh (n := s.heap.objs.size + 1) k
      refine .inr ⟨.inl k,c,e,?_⟩
      have q := x.cell y c e
      rw [zel ndP hp hu (by show scope.names.lookup y≠_; rw [k]; decide)] at q
      exact q
  · exact e0.hok.fresh (Nat.le_of_lt (x.above y c (PySem.mem_of_lookup h)))
  · unfold start
    show _ = N.length
    rw [List.length_append,List.length_map,List.length_replicate]
    omega
theorem zjG {CX : CXT} {P : Program} {w : World} {K : PySem.W.Frag} {mg : Str→Option Value} {base : Heap} {k : Nat} {f : Addr} {name qual : Str} {params : Arguments} {body : List Stmt} {scope : Scope} {dV kV doc pm cdv ct oc : Value} {an od : Option Addr}
    {osl : Array (Option Value)} {N ps : List Str} {sp : Sp} (lk : K.lookup f = some ⟨oc,od,.func (PySem.W.fnOf name qual params body scope dV kV doc pm an cdv ct),osl⟩) (hcd : PySem.W.codeIn K cdv qual = true) (S : FnScope N ps scope)
    (len : ∀ vs H Q E,sp vs H Q E→vs.length = ps.length)
    (hbody : ∀ (A : Around) (outer : List Env) (s : Shared) (H : Hp) (vs : List V) (Q : VK) (E : XK),Room k (A.deeper (envOfC qual scope s.heap.objs.size f cdv))→sp vs H Q E →
      ∃ t,PSs (cxOf CX P w K mg base N qual scope f cdv A outer s H E) body t∧t { nx := fun _ H' => Q .non H',rt := Q } (start N vs) H) :
    FnOk P w K mg base CX (k + 1) f (PySem.W.fnOf name qual params body scope dV kV doc pm an cdv ct) ps sp := by
  refine ⟨len,fun A outer s H args us vs Q E hr e0 hb r hsp => ?_⟩
  have hl := len _ _ _ _ hsp
  have KX : K.In s.heap := e0.mod.kin.keeps fun b o e => (e0.bs b o e).1
  have lim : s.heap.NoLimit := e0.mod.nolimit.keeps fun b o e => (e0.bs b o e).1
  have hkind : ∀ y∈ps.zip us,scope.names.lookup y.1 = some .local∨(scope.names.lookup y.1 = some .cell∧((cellsFrom (s.heap.objs.size + 1) scope.names []).lookup y.1).isSome = true) := fun ⟨n,v⟩ hy => by
    rcases S.par n (List.of_mem_zip hy).1 with q | q
    · exact .inl q
    · exact .inr ⟨q,PySem.W.cellsFrom_some _ _ _ (.inl q)⟩
  refine codeAny_call_function hr.depth (KX _ _ lk) rfl S.co S.gen rfl (PySem.W.codeRec_of KX hcd) (hb _ _ _ _ ?_)
  refine wpAny_newFunctionEnv_cells S.kind hkind fun env he s1 x => ?_
  subst he
  refine ⟨lim.keeps x.toInCall.keep,codeAny_func ?_⟩
  obtain ⟨t,ht,hq⟩ := hbody A outer s H vs Q E (hr.deeper _) hsp
  have I : Inv (cxOf CX P w K mg base N qual scope f cdv A outer s H E) [] (start N vs) H s1 := zgr S hr.hd e0 hl r x
  refine wpAny_mono (ht [] s1 (start N vs) H _ I hq) (fun fl s' hs => ?_) fun e s' hs => hs
  have fin : ∀ {σ' : St} {H' : Hp} {v : V} {u : Value},Inv (cxOf CX P w K mg base N qual scope f cdv A outer s H E) [] σ' H' s'→RelV v u→Q v H'→CE outer P w H s Q u s' :=
    fun {σ' H' v u} J rv q => ⟨v,H',J.os,J.bare,J.base,J.hok,rv,q⟩
  cases fl with
  | ret u =>
    obtain ⟨v,σ',H',J,rv,q⟩ := hs
    exact fin J rv q
  | next =>
    obtain ⟨σ',H',J,q⟩ := hs
    exact fin (v := V.non) (u := Value.none) J rfl q
  | brk =>
    obtain ⟨_,_,_,q⟩ := hs
    exact False.elim q
  | cont =>
    obtain ⟨_,_,_,q⟩ := hs
    exact False.elim q
end L2
namespace L2
open PySem PySem.Spec PyProof.Rows
section
variable {X : Cx} {x : Str} {p pos : Pos} {e : Expr} {es : List Expr} {t : TA} {id T : String} {r : List V → Hp → VK → Prop}
noncomputable def tCB (r : List V→Hp→VK→Prop) (t : TA) : TE := fun σ H Q => t σ H fun vs H1 => r vs H1 Q
theorem zck (hc : zbR X (.builtin id) r) (hg : Gl X x) (hm : X.mg x = none) (hv : bootBuiltins x = some (.builtin id)) (ha : PA X (e::es) t) (hn : x≠"__name__" := by decide) (hdb : (x == ("__debug__" : Str)) = false := by decide)
    (he : starEach (e::es) X.env = (false,eval e X.env)::starEach es X.env := by rfl) (hpl : (backTo pos (starEach es X.env)).any (·.1) = false := by rfl) : PE X (.Call (.Name x p) (e::es) [] pos) (tCB r t) := by
  intro pins s σ H Q I h
  refine wpAny_Call_Name_kw (zd6 I hg hm hv ?_ hn hdb)
  exact PyProof.Rows.callWith_builtin1 (thn (ha pos pins s σ H _ I h) fun us s1 ⟨vs,H1,I1,r1,q1⟩ => hc pins s1 σ H1 vs us Q I1 r1 q1) he hpl
theorem zcj (hc : zbR X (.type T) r) (hg : Gl X x) (hm : X.mg x = none) (hv : bootBuiltins x = some (.type T)) (ha : PA X (e::es) t) (hn : x≠"__name__" := by decide) (hdb : (x == ("__debug__" : Str)) = false := by decide)
    (he : starEach (e::es) X.env = (false,eval e X.env)::starEach es X.env := by rfl) (hpl : (backTo pos (starEach es X.env)).any (·.1) = false := by rfl) : PE X (.Call (.Name x p) (e::es) [] pos) (tCB r t) := by
  intro pins s σ H Q I h
  refine wpAny_Call_Name_kw (zd6 I hg hm hv ?_ hn hdb)
  exact PyProof.Rows.callWith_type1 (thn (ha pos pins s σ H _ I h) fun us s1 ⟨vs,H1,I1,r1,q1⟩ => hc pins s1 σ H1 vs us Q I1 r1 q1) he hpl
end
end L2
namespace HT
open PySem PyProof.Rows
section
open PySem.SeqAt
open PySem.AutoSeq1 (wpAny_loadPart')
open PySem.MeetsSeq PySem.MeetsSeq2 PySem.MeetsSeq3
end
section
variable {prog : Program} {w : World} {A : Around} {E : Value → Shared → Prop} {s : Shared}
theorem cat_tup {t b : Addr} {vs ws : List Value} {Q : Value→Shared→Prop} (ht : IsTup s.heap t vs.toArray) (hb : IsTup s.heap b ws.toArray) (hv : vs≠[])
    (h1 : ws = []→Q (.ref t) s) (h2 : ws≠[]→Q (.ref s.heap.objs.size) { s with heap := s.heap.push { cls := .type "tuple",data := .seq (vs++ws).toArray } })
    (hsz : vs.length + ws.length≤sizeLine) : wpAny (model prog w) A (binaryOp .Add (.ref t) (.ref b)) Q E s := by
  obtain ⟨⟨cls,dd,data,sl⟩,ho,hc,n,hd⟩ := id ht
  obtain ⟨⟨cls2,dd2,data2,sl2⟩,ho2,hc2,n2,hd2⟩ := id hb
  simp only at hc hd hc2 hd2
  subst hc hd hc2 hd2
  have e : vs.toArray++ws.toArray = (vs++ws).toArray := by simp
  by_cases hw : ws = []
  · exact concat_meets ⟨_,ho,rfl⟩ ⟨_,ho2,rfl⟩ noFill_tuple_add seq_tuple_add PySem.F.slot_tuple_add PySem.F.entry_tuple_add (PySem.F.args_tuple_add_2 _ _)
      (tuple_addW1 t b vs.toArray ws.toArray n n2 dd dd2 sl sl2 (by simpa using hv) (by simp [hw])) ⟨ho,ho2,h1 hw⟩
  · refine concat_meets ⟨_,ho,rfl⟩ ⟨_,ho2,rfl⟩ noFill_tuple_add seq_tuple_add PySem.F.slot_tuple_add PySem.F.entry_tuple_add (PySem.F.args_tuple_add_2 _ _)
      (tuple_addW2 t b vs.toArray ws.toArray n n2 dd dd2 sl sl2 (by simpa using hv) (by simpa using hw) (by rw [List.size_toArray,List.size_toArray]; exact hsz)) ⟨ho,ho2,?_⟩
    rw [e]
    exact h2 hw
noncomputable def sIx (n d : Nat) : Option Int→Nat
  | none => d
  | some v => if v < 0 then (v + (n : Int)).toNat else min v.toNat n
end
end HT
namespace L2
open PySem PySem.Spec PyProof.Rows
noncomputable abbrev TO := St→Hp→(Option Int→Hp→Prop)→Prop
noncomputable def PO (X : Cx) (e : Option Expr) (t : TO) : Prop :=
  ∀ (pins : List (Addr × Obj)) (s : Shared) (σ : St) (H : Hp) (Q : Option Int→Hp→Prop),Inv X pins σ H s→t σ H Q →
    wpAny (model X.prog X.w) X.A (evalPart e X.env) (fun u s' => ∃ o H',Inv X pins σ H' s'∧IsPart u o∧Q o H') X.xe s
section
variable {X : Cx} {e : Expr} {te : TE} {lo hi : Option Expr} {tl th : TO} {pos p2 : Pos}
noncomputable def SlR (X : Cx) (r : V→Option Int→Option Int→Hp→VK→Prop) : Prop :=
  ∀ (pins : List (Addr × Obj)) (s : Shared) (σ : St) (H : Hp) (x : V) (v vl vu : Value) (lo hi : Option Int) (sl : Addr) (Q : VK),Inv X pins σ H s→RelV x v→s.heap.IsSliceOf sl vl vu .none→IsPart vl lo→IsPart vu hi→r x lo hi H Q →
    ∃ T id,typeLookup (.type T) "__getitem__" = pure (some (.builtin id))∧s.TypeIs v T∧wpAny (model X.prog X.w) X.A (getItem v (.ref sl)) (EP X pins σ Q) X.xe s
theorem SlR.or {r r' : V→Option Int→Option Int→Hp→VK→Prop} (h : SlR X r) (h' : SlR X r') : SlR X (fun x lo hi H Q => r x lo hi H Q∨r' x lo hi H Q) := by
  intro pins s σ H x v vl vu lo hi sl Q I rx hs pl pu q
  rcases q with q | q
  · exact h pins s σ H x v vl vu lo hi sl Q I rx hs pl pu q
  · exact h' pins s σ H x v vl vu lo hi sl Q I rx hs pl pu q
noncomputable def zku (K : PySem.W.Frag) : R2 := fun x y H Q => ∃ a b xs ys,x = .ref a∧y = .ref b∧SqT K H a xs∧SqT K H b ys∧xs≠[]∧xs.length + ys.length≤sizeLine ∧
  (ys = []→Q (.ref a) H)∧(ys≠[]→∀ p,H p = none→Q (.ref p) (upd H p (.tup (xs++ys))))
theorem Vals.nil_iff {xs : List V} {us : List Value} (r : Vals xs us) : us = []↔xs = [] := by
  cases r with
  | nil => simp
  | cons _ _ => simp
theorem zjg : OpR X (binaryOp .Add) (zku X.K) := by
  intro pins s σ H x y v u Q I rx ry h
  obtain ⟨a,b,xs,ys,rfl,rfl,ha,hb,hx,hz,q1,q2⟩ := h
  cases rx
  cases ry
  obtain ⟨its,r1,p1,_⟩ := I.tuple ha
  obtain ⟨its2,r2,p2,_⟩ := I.tuple hb
  refine HT.cat_tup p1 p2 (fun z => hx (r1.nil_iff.mp z)) (fun z => ⟨.ref a,H,I,rfl,q1 (r2.nil_iff.mp z)⟩) (fun z => ?_) (by rw [← r1.length,← r2.length]; exact hz)
  refine ⟨.ref s.heap.objs.size,_,I.laid (t' := s.toks) (o := .tup (xs++ys)) (fun b ob q => Heap.get?_push_of_some _ q) (Nat.le_refl _) ?_,rfl,q2 (fun w => z (r2.nil_iff.mpr w)) _ (I.hok.fresh (Nat.le_refl _))⟩
  exact ⟨by rw [List.length_append]; exact hz,_,r1.append r2,IsTup.new _ _,_,Heap.get?_push_size _ rfl,rfl⟩
end
end L2
namespace L2
open PySem PySem.Spec PyProof.Rows
noncomputable def ixN (n : Nat) (i : Int) : Option Nat := if 0≤i then (if i < n then some i.toNat else none) else if -(n : Int)≤i then some (i + n).toNat else none
noncomputable def atI {α : Type} (xs : List α) (i : Int) : Option α := (ixN xs.length i).bind fun j => xs[j]?
theorem zgo {n : Nat} {i : Int} {j : Nat} (h : ixN n i = some j) : seqIndex? i n = some j∧j < n∧-(n : Int)≤i∧i < n := by
  unfold ixN at h
  by_cases h0 : 0≤i
  · rw [if_pos h0] at h
    by_cases h1 : i < n
    · rw [if_pos h1] at h
      have e : i.toNat = j := Option.some.inj h
      exact ⟨by rw [seqIndex_of h0 h1,e],by omega,by omega,h1⟩
    · rw [if_neg h1] at h; cases h
  · rw [if_neg h0] at h
    by_cases h1 : -(n : Int)≤i
    · rw [if_pos h1] at h
      have e : (i + n).toNat = j := Option.some.inj h
      exact ⟨by rw [seqIndex_neg (by omega) h1,e],by omega,h1,by omega⟩
    · rw [if_neg h1] at h; cases h
theorem zeN {α : Type} {xs : List α} {i : Int} {v : α} (h : atI xs i = some v) : ∃ j,seqIndex? i xs.length = some j∧xs[j]? = some v∧j < xs.length∧-(xs.length : Int)≤i∧i < xs.length := by
  unfold atI at h
  cases e : ixN xs.length i with
  | none => rw [e] at h; cases h
  | some j =>
    rw [e] at h
    obtain ⟨h1,h2,h3,h4⟩ := zgo e
    exact ⟨j,h1,h,h2,h3,h4⟩
noncomputable def zgZ (b : Expr) : Prop := ∀ o i,subscripted b false o i = operate [o,i] (getItem o i)
noncomputable def IxR (X : Cx) (r : R2) : Prop :=
  ∀ (value slice : Expr) (pins : List (Addr × Obj)) (s : Shared) (σ : St) (H : Hp) (x y : V) (v u : Value) (Q : VK),Inv X pins σ H s→RelV x v→RelV y u→r x y H Q →
    subscripted slice false v u = operate [v,u] (getItem v u)→wpAny (model X.prog X.w) X.A (subscriptTail value slice v u) (EP X pins σ Q) X.xe s
noncomputable def MtR (X : Cx) (id : String) (r : V→List V→Hp→VK→Prop) : Prop :=
  ∀ (pins : List (Addr × Obj)) (s : Shared) (σ : St) (H : Hp) (x : V) (xs : List V) (v : Value) (us : List Value) (Q : VK),Inv X pins σ H s→RelV x v→Vals xs us→r x xs H Q →
    wpAny (model X.prog X.w) X.A (call (.builtin id) (v::us)) (EP X pins σ Q) X.xe s
section
variable {X : Cx} {a b : Expr} {ta tb : TE} {pos : Pos}
theorem IxR.or {r r' : R2} (h : IxR X r) (h' : IxR X r') : IxR X (fun x y H Q => r x y H Q∨r' x y H Q) := by
  intro value slice pins s σ H x y v u Q I rx ry q hs
  rcases q with q | q
  · exact h value slice pins s σ H x y v u Q I rx ry q hs
  · exact h' value slice pins s σ H x y v u Q I rx ry q hs
theorem MtR.or {id : String} {r r' : V→List V→Hp→VK→Prop} (h : MtR X id r) (h' : MtR X id r') : MtR X id (fun x xs H Q => r x xs H Q∨r' x xs H Q) := by
  intro pins s σ H x xs v us Q I rx rs q
  rcases q with q | q
  · exact h pins s σ H x xs v us Q I rx rs q
  · exact h' pins s σ H x xs v us Q I rx rs q
theorem zmi {r : R2} (hr : IxR X r) (ha : PE X a ta) (hb : PE X b tb) (hs : zgZ b) : PE X (.Subscript a b pos) (tOp r ta tb) := by
  intro pins s σ H Q I h
  exact Subscript_ (binT ha hb I h fun v u s2 x y H2 I2 rx ry q => hr a b pins s2 σ H2 x y v u Q I2 rx ry q (hs _ _))
noncomputable def rIxL (K : PySem.W.Frag) : R2 := fun x y H Q => ∃ p xs i v,x = .ref p∧y = .int i∧SqL K H p xs∧atI xs i = some v∧Q v H
noncomputable def rIxT (K : PySem.W.Frag) : R2 := fun x y H Q => ∃ p xs i v,x = .ref p∧y = .int i∧SqT K H p xs∧atI xs i = some v∧Q v H
noncomputable def rIxS : R2 := fun x y H Q => ∃ z i c,x = .str z∧y = .int i∧z.length≤sizeLine∧atI z.cps.toList i = some c∧Q (.str ⟨#[c]⟩) H
theorem zjx : IxR X (rIxL X.K) := by
  intro value slice pins s σ H x y v u Q I rx ry h hs
  obtain ⟨p,xs,i,z,rfl,rfl,hq,he,q⟩ := h
  cases rx
  obtain ⟨t,rfl⟩ := ry
  obtain ⟨its,r,pl,hz⟩ := I.list hq
  obtain ⟨j,h1,h2,h3,h4,h5⟩ := zeN he
  obtain ⟨w,ew,rw'⟩ := r.get h2
  have hl := r.length
  have hn := zds
  have fin : EP X pins σ Q w s := ⟨z,H,I,rw',q⟩
  by_cases h0 : 0≤i
  · have hj : i.toNat = j := by
      rw [seqIndex_of h0 h5] at h1
      exact Option.some.inj h1
    exact item_listR pl.isList h0 (by omega) (by rw [hj]; simpa using ew) fin hs
  · have hj : (i + (its.toArray.size : Int)).toNat = j := by
      rw [seqIndex_neg (by omega) h4] at h1
      rw [List.size_toArray,← hl]
      exact Option.some.inj h1
    exact subscriptTail_builtinR (x := w) pl.isList.typeIs slot_list_getitem.lookup
      (wpAny_getItem_list_neg (Q := fun r s' => r = w∧EP X pins σ Q r s') pl.isList (by omega) (by rw [List.size_toArray] <;> omega) (by omega) (by rw [hj]; simpa using ew) ⟨rfl,fin⟩) hs
theorem zlg : IxR X (rIxT X.K) := by
  intro value slice pins s σ H x y v u Q I rx ry h hs
  obtain ⟨p,xs,i,z,rfl,rfl,hq,he,q⟩ := h
  cases rx
  obtain ⟨t,rfl⟩ := ry
  obtain ⟨its,r,pl,hz⟩ := I.tuple hq
  obtain ⟨j,h1,h2,h3,h4,h5⟩ := zeN he
  obtain ⟨w,ew,rw'⟩ := r.get h2
  have hl := r.length
  have hn := zds
  have fin : EP X pins σ Q w s := ⟨z,H,I,rw',q⟩
  exact subscriptTail_builtinR (x := w) pl.typeIs slot_tuple_getitem.lookup
    (getItem_tuple (j := j) (Q := fun r s' => r = w∧EP X pins σ Q r s') pl (by omega) (by omega) (by rw [List.size_toArray,← hl]; exact h1) (by simpa using ew) ⟨rfl,fin⟩) hs
theorem zlh : IxR X rIxS := by
  intro value slice pins s σ H x y v u Q I rx ry h hs
  obtain ⟨z,i,c,rfl,rfl,hz,he,q⟩ := h
  obtain ⟨t,rfl⟩ := rx
  obtain ⟨t',rfl⟩ := ry
  obtain ⟨j,h1,h2,h3,h4,h5⟩ := zeN he
  have hl : z.cps.toList.length = z.length := by simp [Str.length]
  rw [hl] at h1 h4 h5
  have hn := zds
  exact tail_any (typeIs_str s z t) slot_str_getitem.lookup (getItem_str (c := c) (by
    have e1 : decide (i < -(2 ^ 63 : Int)) = false := decide_eq_false (by omega)
    have e2 : decide (i ≥ 2 ^ 63) = false := decide_eq_false (by omega)
    rw [e1,e2,Bool.or_false]) (by rw [h1]; simpa using h2) ⟨.str ⟨#[c]⟩,H,I.tok _,⟨_,rfl⟩,q⟩) hs
noncomputable def rIx (K : PySem.W.Frag) : R2 := fun x y H Q => rIxL K x y H Q∨rIxT K x y H Q∨rIxS x y H Q
theorem zli : IxR X (rIx X.K) := zjx.or (zlg.or zlh)
theorem zfx (its : List Value) (n j : Nat) (u : Value) : Obj.mapSeq (·.setIfInBounds j u) { cls := .type "list",data := .seq its.toArray n } = { cls := .type "list",data := .seq (its.set j u).toArray n } := by
  simp [Obj.mapSeq]
theorem Inv.lst {pins : List (Addr × Obj)} {σ : St} {H : Hp} {s : Shared} {p : Addr} {xs : List V} (I : Inv X pins σ H s) (h : H p = some (.lst xs)) :
    ∃ (its : List Value) (n : Nat),Vals xs its∧s.heap.get? p = some { cls := .type "list",data := .seq its.toArray n }∧xs.length≤sizeLine := by
  obtain ⟨z,its,n,r,e⟩ := I.hok p _ h
  exact ⟨its,n,r,e,z⟩
theorem Inv.lstUpd {pins : List (Addr × Obj)} {σ : St} {H : Hp} {s : Shared} {p : Addr} {xs ys : List V} {its its' : List Value} {n n' : Nat} {f : Obj→Obj} (I : Inv X pins σ H s) (h : H p = some (.lst xs))
    (ho : s.heap.get? p = some { cls := .type "list",data := .seq its.toArray n }) (hf : f { cls := .type "list",data := .seq its.toArray n } = { cls := .type "list",data := .seq its'.toArray n' }) (r : Vals ys its') (hz : ys.length≤sizeLine) (t : Nat) :
    Inv X pins σ (upd H p (.lst ys)) { s with heap := s.heap.update p f,toks := t } := by
  have e : (s.heap.update p f).get? p = some { cls := .type "list",data := .seq its'.toArray n' } := by
    rw [Heap.get?_update_self f ho (by rw [hf] <;> rfl),hf]
  refine I.write (x := p) (e := p) (by rw [h]; trivial) (.inl rfl) (fun b u hb q => (Heap.get?_update_other _ _ (Ne.symm hb)).trans q) ⟨_,e⟩ ?_
  exact ⟨hz,its',n',r,e⟩
noncomputable def zks : V→V→V→Hp→(Hp→Prop)→Prop := fun o i v H Q => ∃ p xs k j,o = .ref p∧i = .int k∧H p = some (.lst xs)∧ixN xs.length k = some j∧Q (upd H p (.lst (xs.set j v)))
theorem zg7 : PSet X zks := by
  intro pins s σ H o i v ov iv u Q I ro ri rv h
  obtain ⟨p,xs,k,j,rfl,rfl,hp,hj,q⟩ := h
  cases ro
  obtain ⟨t,rfl⟩ := ri
  obtain ⟨its,n,r,ho,hz⟩ := I.lst hp
  obtain ⟨h1,h2,h3,h4⟩ := zgo hj
  have hl := r.length
  have hn := zds
  have I' : Inv X pins σ (upd H p (.lst (xs.set j v))) { s with heap := s.heap.update p (Obj.mapSeq (·.setIfInBounds j u)) } :=
    I.lstUpd hp ho (zfx its n j u) (r.set rv j) (by rw [List.length_set]; exact hz) s.toks
  by_cases h0 : 0≤k
  · have hk : k.toNat = j := by
      rw [seqIndex_of h0 h4] at h1
      exact Option.some.inj h1
    exact PySem.W.ki_setAt ho h0 (by omega) (by rw [List.size_toArray,← hl]; exact h4) (by rw [hk]; exact ⟨_,I',q⟩)
  · have hk : (k + (its.toArray.size : Int)).toNat = j := by
      rw [seqIndex_neg (by omega) h3] at h1
      rw [List.size_toArray,← hl]
      exact Option.some.inj h1
    exact PySem.W.ki_setBack ho (by omega) (by rw [List.size_toArray,← hl]; exact h3) (by omega) (by rw [hk]; exact ⟨_,I',q⟩)
noncomputable def zb8 : V→Bool
  | .non => true
  | .bl _ => true
  | .int _ => true
  | .str _ => true
  | _ => false
noncomputable def eqV : V→V→Bool
  | .non,.non => true
  | .bl a,.bl b => a == b
  | .bl a,.int b => (if a then 1 else 0) == b
  | .int a,.bl b => a == (if b then 1 else 0)
  | .int a,.int b => a == b
  | .str a,.str b => a == b
  | _,_ => false
theorem zlG {A : Around} {s : Shared} {y x : V} {u v : Value} (ry : RelV y u) (rx : RelV x v) (fy : zb8 y = true) (fx : zb8 x = true) : SeqAt.EqAt A s u v (eqV y x) := by
  cases y with
  | non =>
    cases ry
    cases x with
    | non => cases rx; exact SeqAt.EqAt.same _
    | bl b => cases rx; exact SeqAt.EqAt.none_bool b
    | int b => obtain ⟨t,rfl⟩ := rx; exact SeqAt.EqAt.none_int b t
    | str b => obtain ⟨t,rfl⟩ := rx; exact SeqAt.EqAt.none_str b t
    | _ => exact absurd (show false = true from fx) Bool.false_ne_true
  | bl a =>
    cases ry
    cases x with
    | non => cases rx; exact SeqAt.EqAt.bool_none a
    | bl b => cases rx; exact SeqAt.EqAt.bool_bool a b
    | int b => obtain ⟨t,rfl⟩ := rx; exact SeqAt.EqAt.bool_int a b t
    | str b => obtain ⟨t,rfl⟩ := rx; exact SeqAt.EqAt.bool_str a b t
    | _ => exact absurd (show false = true from fx) Bool.false_ne_true
  | int a =>
    obtain ⟨t',rfl⟩ := ry
    cases x with
    | non => cases rx; exact SeqAt.EqAt.int_none a t'
    | bl b => cases rx; exact SeqAt.EqAt.int_bool a t' b
    | int b => obtain ⟨t,rfl⟩ := rx; exact SeqAt.EqAt.int_int a t' b t
    | str b => obtain ⟨t,rfl⟩ := rx; exact SeqAt.EqAt.int_str a t' b t
    | _ => exact absurd (show false = true from fx) Bool.false_ne_true
  | str a =>
    obtain ⟨t',rfl⟩ := ry
    cases x with
    | non => cases rx; exact SeqAt.EqAt.str_none a t'
    | bl b => cases rx; exact SeqAt.EqAt.str_bool a t' b
    | int b => obtain ⟨t,rfl⟩ := rx; exact SeqAt.EqAt.str_int a t' b t
    | str b => obtain ⟨t,rfl⟩ := rx; exact SeqAt.EqAt.str_str a t' b t
    | _ => exact absurd (show false = true from fx) Bool.false_ne_true
  | _ => exact absurd (show false = true from fy) Bool.false_ne_true
noncomputable def eqU (x : V) (u : Value) : Bool := match u with
  | .none => eqV .non x
  | .bool b => eqV (.bl b) x
  | .int i _ => eqV (.int i) x
  | .str z _ => eqV (.str z) x
  | _ => false
theorem zfd {x y : V} {u : Value} (r : RelV y u) (f : zb8 y = true) : eqU x u = eqV y x := by
  cases y with
  | non => cases r; rfl
  | bl b => cases r; rfl
  | int i => obtain ⟨t,rfl⟩ := r; rfl
  | str z => obtain ⟨t,rfl⟩ := r; rfl
  | _ => exact absurd (show false = true from f) Bool.false_ne_true
theorem zeP {x : V} : ∀ {xs : List V} {us : List Value},Vals xs us→xs.all zb8 = true→us.any (eqU x) = xs.any fun y => eqV y x
  | _,_,.nil,_ => rfl
  | y::xs,u::us,.cons r t,f => by
    rw [List.all_cons,Bool.and_eq_true] at f
    rw [List.any_cons,List.any_cons,zfd r f.1,zeP t f.2]
theorem zcU {A : Around} {s : Shared} {x : V} {v : Value} (rx : RelV x v) (fx : zb8 x = true) : ∀ {xs : List V} {us : List Value},Vals xs us→xs.all zb8 = true→∀ u∈us,SeqAt.EqAt A s u v (eqU x u)
  | _,_,.nil,_ => fun u hu => by cases hu
  | y::xs,u::us,.cons r t,f => fun u' hu => by
    rw [List.all_cons,Bool.and_eq_true] at f
    rcases List.mem_cons.mp hu with rfl | hu
    · rw [zfd r f.1]; exact zlG r rx f.1 fx
    · exact zcU rx fx t f.2 u' hu
noncomputable def inV (x : V) (xs : List V) : Bool := xs.any fun y => eqV y x
noncomputable def rIn (K : PySem.W.Frag) (neg : Bool) : R2 := fun x y H Q => ∃ p xs,y = .ref p∧(SqL K H p xs∨SqT K H p xs)∧zb8 x = true∧xs.all zb8 = true∧Q (.bl (if neg then ! inV x xs else inV x xs)) H
theorem zf9 : OpR X (compareOp .In) (rIn X.K false) := by
  intro pins s σ H x y v u Q I rx ry h
  obtain ⟨p,xs,rfl,hq,fx,fs,q⟩ := h
  cases ry
  rcases hq with hq | hq
  · obtain ⟨its,r,pl,hz⟩ := I.list hq
    refine SeqAt.in_listAt (eqU x) pl.isList (fun w hw => zcU rx fx r fs w (by simpa using hw)) ⟨.bl _,H,I,rfl,?_⟩
    rw [show its.toArray.any (eqU x) = its.any (eqU x) by simp,zeP r fs]
    exact q
  · obtain ⟨its,r,pl,hz⟩ := I.tuple hq
    refine SeqAt.in_tupleAt (eqU x) pl (fun w hw => zcU rx fx r fs w (by simpa using hw)) ⟨.bl _,H,I,rfl,?_⟩
    rw [show its.toArray.any (eqU x) = its.any (eqU x) by simp,zeP r fs]
    exact q
theorem zbR.or {f : Value} {r r' : List V→Hp→VK→Prop} (h : zbR X f r) (h' : zbR X f r') : zbR X f (fun xs H Q => r xs H Q∨r' xs H Q) := by
  intro pins s σ H xs us Q I rs q
  rcases q with q | q
  · exact h pins s σ H xs us Q I rs q
  · exact h' pins s σ H xs us Q I rs q
theorem zef : zbR X (.type "list") (fun xs H Q => ∃ p ys,xs = [.ref p]∧(SqL X.K H p ys∨SqT X.K H p ys)∧∀ l,H l = none→Q (.ref l) (upd H l (.lst ys))) := by
  intro pins s σ H xs us Q I r h
  obtain ⟨p,ys,rfl,hq,q⟩ := h
  obtain ⟨u,rfl,rx⟩ := zdU r
  cases rx
  have fin : ∀ (its : List Value),Vals ys its→ys.length≤sizeLine→∀ (h' : Heap) (c' : Nat),(∀ b o',s.heap.get? b = some o'→h'.get? b = some o') →
      h'.get? s.heap.objs.size = some { cls := .type "list",dict := none,data := .seq its.toArray c',slots := #[] }→EP X pins σ Q (.ref s.heap.objs.size) { s with heap := h' } := fun its r' hz h' c' kp e =>
    ⟨.ref s.heap.objs.size,_,I.laid (t' := s.toks) kp (Nat.le_refl _) (show zaP X.prog X.w _ h' _ (.lst ys) from ⟨hz,its,c',r',e⟩),rfl,q _ (I.hok.fresh (Nat.le_refl _))⟩
  rcases hq with hq | hq
  · obtain ⟨its,r',pl,hz⟩ := I.list hq
    have hlen := r'.length
    obtain ⟨o,ho,hc,n,hd⟩ := pl.isList
    exact call_list_seq p (.inl rfl) ho hc hd (fun h' c' kp e => fin its r' hz h' c' kp e) (by simp only [List.size_toArray] <;> omega)
  · obtain ⟨its,r',pl,hz⟩ := I.tuple hq
    have hlen := r'.length
    obtain ⟨o,ho,hc,n,hd⟩ := pl
    exact call_list_seq p (.inr rfl) ho hc hd (fun h' c' kp e => fin its r' hz h' c' kp e) (by simp only [List.size_toArray] <;> omega)
theorem zdN : zbR X (.type "tuple") (fun xs H Q => ∃ p ys,xs = [.ref p]∧((SqL X.K H p ys∧∀ l,H l = none→Q (.ref l) (upd H l (.tup ys)))∨(SqT X.K H p ys∧Q (.ref p) H))) := by
  intro pins s σ H xs us Q I r h
  obtain ⟨p,ys,rfl,h⟩ := h
  obtain ⟨u,rfl,rx⟩ := zdU r
  cases rx
  rcases h with ⟨hq,q⟩ | ⟨hq,q⟩
  · obtain ⟨its,r',pl,hz⟩ := I.list hq
    have hlen := r'.length
    refine call_tuple_list pl.isList (fun h' kp => ?_) (by simp only [List.size_toArray] <;> omega)
    have I1 : Inv X pins σ H { s with heap := h' } := I.kept (t' := s.toks) kp
    have I2 : Inv X pins σ (upd H h'.objs.size (.tup ys)) { s with heap := h'.push { cls := .type "tuple",data := .seq its.toArray } } :=
      I1.laid (t' := s.toks) (fun b o e => Heap.get?_push_of_some _ e) (Nat.le_refl _) (show zaP X.prog X.w _ _ _ (.tup ys) from ⟨hz,its,r',IsTup.new _ _,_,Heap.get?_push_size _ rfl,rfl⟩)
    exact ⟨.ref h'.objs.size,_,I2,rfl,q _ (I1.hok.fresh (Nat.le_refl _))⟩
  · obtain ⟨its,r',pl,hz⟩ := I.tuple hq
    exact call_tuple_same pl ⟨.ref p,H,I,rfl,q⟩
noncomputable def tyV (K : PySem.W.Frag) (T : String) (x : V) (H : Hp) : Prop := match x with
  | .str _ => T = "str"
  | .int _ => T = "int"
  | .ref p => (T = "list"∧∃ xs,SqL K H p xs)∨(T = "tuple"∧((∃ o,K.lookup p = some o∧o.cls = .type "tuple"∧o.dict = none)∨∃ xs,Rd H p (.tup xs))) ∨
      (T = "dict"∧((∃ kvs,Rd H p (.dK kvs))∨∃ kvs,H p = some (.dT kvs)))∨(T = "set"∧∃ S n,H p = some (.set S n))
  | _ => False
theorem zj1 {pins : List (Addr × Obj)} {σ : St} {H : Hp} {s : Shared} {T : String} {x : V} {v : Value} (I : Inv X pins σ H s) (r : RelV x v) (ty : tyV X.K T x H) :
    s.TypeIs v T∧∀ a,v = .ref a→∃ ob,s.heap.get? a = some ob∧ob.dict = none := by
  cases x with
  | str z =>
    obtain ⟨t,rfl⟩ := r
    cases (show T = "str" from ty)
    exact ⟨typeIs_str s z t,fun _ e => nomatch e⟩
  | int i =>
    obtain ⟨t,rfl⟩ := r
    cases (show T = "int" from ty)
    exact ⟨typeIs_int s i t,fun _ e => nomatch e⟩
  | ref p =>
    cases r
    rcases ty with ⟨rfl,xs,hq⟩ | ⟨rfl,⟨o,hk,hc,hd⟩ | ⟨xs,hq⟩⟩ | ⟨rfl,hk⟩ | ⟨rfl,S,n,hk⟩
    · obtain ⟨its,_,pl,_⟩ := I.list hq
      refine ⟨pl.isList.typeIs,fun a e => ?_⟩
      cases e
      obtain ⟨o,n,e,c,hd,_⟩ := pl
      exact ⟨o,e,hd⟩
    · refine ⟨⟨o,I.kIn p o hk,hc⟩,fun a e => ?_⟩
      cases e
      exact ⟨o,I.kIn _ o hk,hd⟩
    · obtain ⟨_,its,_,⟨o,ho,hc,_⟩,o2,ho2,hd2⟩ := hq.ok I.hok
      refine ⟨⟨o,ho,hc⟩,fun a e => ?_⟩
      cases e
      exact ⟨o2,ho2,hd2⟩
    · have z : ∃ o,s.heap.get? p = some o∧o.ExactDict := by
        rcases hk with ⟨kvs,hk⟩ | ⟨kvs,hk⟩
        · obtain ⟨_,_,_,_,o,_,_,e,ex,_⟩ := (show zaP X.prog X.w H s.heap p (.dK kvs) from hk.ok I.hok)
          exact ⟨o,e,ex⟩
        · obtain ⟨_,_,_,_,o,_,_,e,ex,_⟩ := I.hok p _ hk
          exact ⟨o,e,ex⟩
      obtain ⟨o,e,ex⟩ := z
      refine ⟨⟨o,e,ex.1⟩,fun a e2 => ?_⟩
      cases e2
      exact ⟨o,e,ex.2.1⟩
    · obtain ⟨o,_,_,_,e,ex,_⟩ := I.hok p _ hk
      refine ⟨⟨o,e,ex.1⟩,fun a e2 => ?_⟩
      cases e2
      exact ⟨o,e,ex.2.1⟩
  | _ => exact False.elim ty
noncomputable def tBM (K : PySem.W.Frag) (T : String) (r : V→List V→Hp→VK→Prop) (to : TE) (t : TA) : TE := fun σ H Q => to σ H fun x H1 => tyV K T x H1∧t σ H1 fun xs H2 => r x xs H2 Q
variable {o e : Expr} {es : List Expr} {to : TE} {t : TA} {name : Str} {apos cpos : Pos} {T id : String} {r : V → List V → Hp → VK → Prop}
theorem zja (pa : PlainAttrs T) (slot : Slot T name id) (hty : typeOf (.builtin id) = pure (.type "method_descriptor")) (hm : MtR X id r) (ho : PE X o to) (ha : PA X (e::es) t)
    (hbase : attributeBase o name X.env (eval o X.env) = eval o X.env := by rfl)
    (hfew : ((backTo cpos (starEach (e::es) X.env)).all (fun x => ! x.1) && (backToKw cpos (keywordEach [] X.env)).all (fun x => x.1.isSome)
      && decide ((e::es).length + ([] : List Keyword).length + (if ([] : List Keyword).isEmpty then 0 else 1) < 30)) = true := by rfl)
    (hline : (apos.endLine == cpos.line) = true := by rfl) (hs : starEach (e::es) X.env = (false,eval e X.env)::starEach es X.env := by rfl) (hplain : (backTo cpos (starEach es X.env)).any (·.1) = false := by rfl) :
    PE X (.Call (.Attribute o name apos) (e::es) [] cpos) (tBM X.K T r to t) := by
  intro pins s σ H Q I h
  refine wpAny_Call_method_late hbase hfew hline rfl (thn (ho pins s σ H _ I h) fun v s1 ⟨x,H1,I1,r1,ty,q1⟩ => ?_)
  obtain ⟨h1,h2⟩ := zj1 I1 r1 ty
  refine ⟨T,id,pa,slot,hty,h1,h2,?_⟩
  have hA := ha cpos pins s1 σ H1 _ I1 q1
  rw [hs] at hA ⊢
  refine Calls.callWith_builtin (by show (false || (backTo cpos (starEach es X.env)).any (·.1)) = false; rw [hplain] <;> rfl) (Calls.evalArgs_plain ?_)
  exact thn hA fun us s2 ⟨vs,H2,I2,r2,q2⟩ => hm pins s2 σ H2 x vs v us Q I2 r1 r2 q2
end
end L2
namespace L2
open PySem PySem.Spec PyProof.Rows
noncomputable def MtM (X : Cx) (id : String) (r : V→List V→Hp→VK→Prop) : Prop :=
  ∀ (pins : List (Addr × Obj)) (s : Shared) (σ : St) (H : Hp) (x : V) (xs : List V) (v : Value) (us : List Value) (Q : VK),Inv X pins σ H s→RelV x v→Vals xs us→r x xs H Q →
    wpAny (model X.prog X.w) X.A (call (.builtin id) (v::us)) (EP X pins σ Q) X.xe s
theorem Vals.one {x : V} {us : List Value} (h : Vals [x] us) : ∃ u,us = [u]∧RelV x u := by
  cases h with
  | cons r t => cases t; exact ⟨_,rfl,r⟩
theorem Vals.zero : ∀ {us : List Value},Vals [] us→us = []
  | _,.nil => rfl
theorem Vals.eraseIdx : ∀ {xs : List V} {us : List Value} (i : Nat),Vals xs us→Vals (xs.eraseIdx i) (us.eraseIdx i)
  | _,_,_,.nil => .nil
  | _,_,0,.cons _ t => t
  | _,_,i + 1,.cons r t => .cons r (Vals.eraseIdx i t)
theorem Vals.reverse {xs : List V} {us : List Value} (h : Vals xs us) : Vals xs.reverse us.reverse := by
  induction h with
  | nil => exact .nil
  | cons r t ih => rw [List.reverse_cons,List.reverse_cons]; exact Vals.append ih (.cons r .nil)
theorem zd5 {α : Type} : ∀ (l : List α) (i : Nat),(l.eraseIdx i).length≤l.length
  | [],_ => Nat.le_refl _
  | _::_,0 => Nat.le_succ _
  | _::r,i + 1 => Nat.succ_le_succ (zd5 r i)
section
variable {X : Cx} {pins : List (Addr × Obj)} {σ : St} {H : Hp} {s : Shared} {l b : Addr} {xs ys zs : List V}
theorem Inv.lset {its its' : List Value} {n : Nat} {f : Array Value→Array Value} {t' : Nat} (I : Inv X pins σ H s) (hH : H l = some (.lst xs))
    (e : s.heap.get? l = some { cls := .type "list",data := .seq its.toArray n }) (hf : f its.toArray = its'.toArray) (hv : Vals ys its') (hz : ys.length≤sizeLine) :
    Inv X pins σ (upd H l (.lst ys)) { s with heap := s.heap.update l (Obj.mapSeq f),toks := t' } := by
  have q := PySem.IsL.update e f
  rw [hf] at q
  refine I.write (x := l) (e := l) (by rw [hH]; exact trivial) (.inl rfl) (fun b' u hb hu => (Heap.get?_update_other s.heap (Obj.mapSeq f) (Ne.symm hb)).trans hu) ⟨_,q⟩ ?_
  exact ⟨hz,its',_,hv,q⟩
theorem Inv.lnew {its : List Value} {t' : Nat} (I : Inv X pins σ H s) (hv : Vals ys its) (hz : ys.length≤sizeLine) :
    Inv X pins σ (upd H s.heap.objs.size (.lst ys)) { s with heap := s.heap.push { cls := .type "list",data := .seq its.toArray },toks := t' } :=
  I.laid (fun _ _ q => Heap.get?_push_of_some _ q) (Nat.le_refl _) ⟨hz,its,0,hv,Heap.get?_push_size _ rfl⟩
theorem Inv.fresh (I : Inv X pins σ H s) : H s.heap.objs.size = none := I.hok.fresh (Nat.le_refl _)
theorem Inv.lstM (I : Inv X pins σ H s) (hH : H l = some (.lst xs)) : xs.length≤sizeLine∧∃ (its : List Value) (n : Nat),Vals xs its∧xs.length = its.length∧s.heap.get? l = some { cls := .type "list",data := .seq its.toArray n } := by
  obtain ⟨z,its,n,r,e⟩ := I.hok l _ hH
  exact ⟨z,its,n,r,r.length,e⟩
end
section
variable {X : Cx}
noncomputable def zfY : V→List V→Hp→VK→Prop := fun x vs H Q => ∃ l xs y,x = .ref l∧vs = [y]∧H l = some (.lst xs)∧xs.length < sizeLine∧Q .non (upd H l (.lst (xs++[y])))
theorem zc5 : MtM X "list.append" zfY := by
  intro pins s σ H x vs v us Q I rx rv h
  obtain ⟨l,xs,y,rfl,rfl,hH,hz,q⟩ := h
  cases rx
  obtain ⟨u,rfl,ru⟩ := rv.one
  obtain ⟨z,its,n,r,hl,e⟩ := I.lstM hH
  refine call_meets F.slot_list_append ⟨_,e,rfl⟩ F.entry_list_append (F.args_list_append_2 _ _) (PySem.list_append l its.toArray n u (by rw [List.size_toArray]; omega)) ⟨e,?_⟩
  refine ⟨.non,_,I.lset (its' := its++[u]) hH e (by simp) (r.append (.cons ru .nil)) ?_,rfl,q⟩
  rw [List.length_append,List.length_singleton]
  omega
noncomputable def zii : V→List V→Hp→VK→Prop := fun x vs H Q => ∃ l xs i k y,x = .ref l∧vs = [.int i]∧H l = some (.lst xs)∧-(2 ^ 63)≤i∧i < 2 ^ 63∧seqIndex? i xs.length = some k∧xs[k]? = some y∧Q y (upd H l (.lst (xs.eraseIdx k)))
theorem zhA : MtM X "list.pop" zii := by
  intro pins s σ H x vs v us Q I rx rv h
  obtain ⟨l,xs,i,k,y,rfl,rfl,hH,h1,h2,hk,hy,q⟩ := h
  cases rx
  obtain ⟨u,rfl,ru⟩ := rv.one
  obtain ⟨t,rfl⟩ := ru
  obtain ⟨z,its,n,r,hl,e⟩ := I.lstM hH
  obtain ⟨w,hw,rw'⟩ := r.get hy
  refine call_meets F.slot_list_pop ⟨_,e,rfl⟩ F.entry_list_pop (F.args_list_pop_2 _ _)
    (MeetsSeq.list_pop_at l its.toArray n i t k w (fitsIndex_both h1 h2) (by rw [List.size_toArray,← hl]; exact hk) (by rw [← Array.getElem?_toList]; exact hw) (by rw [List.size_toArray]; omega)) ⟨e,?_⟩
  refine ⟨y,_,I.lset (its' := its.eraseIdx k) hH e ?_ (r.eraseIdx k) ?_,rw',q⟩
  · show its.toArray.eraseIdxIfInBounds k = (its.eraseIdx k).toArray
    rw [List.eraseIdxIfInBounds_toArray]
  · have := zd5 xs k
    omega
end
section
variable {prog : Program} {w : World} {A : Around} {E : Value → Shared → Prop} {s : Shared}
end
section
variable {X : Cx}
end
end L2
namespace L2
open PySem PySem.Spec PyProof.Rows
section
variable {κ : Type} [DecidableEq κ]
noncomputable def valV (kvs : List (κ × V)) (k : κ) : Option V := (kvs.find? fun kv => decide (kv.1 = k)).map (·.2)
noncomputable def putK (kvs : List (κ × V)) (k : κ) (v : V) : List (κ × V) :=
  if (kvs.any fun kv => decide (kv.1 = k)) = true then kvs.map (fun kv => if kv.1 = k then (kv.1,v) else kv) else kvs++[(k,v)]
noncomputable def zlK (kvs : List (κ × V)) (k : κ) : List (κ × V) := kvs.filter fun kv => decide (kv.1≠k)
theorem zcO {p : κ × V} {r : List (κ × V)} {k : κ} (e : p.1 = k) : valV (p::r) k = some p.2 := by simp [valV,List.find?_cons,e]
theorem zcc {p : κ × V} {r : List (κ × V)} {k : κ} (e : ¬ p.1 = k) : valV (p::r) k = valV r k := by simp [valV,List.find?_cons,e]
theorem zeS (k : κ) : ∀ kvs : List (κ × V),(kvs.any fun kv => decide (kv.1 = k)) = (valV kvs k).isSome
  | [] => rfl
  | p::r => by
    rw [List.any_cons]
    by_cases e : p.1 = k
    · simp only [zcO e,decide_eq_true e,Bool.true_or,Option.isSome_some]
    · rw [zcc e,decide_eq_false e,Bool.false_or]; exact zeS k r
theorem zc8 (kvs : List (κ × V)) (k : κ) (v : V) : (putK kvs k v).length≤kvs.length + 1 := by
  unfold putK
  split
  · rw [List.length_map]; omega
  · rw [List.length_append,List.length_cons,List.length_nil]; omega
theorem RelO.isSome_eq {o : Option V} {u : Option Value} (r : RelO o u) : o.isSome = u.isSome := by
  cases o with
  | none => cases u with
    | none => rfl
    | some _ => exact (show False from r).elim
  | some _ => cases u with
    | none => exact (show False from r).elim
    | some _ => rfl
theorem RelO.getD {o : Option V} {u : Option Value} {d : V} {d' : Value} (r : RelO o u) (rd : RelV d d') : RelV (o.getD d) (u.getD d') := by
  cases o with
  | none => cases u with
    | none => exact rd
    | some _ => exact (show False from r).elim
  | some _ => cases u with
    | none => exact (show False from r).elim
    | some _ => exact r
theorem KV.val {kvs : List (κ × V)} {vs : List (κ × Value)} (r : KV kvs vs) (k : κ) : RelO (valV kvs k) (valueAt vs k) := by
  unfold KV at r
  induction r with
  | nil => exact True.intro
  | @cons p q ps qs h t ih =>
    obtain ⟨h1,h2⟩ := h
    by_cases e : p.1 = k
    · have e' : q.1 = k := h1.symm.trans e
      have b : valueAt (q::qs) k = some q.2 := by simp [valueAt,List.find?_cons,e']
      rw [zcO e,b]; exact h2
    · have e' : ¬ q.1 = k := fun z => e (h1.trans z)
      have b : valueAt (q::qs) k = valueAt qs k := by simp [valueAt,List.find?_cons,e']
      rw [zcc e,b]; exact ih
theorem KV.any {kvs : List (κ × V)} {vs : List (κ × Value)} (r : KV kvs vs) (k : κ) : (kvs.any fun kv => decide (kv.1 = k)) = vs.any fun kv => decide (kv.1 = k) := by
  unfold KV at r
  induction r with
  | nil => rfl
  | cons h t ih => rw [List.any_cons,List.any_cons,ih,h.1]
theorem KV.repl {kvs : List (κ × V)} {vs : List (κ × Value)} (r : KV kvs vs) (k : κ) {y : V} {u : Value} (ry : RelV y u) :
    KV (kvs.map fun kv => if kv.1 = k then (kv.1,y) else kv) (vs.map fun kv => if kv.1 = k then (kv.1,u) else kv) := by
  unfold KV at r ⊢
  induction r with
  | nil => exact .nil
  | @cons p q ps qs h t ih =>
    rw [List.map_cons,List.map_cons]
    refine .cons ?_ ih
    obtain ⟨h1,h2⟩ := h
    by_cases e : p.1 = k
    · rw [if_pos e,if_pos (h1.symm.trans e)]; exact ⟨h1,ry⟩
    · rw [if_neg e,if_neg (fun z => e (h1.trans z))]; exact ⟨h1,h2⟩
theorem KV.put {kvs : List (κ × V)} {vs : List (κ × Value)} (r : KV kvs vs) (k : κ) {y : V} {u : Value} (ry : RelV y u) : KV (putK kvs k y) (stored vs k u) := by
  unfold putK stored
  rw [r.any k]
  by_cases e : (vs.any fun kv => decide (kv.1 = k)) = true
  · rw [if_pos e,if_pos e]; exact r.repl k ry
  · rw [if_neg e,if_neg e]; exact Paired.snoc r ⟨rfl,ry⟩
theorem KV.drop {kvs : List (κ × V)} {vs : List (κ × Value)} (r : KV kvs vs) (k : κ) : KV (zlK kvs k) (without vs k) := by
  unfold KV at r ⊢
  unfold zlK without
  induction r with
  | nil => exact .nil
  | @cons p q ps qs h t ih =>
    obtain ⟨h1,h2⟩ := h
    rw [List.filter_cons,List.filter_cons]
    by_cases e : p.1 = k
    · have a : ¬ decide (p.1≠k) = true := by simp [e]
      have b : ¬ decide (q.1≠k) = true := by simp [h1.symm.trans e]
      rw [if_neg a,if_neg b]; exact ih
    · have e' : ¬ q.1 = k := fun z => e (h1.trans z)
      have a : decide (p.1≠k) = true := by simp [e]
      have b : decide (q.1≠k) = true := by simp [e']
      rw [if_pos a,if_pos b]; exact .cons ⟨h1,h2⟩ ih
theorem KV.length {kvs : List (κ × V)} {vs : List (κ × Value)} (r : KV kvs vs) : kvs.length = vs.length := Paired.length r
end
theorem zhH {P : Program} {w : World} {k : Key} {u : Value} (r : RelV (kV k) u) : (zaU P w).is k u = true := by
  cases k with
  | inl i => obtain ⟨t,e⟩ := (show ∃ t,u = Value.int i t from r); subst e; exact zeF P w i t
  | inr x => obtain ⟨t,e⟩ := (show ∃ t,u = Value.str x t from r); subst e; exact zeE P w x t
theorem zd7 {P : Program} {w : World} : ∀ {ks : List Key} {us : List Value},Vals (ks.map kV) us→ItemsAre (zaU P w) ks us
  | [],_,r => by rw [List.map_nil] at r; cases r; exact .nil
  | k::ks,_,r => by
    rw [List.map_cons] at r
    cases r with
    | cons h t => exact .cons (zhH h) (zd7 t)
noncomputable abbrev KT (H : Hp) : List (List Key × V)→List (List Key × Addr × Value)→Prop := Paired fun p q => p.1 = q.1∧H q.2.1 = some (.tup (p.1.map kV))∧RelV p.2 q.2.2
theorem KT.val {H : Hp} {kvs : List (List Key × V)} {xs : List (List Key × Addr × Value)} (r : KT H kvs xs) (k : List Key) : RelO (valV kvs k) ((atKey xs k).map (·.2)) := by
  induction r with
  | nil => exact True.intro
  | @cons p q ps qs h t ih =>
    obtain ⟨h1,_,h2⟩ := h
    by_cases e : p.1 = k
    · have e' : q.1 = k := h1.symm.trans e
      have b : atKey (q::qs) k = some q.2 := by simp [atKey,List.find?_cons,e']
      rw [zcO e,b]; exact h2
    · have e' : ¬ q.1 = k := fun z => e (h1.trans z)
      have b : atKey (q::qs) k = atKey qs k := by simp [atKey,List.find?_cons,e']
      rw [zcc e,b]; exact ih
theorem KT.repl {H : Hp} {kvs : List (List Key × V)} {xs : List (List Key × Addr × Value)} (r : KT H kvs xs) (k : List Key) {y : V} {u : Value} (ry : RelV y u) :
    KT H (kvs.map fun kv => if kv.1 = k then (kv.1,y) else kv) (xs.map (putAt k u)) := by
  induction r with
  | nil => exact .nil
  | @cons p q ps qs h t ih =>
    rw [List.map_cons,List.map_cons]
    refine .cons ?_ ih
    obtain ⟨h1,h2,h3⟩ := h
    unfold putAt
    by_cases e : p.1 = k
    · rw [if_pos e,if_pos (h1.symm.trans e)]; exact ⟨h1,h2,ry⟩
    · rw [if_neg e,if_neg (fun z => e (h1.trans z))]; exact ⟨h1,h2,h3⟩
theorem KT.put {H : Hp} {kvs : List (List Key × V)} {xs : List (List Key × Addr × Value)} (r : KT H kvs xs) (k : List Key) {b : Addr} {y : V} {u : Value} (hb : H b = some (.tup (k.map kV))) (ry : RelV y u) :
    KT H (putK kvs k y) (storedH xs k b u) := by
  have e : (kvs.any fun kv => decide (kv.1 = k)) = (atKey xs k).isSome := by
    rw [zeS,(r.val k).isSome_eq,Option.isSome_map]
  unfold putK storedH
  rw [e]
  by_cases q : (atKey xs k).isSome = true
  · rw [if_pos q,if_pos q]; exact r.repl k ry
  · rw [if_neg q,if_neg q]; exact Paired.snoc r ⟨rfl,hb,ry⟩
theorem KT.keeps {H H' : Hp} {kvs : List (List Key × V)} {xs : List (List Key × Addr × Value)} (r : KT H kvs xs) (ht : ∀ b ys,H b = some (.tup ys)→H' b = some (.tup ys)) : KT H' kvs xs :=
  Paired.mapP r fun _ _ z => ⟨z.1,ht _ _ z.2.1,z.2.2⟩
section
variable {P : Program} {w : World} {H : Hp} {h : Heap} {a : Addr}
theorem zkq {u : HO} (ok : HOk P w H h) (e : Rd H a u) : zaP P w H h a u := e.ok ok
theorem zgH {kvs : List (Key × V)} (ok : HOk P w H h) (e : Rd H a (.dK kvs)) : kvs.length≤sizeLine∧(a == sysModules) = false∧∃ vs,KV kvs vs∧h.DictOf (zaU P w) a vs :=
  show zaP P w H h a (.dK kvs) from zkq ok e
theorem zmC {kvs : List (Key × V)} (ok : HOk P w H h) (e : H a = some (.dK kvs)) : kvs.length≤sizeLine∧(a == sysModules) = false∧∃ vs,KV kvs vs∧h.DictOf (zaU P w) a vs := zgH ok (.inl e)
theorem ze5 {ks : List Key} (ok : HOk P w H h) (e : H a = some (.tup (ks.map kV))) : (tupleKind (zaU P w)).is h ks a := by
  obtain ⟨_,its,r,⟨o,h1,h2,n,h3⟩,_⟩ := (show zaP P w H h a (.tup (ks.map kV)) from ok a _ e)
  exact ⟨o,its.toArray,n,h1,h2,h3,by simpa using zd7 r⟩
theorem zhT {kvs : List (List Key × V)} (ok : HOk P w H h) (e : Rd H a (.dT kvs)) : kvs.length≤sizeLine∧(a == sysModules) = false ∧
    ∃ xs,KT H kvs xs∧h.DictOfH (tupleKind (zaU P w)) a xs := by
  obtain ⟨z,y,xs,r,o,es,ep,h1,h2,h3,h4,h5⟩ := (show zaP P w H h a (.dT kvs) from zkq ok e)
  refine ⟨z,y,xs,r,o,es,ep,h1,h2,h3,h4,fun x hx => ?_,h5⟩
  have all : ∀ {l : List (List Key × V)} {m : List (List Key × Addr × Value)},KT H l m→∀ x∈m,(tupleKind (zaU P w)).is h x.1 x.2.1 := by
    intro l m q
    induction q with
    | nil => intro x hx; exact nomatch hx
    | @cons p q ps qs hq t ih =>
      intro x hx
      rcases List.mem_cons.mp hx with e | hx
      · subst e
        exact ze5 ok (by rw [← hq.1]; exact hq.2.1)
      · exact ih x hx
  exact all r x hx
theorem zmB {kvs : List (List Key × V)} (ok : HOk P w H h) (e : H a = some (.dT kvs)) : kvs.length≤sizeLine∧(a == sysModules) = false ∧
    ∃ xs,KT H kvs xs∧h.DictOfH (tupleKind (zaU P w)) a xs := zhT ok (.inl e)
end
noncomputable def DGet (H : Hp) (a : Addr) (y : V) (r : Option V) : Prop :=
  (∃ kvs k,Rd H a (.dK kvs)∧y = kV k∧r = valV kvs k)∨∃ kvs k b,Rd H a (.dT kvs)∧y = .ref b∧H b = some (.tup (k.map kV))∧r = valV kvs k
noncomputable def DPut (H : Hp) (a : Addr) (y v : V) (H' : Hp) : Prop :=
  (∃ kvs k,H a = some (.dK kvs)∧y = kV k∧kvs.length < sizeLine∧H' = upd H a (.dK (putK kvs k v))) ∨
  ∃ kvs k b,H a = some (.dT kvs)∧y = .ref b∧H b = some (.tup (k.map kV))∧kvs.length < sizeLine∧H' = upd H a (.dT (putK kvs k v))
theorem DGet.k {H : Hp} {a : Addr} {kvs : List (Key × V)} {k : Key} (e : H a = some (.dK kvs)) : DGet H a (kV k) (valV kvs k) := .inl ⟨kvs,k,.inl e,rfl,rfl⟩
theorem DGet.t {H : Hp} {a b : Addr} {kvs : List (List Key × V)} {k : List Key} (e : H a = some (.dT kvs)) (eb : H b = some (.tup (k.map kV))) : DGet H a (.ref b) (valV kvs k) := .inr ⟨kvs,k,b,.inl e,rfl,eb,rfl⟩
theorem DPut.k {H : Hp} {a : Addr} {kvs : List (Key × V)} {k : Key} {v : V} (e : H a = some (.dK kvs)) (hl : kvs.length < sizeLine) : DPut H a (kV k) v (upd H a (.dK (putK kvs k v))) := .inl ⟨kvs,k,e,rfl,hl,rfl⟩
theorem DPut.t {H : Hp} {a b : Addr} {kvs : List (List Key × V)} {k : List Key} {v : V} (e : H a = some (.dT kvs)) (eb : H b = some (.tup (k.map kV))) (hl : kvs.length < sizeLine) :
    DPut H a (.ref b) v (upd H a (.dT (putK kvs k v))) := .inr ⟨kvs,k,b,e,rfl,eb,hl,rfl⟩
section
variable {X : Cx} {pins : List (Addr × Obj)} {σ : St} {H : Hp} {s : Shared} {a : Addr} {y v : V} {u r : Value} {o : Option V} {A : Around} {E : Value → Shared → Prop}
theorem Inv.big (I : Inv X pins σ H s) : sysModules < s.heap.objs.size := by
  have h : mainGlobals < s.heap.objs.size := (I.mod.glob.keeps I.bk).lt
  exact Nat.lt_trans (by decide) h
theorem zgM {Q : Value→Shared→Prop} (hu : A.units + 1 < cLine) (I : Inv X pins σ H s) (g : DGet H a y (some v)) (ry : RelV y u) (h : ∀ w' s',Inv X pins σ H s'→RelV v w'→Q w' s') :
    wpAny (model X.prog X.w) A (getItem (.ref a) u) Q E s := by
  rcases g with ⟨kvs,k,e,ey,l⟩ | ⟨kvs,k,b,e,ey,eb,l⟩
  · subst ey
    obtain ⟨z,hd,vs,rel,dd⟩ := zgH I.hok e
    obtain ⟨w',hw,rw'⟩ := RelO.some_of (v := v) (o := valueAt vs k) (by rw [l]; exact rel.val k)
    exact wpAny_getItem_of (zhH ry) dd.mapOf hw (h w' _ (I.tok _) rw')
  · subst ey
    cases (show u = Value.ref b from ry)
    obtain ⟨z,hd,xs,rel,dd⟩ := zhT I.hok e
    obtain ⟨w',hw,rw'⟩ := RelO.some_of (v := v) (o := (atKey xs k).map (·.2)) (by rw [l]; exact rel.val k)
    obtain ⟨p,hp,hp2⟩ := Option.map_eq_some_iff.mp hw
    refine wpAny_getItem_heap (tupleKind_room_in1 hu) (ze5 I.hok eb) dd hp ?_
    rw [hp2]
    exact h w' _ (I.tok _) rw'
theorem d_in {Q : Value→Shared→Prop} (hu : A.units + 1 < cLine) (I : Inv X pins σ H s) (g : DGet H a y o) (ry : RelV y u) (h : ∀ s',Inv X pins σ H s'→Q (.bool o.isSome) s') :
    wpAny (model X.prog X.w) A (compareOp .In u (.ref a)) Q E s := by
  rcases g with ⟨kvs,k,e,ey,l⟩ | ⟨kvs,k,b,e,ey,eb,l⟩
  · subst ey
    obtain ⟨z,hd,vs,rel,dd⟩ := zgH I.hok e
    refine wpAny_in_of (zhH ry) hd dd.mapOf ?_
    rw [← (rel.val k).isSome_eq,← l]
    exact h _ (I.tok _)
  · subst ey
    cases (show u = Value.ref b from ry)
    obtain ⟨z,hd,xs,rel,dd⟩ := zhT I.hok e
    refine wpAny_in_heap (tupleKind_room_in1 hu) (ze5 I.hok eb) hd dd ?_
    have q := (rel.val k).isSome_eq
    rw [Option.isSome_map] at q
    rw [← q,← l]
    exact h _ (I.tok _)
theorem zgK {h' : Heap} {t' : Nat} {ob : HO} (I : Inv X pins σ H s) (mu : Mut (H a)) (hs : Heap.SameBut a s.heap h') (he : ∃ q,h'.get? a = some q) (new : zaP X.prog X.w (upd H a ob) h' a ob) :
    Inv X pins σ (upd H a ob) { s with heap := h',toks := t' } :=
  I.write (x := a) (e := a) mu (.inl rfl) (fun b q hb z => (hs.2 b hb).trans z) he new
theorem zlL {P : Program} {w : World} {H' : Hp} {h' : Heap} {kvs : List (Key × V)} {vs : List (Key × Value)} (z : kvs.length≤sizeLine) (hd : (a == sysModules) = false) (rel : KV kvs vs) (dd : h'.DictOf (zaU P w) a vs) :
    zaP P w H' h' a (.dK kvs) := ⟨z,hd,vs,rel,dd⟩
theorem zgL {H' : Hp} {Q : Unit→Shared→Prop} (hu : A.units + 1 < cLine) (I : Inv X pins σ H s) (g : DPut H a y v H') (ry : RelV y u) (rv : RelV v r) (h : ∀ s',Inv X pins σ H' s'→Q () s') :
    wpAny (model X.prog X.w) A (setItem (.ref a) u r) Q E s := by
  rcases g with ⟨kvs,k,e,ey,l,eH⟩ | ⟨kvs,k,b,e,ey,eb,l,eH⟩
  · subst ey eH
    obtain ⟨z,hd,vs,rel,dd⟩ := zmC I.hok e
    have hz : vs.length≤sizeLine := by rw [← rel.length]; exact z
    have hl : (putK kvs k v).length≤sizeLine := by have := zc8 kvs k v; omega
    refine wpAny_setItem_pairs (hsz := hz) (zhH ry) dd fun h' dd' hs => h _ ?_
    have he : ∃ q,h'.get? a = some q := let ⟨q,_,_,hq,_⟩ := dd'; ⟨q,hq⟩
    exact zgK I (by rw [e]; exact True.intro) hs he (zlL hl hd (rel.put k rv) dd')
  · subst ey eH
    cases (show u = Value.ref b from ry)
    obtain ⟨z,hd,xs,rel,dd⟩ := zmB I.hok e
    have hz : xs.length≤sizeLine := by rw [← Paired.length rel]; exact z
    have hl : (putK kvs k v).length≤sizeLine := by have := zc8 kvs k v; omega
    refine wpAny_setItem_heap (hsz := hz) (tupleKind_room_in1 hu) (ze5 I.hok eb) dd fun h' dd' hs => h _ ?_
    obtain ⟨q,es,ep,hq,h2,h3,h4,_,h5⟩ := dd'
    refine zgK I (by rw [e]; exact True.intro) hs ⟨q,hq⟩ ⟨hl,hd,_,(rel.put k eb rv).keeps fun c ys ec => ?_,q,es,ep,hq,h2,h3,h4,h5⟩
    rw [zae (zmp ec e (fun z => nomatch z))]
    exact ec
end
section
variable {X : Cx} {pins : List (Addr × Obj)} {σ : St} {H : Hp} {s : Shared} {a : Addr} {kvs : List (Key × V)} {k : Key} {u : Value} {A : Around} {E : Value → Shared → Prop}
theorem zmE {Q : Value→Shared→Prop} (I : Inv X pins σ H s) (e : Rd H a (.dK kvs)) (h : ∀ t s',Inv X pins σ H s'→Q (.int kvs.length t) s') : wpAny (model X.prog X.w) A (call (.builtin "len") [.ref a]) Q E s := by
  obtain ⟨z,hd,vs,rel,dd⟩ := zgH I.hok e
  refine call_len_dict hd dd (by rw [← rel.length]; rw [sizeLine_eq] at z; omega) ?_
  rw [← rel.length]
  exact h _ _ (I.tok _)
end
theorem zeI {X : Cx} {pins : List (Addr × Obj)} {σ : St} {H : Hp} {s : Shared} {a : Addr} {y : V} {o : Option V} (I : Inv X pins σ H s) (g : DGet H a y o) : s.TypeIs (.ref a) "dict" := by
  rcases g with ⟨kvs,k,e,_,_⟩ | ⟨kvs,k,b,e,_,_,_⟩
  · obtain ⟨_,_,vs,_,dd⟩ := zgH I.hok e
    exact dd.typeIs
  · obtain ⟨_,_,xs,_,dd⟩ := zhT I.hok e
    exact dd.typeIs
section
variable {X : Cx} {o i e value : Expr} {pos pos' tpos : Pos} {td ty tv : TE}
end
theorem zhU {P : Program} {w : World} {H : Hp} (h : Heap) (hb : sysModules < h.objs.size) : zaP P w H (h.push { cls := .type "dict",data := .dict #[] }) h.objs.size (.dK []) :=
  ⟨Nat.zero_le _,beq_eq_false_iff_ne.mpr (Ne.symm (Nat.ne_of_lt hb)),[],.nil,Heap.DictOf.new h⟩
noncomputable def zj9 : TE := fun _ H Q => ∀ p,H p = none→Q (.ref p) (upd H p (.dK []))
section
variable {X : Cx} {pos : Pos}
theorem zhs : PE X (.Dict [] [] pos) zj9 := fun pins s σ H Q I h =>
  wpAny_Dict_empty ⟨.ref s.heap.objs.size,_,I.laid (a := s.heap.objs.size) (o := .dK []) (t' := s.toks) (fun _ _ q => Heap.get?_push_of_some _ q) (Nat.le_refl _) (zhU s.heap I.big),rfl,h _ (I.hok.fresh (Nat.le_refl _))⟩
end
structure M1 (X : Cx) (o : Expr) (m : Str) (apos : Pos) (e : Expr) (cpos : Pos) : Prop where
  base : attributeBase o m X.env (eval o X.env) = eval o X.env
  few : ((backTo cpos (starEach [e] X.env)).all (fun x => ! x.1) && (backToKw cpos (keywordEach [] X.env)).all (fun x => x.1.isSome)
    && decide (([e] : List Expr).length + ([] : List Keyword).length + (if ([] : List Keyword).isEmpty then 0 else 1) < 30)) = true
  line : (apos.endLine == cpos.line) = true
  trees : backTo cpos (starEach [e] X.env) = [(false,eval e X.env)]
structure M2 (X : Cx) (o : Expr) (m : Str) (apos : Pos) (e f : Expr) (cpos : Pos) : Prop where
  base : attributeBase o m X.env (eval o X.env) = eval o X.env
  few : ((backTo cpos (starEach [e,f] X.env)).all (fun x => ! x.1) && (backToKw cpos (keywordEach [] X.env)).all (fun x => x.1.isSome)
    && decide (([e,f] : List Expr).length + ([] : List Keyword).length + (if ([] : List Keyword).isEmpty then 0 else 1) < 30)) = true
  line : (apos.endLine == cpos.line) = true
  trees : backTo cpos (starEach [e,f] X.env) = [(false,eval e X.env),(false,eval f X.env)]
section
variable {X : Cx} {pins : List (Addr × Obj)} {σ : St} {H : Hp} {s : Shared} {a : Addr} {y d : V} {u r : Value} {o : Option V} {A : Around} {E : Value → Shared → Prop}
end
section
variable {X : Cx} {o e f : Expr} {apos cpos : Pos} {td ty tx : TE}
end
section
variable {X : Cx} {pins : List (Addr × Obj)} {σ : St} {H : Hp} {s : Shared} {a : Addr} {kvs : List (Key × V)} {A : Around} {E : Value → Shared → Prop}
end
section
variable {X : Cx} {pins : List (Addr × Obj)} {σ : St} {H : Hp} {s : Shared} {a : Addr} {y : V} {u : Value} {A : Around} {E : Value → Shared → Prop}
end
end L2
namespace Att
open PySem PySem.W PySem.Calls PyProof.Rows
theorem zdb {P : Params} {h : Heap} : ∀ (ns : List Int) (vs : List Value),WellAll P h vs (ns.map WData.int)→IntsAre vs ns := by
  intro ns
  induction ns with
  | nil =>
    intro vs w
    rw [List.map_nil] at w
    cases w
    exact .nil
  | cons n ns ih =>
    intro vs w
    rw [List.map_cons] at w
    cases w with
    | cons a b =>
      cases a
      exact .cons _ _ (ih _ b)
theorem zfP {l : OpenLaw} {n : Nat} (hn : l.most = some n) {P : Params} {h : Heap} {args : List WData} {vals : List Value}
    (hpre : l.row.toRowW.claim.pre args = true) (hwl : WellAll P h vals args) :
    ∃ a vs ns,vals = [Value.ref a]∧args = [WData.list (ns.map WData.int)]∧h.get? a = some { cls := .type "list",data := .seq vs.toArray }∧IntsAre vs ns∧ns.length≤n := by
  have hsh : WShape.hasAll [] args [.list .int] = true := (pre_splitW hpre).1
  have hc : l.pre.holds [] { args := args } = true := (pre_splitW hpre).2
  obtain ⟨d,r,rfl,h1,h2⟩ := hasAllW_cons hsh
  obtain rfl := hasAllW_nil h2
  obtain ⟨xs,rfl,h3⟩ := hasW_list h1
  obtain ⟨ns,rfl⟩ := items_int h3
  have hlen : ns.length≤n := by
    unfold OpenLaw.pre at hc
    have h4 : (WTm.not (.lt (.lit (.int (n : Int))) (.len (.arg 0)))).holds [] { args := [.list (ns.map .int)] } = true := by
      have h4 := (holds_andW hc).1
      rw [hn] at h4
      exact h4
    have h5 := condW_of h4 (w_not (w_lt w_lit (w_len_list (w_arg rfl))))
    rw [List.length_map] at h5
    refine Nat.le_of_not_lt fun q => ?_
    have q' : (n : Int) < ((ns.length : Nat) : Int) := by omega
    first
      | (rw [decide_eq_true q'] at h5; exact absurd h5 (by decide))
      | (simp at h5; omega)
  cases hwl with
  | cons w1 w2 =>
    cases w2
    cases w1 with
    | list ho hall => exact ⟨_,_,ns,rfl,rfl,ho,zdb ns _ hall,hlen⟩
theorem zf0 (l : OpenLaw) (args : List WData) : l.row.toRowW.claim.post args (.bool true) args = true :=
  postW_of (r := l.row.toRowW) (X := (true == true))
    (show WShape.has [] (.bool true) .bool = true by first | rfl | decide | simp [WShape.has,WShape.arms,WShape.armsAll])
    (show (WTm.eq .res (.lit (.bool true))).value [] { args := args,res := some (.bool true),after := args } = some (.bool (true == true)) from w_eq_bool (w_res rfl) w_lit) rfl
theorem attach_call {l : OpenLaw} {n : Nat} {q : Program} {loose : List Str} {XP : (Str→Option Value)→Heap→Prop} {YP : World→Heap→Prop} {d : DefRec}
    (hn : l.most = some n) (hdf : d.params.defaults = [])
    (call : ∀ (w : World) (s₀ s₁ : Shared) (mg mb : Str→Option Value) (fa : Addr) (o : Obj) (pm cd doc : Value) (a : Addr) (vs : List Value) (ns : List Int),
      Ground q loose [] XP w s₀ mg mb s₁.heap→YP w s₁.heap →
      s₁.heap.get? fa = some o→o.data = .func (docDef d.name d.params d.body d.scope pm cd doc)→s₁.heap.CodeRec cd d.name→mg d.name = some (.ref fa) →
      s₁.heap.get? a = some { cls := .type "list",data := .seq vs.toArray }→IntsAre vs ns→ns.length≤n→s₁.gens = #[] →
      codeAny (model l.prog w) callerA (.call (.ref fa) ⟨[.ref a],[]⟩) (fun r s' => r = .ok (.ret (.bool true))∧OldK s₁.heap s'.heap∧s'.os = s₁.os∧AllBare s'.gens) s₁) :
    WalkO q loose XP YP l.row.toRowW d [] (fun f vs => PySem.call f vs) := by
  intro w s₀ s₁ mg mb G Y fa o pm cd doc dV kV ho hd hcd hD hmg hg args vals as hpre hlay hrd hwl hlo
  obtain rfl : dV = .none := Dflts.none hD hdf
  obtain rfl : kV = .none := Dflts.noKw hD
  obtain ⟨a,vs,ns,rfl,rfl,hobj,hints,hlen⟩ := zfP hn hpre hwl
  refine enter_call (codeAny_mono (call w s₀ s₁ mg mb fa o pm cd doc a vs ns G Y ho (fd_plain hd) hcd hmg hobj hints hlen hg) fun r s' hq => ?_)
  obtain ⟨rfl,h2,h3,h4⟩ := hq
  exact ⟨.inl ⟨.bool true,.bool true,[],rfl,fun _ => rfl,.bool true,zf0 l _,fun _ => ⟨List.Pairwise.nil,fun _ hm => (nomatch hm)⟩⟩,h2,h3,h4⟩
section
variable {prog : Program} {w : World} {A : Around} {E : Value → Shared → Prop} {s : Shared} {K : Frag}
end
end Att
namespace L2
open PySem PySem.Spec PyProof.Rows
theorem zdT : ∀ {vs : List Value} {ns : List Int},IntsAre vs ns→Vals (ns.map V.int) vs
  | _,_,.nil => .nil
  | _,_,.cons n t h => .cons ⟨t,rfl⟩ (zdT h)
noncomputable def Only (H : Hp) : Prop := ∀ b,H b = none∨∃ o xs,H b = some (.frz o (.lst xs))
theorem zhF {P : Program} {w : World} {K : PySem.W.Frag} {mg mb : Str→Option Value} {CX : CXT} {k : Nat} {fa a : Addr} {fd : FuncData} {x : Str} {sp : Sp} {s₁ : Shared} {vs : List Value} {ns : List Int}
    (KX : K.In s₁.heap) (hns : s₁.heap.Ns mainGlobals mg) (hb : s₁.heap.Ns builtinsNs mb) (hbb : ∀ x : Str,x≠"__name__"→mb x = bootBuiltins x) (hlim : s₁.heap.NoLimit) (hg : s₁.gens = #[])
    (ha : s₁.heap.get? a = some { cls := .type "list",data := .seq vs.toArray }) (hi : IntsAre vs ns) (hl : ns.length≤sizeLine) (hr : Room k callerA)
    (F : ∀ base : Heap,K.In base→base.Ns mainGlobals mg→FnOk P w K mg base CX k fa fd [x] sp) (hbind : ∀ (s : Shared) (u : Value),BindsTo s fd ⟨[u],[]⟩ [(x,u)])
    (hsp : ∀ H : Hp,Only H→SqL K H a (ns.map V.int)→sp [.ref a] H (fun v _ => v = .bl true) fun _ _ _ => False)
    (hCX : ∀ H e s',CX [] H s₁ (fun _ _ _ => False) e s'→False) :
    codeAny (model P w) callerA (.call (.ref fa) ⟨[.ref a],[]⟩) (fun r s' => r = .ok (.ret (.bool true))∧OldK s₁.heap s'.heap∧s'.os = s₁.os∧AllBare s'.gens) s₁ := by
  have rv := zdT hi
  have lenV := hi.length
  have core : ∀ H : Hp,Only H→SqL K H a (ns.map V.int)→HOk P w H s₁.heap→(∀ b,H b≠none→b = a)→(H a≠none→K.lookup a = none) →
      codeAny (model P w) callerA (.call (.ref fa) ⟨[.ref a],[]⟩) (fun r s' => r = .ok (.ret (.bool true))∧OldK s₁.heap s'.heap∧s'.os = s₁.os∧AllBare s'.gens) s₁ := by
    intro H hO hS hok hA hK
    have base_of : ∀ {b : Addr} {o : Obj},s₁.heap.get? b = some o→H b = none→(hidT s₁.heap H).get? b = some o := fun e n => zhK e n
    have noA : ∀ {b : Addr} {o : Obj} {es : Array DictEntry} {ep : Nat},s₁.heap.get? b = some o→o.data = .dict es ep→H b = none := fun {b o es ep} e d => by
      cases q : H b with
      | none => rfl
      | some u =>
        have e' : b = a := hA b (by rw [q]; simp)
        subst e'
        rw [ha] at e; cases e
        have d' : Data.seq vs.toArray _ = Data.dict es ep := d
        cases d'
    have nsK : ∀ {b : Addr} {m : Str→Option Value},s₁.heap.Ns b m→(hidT s₁.heap H).Ns b m := fun {b m} ⟨o,es,ep,e,d,r⟩ => ⟨o,es,ep,base_of e (noA e d),d,r⟩
    have hKb : K.In (hidT s₁.heap H) := fun b o e => base_of (KX b o e) (by
      cases q : H b with
      | none => rfl
      | some u =>
        have e' : b = a := hA b (by rw [q]; simp)
        subst e'
        rw [hK (by rw [q]; simp)] at e; cases e)
    have hM : Mod K mg (hidT s₁.heap H) := ⟨hKb,nsK hns,⟨mb,nsK hb,hbb⟩,let ⟨mc,h1,h2⟩ := hlim; ⟨mc,nsK h1,h2⟩⟩
    have e0 : Env0 P w K mg (hidT s₁.heap H) callerA [] s₁ H := ⟨rfl,hM,fun b o e => zjn e,Nat.le_of_eq (zgv _ _),trivial,fun b hb => absurd (show b∈([] : List Addr) from hb) (by simp),hok,.of_eq hg⟩
    refine codeAny_mono ((F _ hKb (nsK hns)).run callerA [] s₁ H ⟨[.ref a],[]⟩ [.ref a] [.ref a] _ _ hr e0 (hbind s₁ (.ref a)) (.cons rfl .nil) (hsp H hO hS)) fun r s' h => ?_
    cases r with
    | error e => exact (hCX H e s' h).elim
    | ok fl =>
      cases fl with
      | next => exact False.elim h
      | brk => exact False.elim h
      | cont => exact False.elim h
      | ret u =>
        obtain ⟨v,H',os,bare,un,hok',r',q⟩ := h
        have q' : v = .bl true := q
        subst q'
        obtain rfl : u = Value.bool true := r'
        refine ⟨rfl,OldK.of_keep fun b o e => ?_,os,bare⟩
        cases q : H b with
        | none => exact un.keep b o e q (by intro z; exact absurd (show b∈([] : List Addr) from z) (by simp)) (by simp)
        | some u =>
          rcases hO b with z | ⟨ob,xs,z⟩
          · rw [q] at z; cases z
          · have z2 := un.frzs b ob _ z
            obtain ⟨e1,_⟩ := hok b _ z
            obtain ⟨e2,_⟩ := hok' b _ z2
            rw [e] at e1; cases e1
            exact e2
  cases hk : K.lookup a with
  | some o =>
    have e := KX a o hk
    rw [ha] at e
    cases e
    refine core (fun _ => none) (fun _ => .inl rfl) (.inr ⟨_,vs.toArray,_,hk,rfl,rfl,rfl,by rw [List.size_toArray,lenV]; exact hl,by simpa using rv⟩) (fun b u z => by have z' : (none : Option HO) = some u := z; cases z') (fun b z => absurd rfl z) fun z => absurd rfl z
  | none =>
    refine core (fun b => if b = a then some (.frz { cls := .type "list",data := .seq vs.toArray } (.lst (ns.map V.int))) else none) (fun b => ?_) (.inl (.inr ⟨{ cls := .type "list",data := .seq vs.toArray },if_pos rfl⟩)) (fun b u z => ?_) (fun b z => ?_) fun _ => hk
    · by_cases hb : b = a
      · exact .inr ⟨_,_,if_pos hb⟩
      · exact .inl (if_neg hb)
    · by_cases hb : b = a
      · have z' := (if_pos hb).symm.trans z
        cases z'
        subst hb
        exact ⟨ha,by rw [List.length_map]; exact hl,vs,_,rv,ha⟩
      · have z' := (if_neg hb).symm.trans z
        cases z'
    · by_cases hb : b = a
      · exact hb
      · exact absurd (if_neg hb) z
end L2
namespace L2
open PySem PySem.Spec PyProof.Rows
noncomputable abbrev KOf {K : PySem.W.Frag} {h : Heap} (_ : K.In h) : PySem.W.Frag := K
theorem walk_of {l : PySem.W.OpenLaw} {n k : Nat} {q : Program} {loose : List Str} {XP : (Str→Option Value)→Heap→Prop} {YP : World→Heap→Prop} {d : DefRec} {K : Params→PySem.W.Frag} {CX : World→CXT} {sp : World→Sp} {x : Str}
    (hn : l.most = some n) (hn2 : n≤sizeLine) (hdf : d.params.defaults = []) (hr : Room k callerA)
    (hY : ∀ (w : World) (h : Heap),YP w h→(K w.params).In h)
    (F : ∀ (w : World) (mg : Str→Option Value) (fa : Addr) (h : Heap),(K w.params).In h→h.Ns mainGlobals mg→mg d.name = some (.ref fa) →
      ∃ fd : FuncData,(∀ (s : Shared) (u : Value),BindsTo s fd ⟨[u],[]⟩ [(x,u)]) ∧
        ∀ base : Heap,(K w.params).In base→base.Ns mainGlobals mg→FnOk l.prog w (K w.params) mg base (CX w) k fa fd [x] (sp w))
    (hsp : ∀ (w : World) (H : Hp) (a : Addr) (ns : List Int),ns.length≤n→Only H→SqL (K w.params) H a (ns.map V.int)→sp w [.ref a] H (fun v _ => v = .bl true) fun _ _ _ => False)
    (hCX : ∀ (w : World) (H : Hp) (s : Shared) (e : Value) (s' : Shared),CX w [] H s (fun _ _ _ => False) e s'→False) :
    PySem.W.WalkO q loose XP YP l.row.toRowW d [] (fun f vs => PySem.call f vs) := by
  refine Att.attach_call hn hdf fun w s₀ s₁ mg mb fa o pm cd doc a vs ns G Y ho hd hcd hmg hobj hints hlen hg => ?_
  have KX := hY w _ Y
  obtain ⟨fd,hb,hF⟩ := F w mg fa _ KX G.T.g hmg
  exact zhF KX G.T.g G.T.b G.T.builtins G.T.nolimit hg hobj hints (Nat.le_trans hlen hn2) hr hF hb (fun H hO hS => hsp w H a ns hlen hO hS) fun H e s' => hCX w H s₁ e s'
end L2
namespace L2
open PySem PySem.Spec PyProof.Rows
noncomputable def defArgs (s : Stmt) : Arguments := match s with
  | .FunctionDef _ a _ _ _ _ _ _ _ _ => a
  | _ => { posonlyargs := [],args := [],vararg := none,kwonlyargs := [],kw_defaults := [],kwarg := none,defaults := [] }
noncomputable def defBody (s : Stmt) : List Stmt := match s with
  | .FunctionDef _ _ b _ _ _ _ _ _ _ => b
  | _ => []
noncomputable def defScope (s : Stmt) : Scope := match s with
  | .FunctionDef _ _ _ _ _ _ sc _ _ _ => sc
  | _ => { kind := .function,names := [],isGenerator := false,isCoroutine := false }
noncomputable abbrev CX0 : CXT := fun _ _ _ _ _ _ => False
noncomputable abbrev E0 : XK := fun _ _ _ => False
theorem zkS {X : Cx} : zg0 CX0 X E0 := fun _ _ _ _ _ _ _ h => h.elim
structure Fun (K : PySem.W.Frag) (x qual : Str) (st : Stmt) (f : Addr) (fd : FuncData) : Prop where
  ex : ∃ (oc : Value) (od : Option Addr) (kV doc pm : Value) (an : Option Addr) (cdv ct : Value) (osl : Array (Option Value)),
    fd = PySem.W.fnOf x qual (defArgs st) (defBody st) (defScope st) .none kV doc pm an cdv ct∧K.lookup f = some ⟨oc,od,.func fd,osl⟩∧PySem.W.codeIn K cdv qual = true
  kp : PySem.W.keepIn K (.ref f) = true
section
variable {P : Program} {w : World} {K : PySem.W.Frag} {mg : Str → Option Value} {base : Heap}
theorem Fun.ok {x qual : Str} {st : Stmt} {f : Addr} {fd : FuncData} {N ps : List Str} {k : Nat} {sp : Sp} (F : Fun K x qual st f fd) (S : FnScope N ps (defScope st)) (len : ∀ vs H Q E,sp vs H Q E→vs.length = ps.length)
    (hbody : ∀ (cdv : Value) (A : Around) (outer : List Env) (s : Shared) (H : Hp) (vs : List V) (Q : VK) (E : XK),Room k (A.deeper (envOfC qual (defScope st) s.heap.objs.size f cdv))→sp vs H Q E →
      ∃ t,PSs (cxOf CX0 P w K mg base N qual (defScope st) f cdv A outer s H E).nox (defBody st) t∧t { nx := fun _ H' => Q .non H',rt := Q } (start N vs) H) : FnOk P w K mg base CX0 (k + 1) f fd ps sp := by
  obtain ⟨oc,od,kV,doc,pm,an,cdv,ct,osl,rfl,lk,hcd⟩ := F.ex
  refine zjG lk hcd S len fun A outer s H vs Q E hr hsp => ?_
  obtain ⟨t,h,q⟩ := hbody cdv A outer s H vs Q E hr hsp
  exact ⟨t,h.nox,q⟩
theorem Fun.binds {x qual : Str} {st : Stmt} {f : Addr} {fd : FuncData} {ps : List Str} (F : Fun K x qual st f fd)
    (h : ∀ (kV doc pm : Value) (an : Option Addr) (cdv ct : Value) (us : List Value),us.length = ps.length→bindArgs (PySem.W.fnOf x qual (defArgs st) (defBody st) (defScope st) .none kV doc pm an cdv ct) ⟨us,[]⟩ = pure (ps.zip us)) : zcr K fd ps [] := by
  obtain ⟨oc,od,kV,doc,pm,an,cdv,ct,osl,rfl,lk,hcd⟩ := F.ex
  exact .all (h kV doc pm an cdv ct)
theorem fun_mk {x qual : Str} {st : Stmt} {f : Addr} {oc : Value} {od an : Option Addr} {osl : Array (Option Value)} {kV doc pm cdv ct : Value} (l : K.lookup f = some ⟨oc,od,.func (PySem.W.fnOf x qual (defArgs st) (defBody st) (defScope st) .none kV doc pm an cdv ct),osl⟩)
    (c : PySem.W.codeIn K cdv qual = true) (k : PySem.W.keepIn K (.ref f) = true) : Fun K x qual st f (PySem.W.fnOf x qual (defArgs st) (defBody st) (defScope st) .none kV doc pm an cdv ct) := ⟨⟨oc,od,kV,doc,pm,an,cdv,ct,osl,rfl,l,c⟩,k⟩
end
theorem zbM {A : Around} {k : Nat} (hr : Room k A) : A.units + 1 < cLine := Nat.lt_of_le_of_lt (Nat.add_le_add_left (by decide : 1≤64) _) hr.units
section
variable {X : Cx}
theorem zgT : zbR X (.builtin "len") (fun xs H Q => ∃ a kvs,xs = [V.ref a]∧Rd H a (.dK kvs)∧Q (.int kvs.length) H) := by
  intro pins s σ H xs us Q I r h
  obtain ⟨a,kvs,rfl,ha,q⟩ := h
  obtain ⟨u,rfl,ru⟩ := zdU r
  cases ru
  exact zmE I ha fun t s' I' => ⟨.int kvs.length,H,I',⟨t,rfl⟩,q⟩
end
noncomputable def Same (H H' : Hp) : Prop := ∀ b o,H b = some o→H' b = some o
theorem Same.refl (H : Hp) : Same H H := fun _ _ h => h
theorem Same.trans {H H1 H2 : Hp} (a : Same H H1) (b : Same H1 H2) : Same H H2 := fun c o h => b c o (a c o h)
theorem Same.free {H H' : Hp} (e : Same H H') {l : Addr} (h : H' l = Option.none) : H l = Option.none := by
  cases q : H l with
  | none => rfl
  | some o =>
    rw [e l o q] at h
    cases h
theorem Same.seq {K : PySem.W.Frag} {H H' : Hp} {a : Addr} {xs : List V} (e : Same H H') (h : SqL K H a xs) : SqL K H' a xs := by
  rcases h with (h | ⟨o,h⟩) | h
  · exact .inl (.inl (e _ _ h))
  · exact .inl (.inr ⟨o,e _ _ h⟩)
  · exact .inr h
section
variable {κ : Type} [DecidableEq κ]
end
end L2
end
section
namespace DL
open PySem
open PySem.SeqAt
open PySem.AutoSeq1 (wpAny_loadPart')
open PySem.MeetsSeq PySem.MeetsSeq2 PySem.MeetsSeq3
noncomputable def zgp (items : Array Value) (x : Value) : Nat→Option Fin × Unit→Sem (ForInStep (Option Fin × Unit)) := fun i _ => match items[i]? with
  | some y => do
    let c ← eqBool y x
    if c = true then do
        let r ← retInt i
        pure (ForInStep.done (some r,()))
      else pure (ForInStep.yield (none,()))
  | _ => pure (ForInStep.yield (none,()))
theorem zjw {prog : Program} {w : World} {A : Around} {E : Value→Shared→Prop} {s : Shared} {items : Array Value} {x : Value} {e : Value→Bool} {j : Nat} (hj : j < items.size) (hit : e items[j] = true) (he : ∀ y,y∈items→EqAt A s y x (e y))
    {Q : Option Fin × Unit→Shared→Prop} (hq : Q (some (.done (.ret (.int j s.toks))),()) { s with toks := s.toks + 1 }) :
    ∀ (k i : Nat),j = i + k→(∀ m (hm : m < items.size),i≤m→m < j→e items[m] = false)→wpAny (model prog w) A (forIn (List.range' i (items.size - i)) (none,()) (zgp items x)) Q E s := by
  intro k
  induction k with
  | zero =>
    intro i hk _
    obtain rfl : j = i := by omega
    obtain ⟨r,hr⟩ : ∃ r,items.size - j = r + 1 := ⟨items.size - j - 1,by omega⟩
    rw [hr,List.range'_succ,List.forIn_cons]
    refine wpAny_bind ?_
    unfold zgp
    rw [show items[j]? = some items[j] by simp [hj]]
    refine wpAny_bind (he _ (Array.getElem_mem hj) prog w _ _ ?_)
    rw [hit,if_pos rfl]
    refine wpAny_bind (m := retInt j) ?_
    unfold retInt
    wp_walk
    exact hq
  | succ k ih =>
    intro i hk hno
    have hi : i < items.size := by omega
    obtain ⟨r,hr⟩ : ∃ r,items.size - i = r + 1 := ⟨items.size - i - 1,by omega⟩
    rw [hr,List.range'_succ,List.forIn_cons]
    refine wpAny_bind ?_
    unfold zgp
    rw [show items[i]? = some items[i] by simp [hi]]
    refine wpAny_bind (he _ (Array.getElem_mem hi) prog w _ _ ?_)
    rw [hno i hi (Nat.le_refl _) (by omega),if_neg Bool.false_ne_true]
    refine wpAny_pure ?_
    have := ih (i + 1) (by omega) (fun m hm h1 h2 => hno m hm (by omega) h2)
    rw [show items.size - (i + 1) = r by omega] at this
    exact this
theorem zdB (l : Addr) (items : Array Value) (n : Nat) (dd : Option Addr) (sl : Array (Option Value)) (x : Value) (e : Value→Bool) (j : Nat) (hj : j < items.size)
    (hit : e items[j] = true) (hno : ∀ m (hm : m < items.size),m < j→e items[m] = false) :
    Meets (Builtin.«tuple.index» ⟨[.ref l,x],[]⟩)
      (fun A R s => s.heap.get? l = some { cls := .type "tuple",dict := dd,data := .seq items n,slots := sl }∧(∀ y,y∈items→EqAt A.in1 s y x (e y))∧R (.ok (.ret (.int j s.toks))) { s with toks := s.toks + 1 }) := by
  intro prog w A R s h
  obtain ⟨hp,g,d,tk,os⟩ := s; obtain ⟨hl,he,h⟩ := h
  unfold Builtin.«tuple.index»
  simp only [Std.Legacy.Range.forIn_eq_forIn_range']
  generalize hF : @forIn Sem (List Nat) Nat _ (Option Fin × Unit) = F
  wp_walk using wpAny_loadPart' hl
  subst hF
  rw [show ([:min items.size items.size] : Std.Legacy.Range).size = items.size - 0 by simp [Std.Legacy.Range.size]]
  refine zjw hj hit he ?_ j 0 (by omega) (fun m hm _ h2 => hno m hm h2)
  exact wpAny_pure h
end DL
end
section
namespace DL
open PySem PyProof.Rows
section
variable {prog : Program} {w : World} {A : Around} {E : Value → Shared → Prop} {s : Shared}
end
end DL
end
section
namespace DL
open PySem PyProof.Rows PySem.W
noncomputable def ziy {α : Type} (c : Nat→Nat→Bool) : KasT α→α
  | .ret a => a
  | .ask i j k => ziy c (k (c i j))
inductive Asks (n : Nat) {α : Type} (P : α→Prop) : KasT α→Prop where
  | ret {a : α} : P a→Asks n P (.ret a)
  | ask {i j : Nat} {k : Bool→KasT α} : i < n→j < n→(∀ b,Asks n P (k b))→Asks n P (.ask i j k)
theorem Asks.bind {n : Nat} {α β : Type} {P : α→Prop} {P' : β→Prop} {t : KasT α} {f : α→KasT β} (h : Asks n P t) (hf : ∀ a,P a→Asks n P' (f a)) : Asks n P' (t.bind f) := by
  induction h with
  | ret h => exact hf _ h
  | ask h1 h2 _ ih => exact .ask h1 h2 ih
theorem Asks.run {n : Nat} {α : Type} {P : α→Prop} {t : KasT α} (h : Asks n P t) (c : Nat→Nat→Bool) : P (ziy c t) := by
  induction h with
  | ret h => exact h
  | ask _ _ _ ih => exact ih _
theorem Asks.mono {n : Nat} {α : Type} {P P' : α→Prop} {t : KasT α} (h : Asks n P t) (hp : ∀ a,P a→P' a) : Asks n P' t := by
  induction h with
  | ret h => exact .ret (hp _ h)
  | ask h1 h2 _ ih => exact .ask h1 h2 ih
noncomputable def zjT (n : Nat) (p : Array Nat) : Prop := p.toList.Perm (List.range n)
theorem zjT.rev {n : Nat} {p : Array Nat} (h : zjT n p) (i j : Nat) : zjT n (kas_rev p i j) := (Array.perm_iff_toList_perm.mp (mirror_perm p i j ((j - i) / 2))).trans h
section
variable {n : Nat} (hn : 0 < n)
include hn
end
end DL
end
section
namespace DL
open PySem PyProof.Rows PySem.W PySem.Calls
section
variable {prog : Program} {w : World} {A : Around} {E : Value → Shared → Prop} {s : Shared}
end
end DL
end
section
namespace DL
open PySem PySem.Spec PyProof.Rows L2 PySem.W PySem.Calls
structure Lft (fr : List Addr) (a : Addr) (oe : Obj) (vs : Array Value) (T : Option Addr) (v : Value) (h h' : Heap) : Prop where
  keep : ∀ b o,b∉fr→b≠a→T≠some b→h.get? b = some o→h'.get? b = some o
  slot : ∀ b o,h.get? b = some o→(∀ vs : Array Value,o.data≠Data.fields vs)→∃ sl,h'.get? b = some { cls := o.cls,dict := o.dict,data := o.data,slots := sl }
  obj : ∃ tb ot ts,(h.get? tb = none∨T = some tb)∧tb≠a∧h'.get? a = some { cls := oe.cls,dict := oe.dict,data := .fields (vs.setIfInBounds 1 (.ref tb)),slots := oe.slots }∧h'.get? tb = some ot∧ot.data = .fields ts∧ts[3]? = some v
noncomputable def zh5 (a : Addr) (h : Heap) : Prop := ∃ oe vs tb,h.get? a = some oe∧oe.data = Data.fields vs∧vs[1]? = some (Value.ref tb)
noncomputable abbrev flV (fl : Option Addr) : Value := fl.elim Value.none fun f => rawInt f
section
variable {M : Model} {A : Around} {E : Value → Shared → Prop} {s : Shared} {B : Heap} {env : Env} {outer : List Env} {L a : Addr} {oe : Obj} {vs : Array Value} {Q : Unit → Shared → Prop}
theorem zgc {head : Value} {had : Bool} {fl : Option Addr} (hf : A.frames = some (env::outer)) (ff : s.heap.FunFrames B (env::outer)) (hL : env.frame = some L) (e0 : s.heap.get? a = some oe) (hd : oe.data = .fields vs) (hs : 1 < vs.size)
    (q : ∀ h',Lft (frs (env::outer)) a oe vs none (flV fl) s.heap h'→Q () { heap := h',gens := s.gens,drawn := s.drawn,toks := s.toks,os := s.os }) :
    wpAny M A (do
      let f ← PySem.frameOf env
      let pl ← entryPlaceOf L had
      let b ← EntryCells.newEntry head f Value.none (rawInt ↑L) Value.none pl
      setField (Value.ref a) 1 b) (fun _ s' => zh5 a s'.heap∧wpAny M A (setFlight (Value.ref a) fl) Q E s') E s := by
  have haf : a∉frs (env::outer) := fun z => by
    obtain ⟨_,o,e1,nf⟩ := ff.mem z
    rw [e0] at e1; cases e1
    exact nf vs hd
  refine wpAny_bind (wpAny_frameOf_fun hf ff hL fun h2 so => ?_)
  refine wpAny_bind (wpAny_entryPlaceOf fun pl hpl => ?_)
  obtain ⟨so1,so2,so3⟩ := so
  have e2 : h2.get? a = some oe := (so2 a haf).trans e0
  have key : ∀ fs : List Value,fs.length≤100→fs[3]? = some (rawInt ↑L)→wpAny M A ((do
      let b ← newFields "traceback" fs
      setField (Value.ref a) 1 b)) (fun _ s' => zh5 a s'.heap∧wpAny M A (setFlight (Value.ref a) fl) Q E s') E { heap := h2,gens := s.gens,drawn := s.drawn,toks := s.toks,os := s.os } := fun fs hlen h3 => by
    refine wpAny_bind ?_
    unfold newFields
    have hsz : sizeOk (Data.fields fs.toArray) := by
      show fs.toArray.size≤_
      have : fs.toArray.size≤100 := by simpa using hlen
      exact Nat.le_trans this (by decide)
    refine wpAny_newObj_type (T := "traceback") (data := .fields fs.toArray) (dict := none) ?_ hsz
    have hat : a < h2.objs.size := Heap.lt_size e2
    have htb : h2.get? h2.objs.size = none := by
      cases z : h2.get? h2.objs.size with
      | none => rfl
      | some o => exact absurd (Heap.lt_size z) (Nat.lt_irrefl _)
    have hne : h2.objs.size≠a := fun z => by rw [z] at hat; exact absurd hat (Nat.lt_irrefl _)
    generalize htbn : h2.objs.size = tb at *
    have e3 : (h2.push { cls := .type "traceback",dict := none,data := .fields fs.toArray }).get? a = some oe := Heap.get?_push_of_some _ e2
    have e3t : (h2.push { cls := .type "traceback",dict := none,data := .fields fs.toArray }).get? tb = some { cls := .type "traceback",dict := none,data := .fields fs.toArray } := by rw [← htbn]; exact Heap.get?_push_size _ rfl
    generalize hh3 : h2.push { cls := .type "traceback",dict := none,data := .fields fs.toArray } = h3' at *
    refine wpAny_setField (a := a) (o := oe) (vs := vs) (i := 1) e3 hd hs ?_
    have mf : ∀ g,Obj.mapFields g oe = { cls := oe.cls,dict := oe.dict,data := .fields (g vs),slots := oe.slots } := fun g => by
      obtain ⟨c,d,da,sl⟩ := oe
      have : da = .fields vs := hd
      subst this
      rfl
    have e4 := Heap.get?_update_self (h := h3') (Obj.mapFields fun v => v.setIfInBounds 1 (.ref tb)) e3 (by rw [mf]; rfl)
    rw [mf] at e4
    have e4t : (h3'.update a (Obj.mapFields fun v => v.setIfInBounds 1 (.ref tb))).get? tb = some { cls := .type "traceback",dict := none,data := .fields fs.toArray } := by rw [Heap.get?_update_ne _ _ _ _ hne]; exact e3t
    have e4o : ∀ b,b≠a→(h3'.update a (Obj.mapFields fun v => v.setIfInBounds 1 (.ref tb))).get? b = h3'.get? b := fun b hb => Heap.get?_update_ne _ _ _ _ hb
    generalize h3'.update a (Obj.mapFields fun v => v.setIfInBounds 1 (.ref tb)) = h4 at *
    refine ⟨⟨_,_,tb,e4,rfl,Array.getElem?_setIfInBounds_self_of_lt hs⟩,?_⟩
    unfold setFlight
    refine wpAny_bind (wpAny_field (o := { cls := oe.cls,dict := oe.dict,data := .fields (vs.setIfInBounds 1 (.ref tb)),slots := oe.slots }) (x := .ref tb) e4 rfl ?_ ?_)
    · rw [Array.getElem?_setIfInBounds_self_of_lt hs]
    · rw [if_pos (by rfl)]
      refine wpAny_setField (a := tb) (vs := fs.toArray) (i := 3) e4t rfl ?_ ?_
      · have := (List.getElem?_eq_some_iff.mp h3).1
        simpa using this
      have e5 := Heap.get?_update_self (h := h4) (Obj.mapFields fun v => v.setIfInBounds 3 (flV fl)) e4t rfl
      have e5o : ∀ b,b≠tb→(h4.update tb (Obj.mapFields fun v => v.setIfInBounds 3 (flV fl))).get? b = h4.get? b := fun b hb => Heap.get?_update_ne _ _ _ _ hb
      refine q (h4.update tb (Obj.mapFields fun v => v.setIfInBounds 3 (flV fl))) ⟨fun b o nf ne _ e => ?_,fun b o e nf => ?_,tb,_,_,.inl ?_,hne,?_,e5,rfl,?_⟩
      · have hb2 : h2.get? b = some o := (so2 b nf).trans e
        have hbt : b≠tb := fun z => by rw [z,htb] at hb2; cases hb2
        rw [e5o b hbt,e4o b ne,← hh3]
        exact Heap.get?_push_of_some _ hb2
      · obtain ⟨sl,e1⟩ := so3 b o e
        have hbt : b≠tb := fun z => by rw [z,htb] at e1; cases e1
        have hba : b≠a := fun z => by rw [z,e0] at e; cases e; exact nf vs hd
        refine ⟨sl,?_⟩
        rw [e5o b hbt,e4o b hba,← hh3]
        exact Heap.get?_push_of_some _ e1
      · cases z : s.heap.get? tb with
        | none => rfl
        | some o =>
          obtain ⟨sl,e1⟩ := so3 tb o z
          rw [htb] at e1; cases e1
      · rw [e5o a (Ne.symm hne)]; exact e4
      · show (fs.toArray.setIfInBounds 3 _)[3]? = _
        rw [Array.getElem?_setIfInBounds_self_of_lt (by have := (List.getElem?_eq_some_iff.mp h3).1; simpa using this)]
  unfold EntryCells.newEntry
  refine key _ ?_ rfl
  rcases hpl with rfl | ⟨x1,x2,x3,x4,x5,x6,_,rfl⟩ <;> simp
theorem zcT {T fl : Option Addr} (hf : A.frames = some (env::outer)) (ff : s.heap.FunFrames B (env::outer)) (hL : env.frame = some L) (e0 : s.heap.get? a = some oe) (hd : oe.data = .fields vs)
    (h1 : (vs[1]? = some Value.none∧T = none)∨(∃ T' oT ts,T = some T'∧vs[1]? = some (.ref T')∧T'≠a∧s.heap.get? T' = some oT∧oT.data = .fields ts∧ts[3]? = some Value.none)∨∃ T' oT ts,T = some T'∧vs[1]? = some (.ref T')∧T'≠a∧s.heap.get? T' = some oT∧oT.data = .fields ts∧ts[3]? = some (rawInt ↑L))
    (q : ∀ h',Lft (frs (env::outer)) a oe vs T (flV fl) s.heap h'→Q () { heap := h',gens := s.gens,drawn := s.drawn,toks := s.toks,os := s.os }) : wpAny M A (noteFrame (.ref a) env) (fun _ s' => zh5 a s'.heap∧wpAny M A (setFlight (.ref a) fl) Q E s') E s := by
  have hs : 1 < vs.size := by
    rcases h1 with ⟨z,_⟩ | ⟨_,_,_,_,z,_⟩ | ⟨_,_,_,_,z,_⟩ <;> exact (Array.getElem?_eq_some_iff.mp z).1
  unfold noteFrame
  simp only [hL]
  rcases h1 with ⟨z,rfl⟩ | ⟨T',oT,ts,rfl,z,hTa,eT,hT,h3⟩ | ⟨T',oT,ts,rfl,z,hTa,eT,hT,h3⟩
  · refine wpAny_bind (wpAny_field e0 hd z ?_)
    rw [if_neg (by decide)]
    exact zgc hf ff hL e0 hd hs q
  · refine wpAny_bind (wpAny_field e0 hd z ?_)
    rw [if_pos (by rfl)]
    refine wpAny_bind (wpAny_field eT hT h3 ?_)
    rw [if_neg (by intro z; cases z)]
    have h3s : 3 < ts.size := (Array.getElem?_eq_some_iff.mp h3).1
    refine wpAny_bind (wpAny_setField eT hT h3s ?_)
    have eo : ∀ b,b≠T'→(s.heap.update T' (Obj.mapFields fun v => v.setIfInBounds 3 Value.none)).get? b = s.heap.get? b := fun b hb => Heap.get?_update_ne _ _ _ _ hb
    refine zgc (s := { heap := s.heap.update T' (Obj.mapFields fun v => v.setIfInBounds 3 Value.none),gens := s.gens,drawn := s.drawn,toks := s.toks,os := s.os }) hf (ff.of_keeps fun b o e nf => ?_) hL ((eo a (Ne.symm hTa)).trans e0) hd hs fun h' l => q h' ⟨fun b o nf ne hT' e => ?_,fun b o e nf => ?_,?_⟩
    · have hb : b≠T' := fun z => by rw [z,eT] at e; cases e; exact nf ts hT
      exact ⟨o,(eo b hb).trans e,rfl⟩
    · have hb : b≠T' := fun z => hT' (by rw [z])
      exact l.keep b o nf ne (by simp) ((eo b hb).trans e)
    · have hb : b≠T' := fun z => by rw [z,eT] at e; cases e; exact nf ts hT
      exact l.slot b o ((eo b hb).trans e) nf
    · obtain ⟨tb,ot,ts',t1,t2⟩ := l.obj
      refine ⟨tb,ot,ts',.inl ?_,t2⟩
      have t1 := t1.resolve_right (by simp)
      by_cases hb : tb = T'
      · have mf : Obj.mapFields (fun v => v.setIfInBounds 3 Value.none) oT = { cls := oT.cls,dict := oT.dict,data := .fields (ts.setIfInBounds 3 Value.none),slots := oT.slots } := by
          obtain ⟨c,d,da,sl⟩ := oT
          have : da = .fields ts := hT
          subst this
          rfl
        have := Heap.get?_update_self (h := s.heap) (Obj.mapFields fun v => v.setIfInBounds 3 Value.none) eT (by rw [mf]; rfl)
        rw [hb] at t1
        exact absurd (t1.symm.trans this) (by simp)
      · exact (eo tb hb).symm.trans t1
  · refine wpAny_bind (wpAny_field e0 hd z ?_)
    rw [if_pos (by rfl)]
    refine wpAny_bind (wpAny_field eT hT h3 ?_)
    rw [if_pos (by simp)]
    refine wpAny_pure ⟨⟨oe,vs,T',e0,hd,z⟩,?_⟩
    have h3s : 3 < ts.size := (Array.getElem?_eq_some_iff.mp h3).1
    have mf : ∀ g,Obj.mapFields g oT = { cls := oT.cls,dict := oT.dict,data := .fields (g ts),slots := oT.slots } := fun g => by
      obtain ⟨c,d,da,sl⟩ := oT
      have : da = .fields ts := hT
      subst this
      rfl
    unfold setFlight
    refine wpAny_bind (wpAny_field e0 hd z ?_)
    rw [if_pos (by rfl)]
    refine wpAny_setField eT hT h3s ?_
    have eo : ∀ b,b≠T'→(s.heap.update T' (Obj.mapFields fun v => v.setIfInBounds 3 (flV fl))).get? b = s.heap.get? b := fun b hb => Heap.get?_update_ne _ _ _ _ hb
    have es := Heap.get?_update_self (h := s.heap) (Obj.mapFields fun v => v.setIfInBounds 3 (flV fl)) eT (by rw [mf]; rfl)
    rw [mf] at es
    refine q _ ⟨fun b o nf ne hT' e => (eo b fun z => hT' (by rw [z])).trans e,fun b o e nf => ?_,T',_,_,.inr rfl,hTa,?_,es,rfl,?_⟩
    · have hb : b≠T' := fun z => by rw [z,eT] at e; cases e; exact nf ts hT
      exact ⟨o.slots,(eo b hb).trans e⟩
    · rw [eo a (Ne.symm hTa),e0]
      obtain ⟨c,d,da,sl⟩ := oe
      have : da = .fields vs := hd
      subst this
      have : vs.setIfInBounds 1 (.ref T') = vs := by
        apply Array.ext_getElem?
        intro i
        rw [Array.getElem?_setIfInBounds]
        split
        · rename_i h; subst h
          exact z.symm
        · rfl
      rw [this]
    · show (ts.setIfInBounds 3 _)[3]? = _
      rw [Array.getElem?_setIfInBounds_self_of_lt h3s]
theorem zc9 {T : Option Addr} (hf : A.frames = some (env::outer)) (ff : s.heap.FunFrames B (env::outer)) (hL : env.frame = some L) (e0 : s.heap.get? a = some oe) (hd : oe.data = .fields vs)
    (h1 : (vs[1]? = some Value.none∧T = none)∨(∃ T' oT ts,T = some T'∧vs[1]? = some (.ref T')∧T'≠a∧s.heap.get? T' = some oT∧oT.data = .fields ts∧ts[3]? = some Value.none)∨∃ T' oT ts,T = some T'∧vs[1]? = some (.ref T')∧T'≠a∧s.heap.get? T' = some oT∧oT.data = .fields ts∧ts[3]? = some (rawInt ↑L))
    (q : ∀ h',Lft (frs (env::outer)) a oe vs T Value.none s.heap h'→Q () { heap := h',gens := s.gens,drawn := s.drawn,toks := s.toks,os := s.os }) : wpAny M A (leaving env (.ref a)) Q E s :=
  wpAny_bind (wpAny_mono (zcT (fl := none) hf ff hL e0 hd h1 q) (fun _ _ z => z.2) fun _ _ z => z)
end
end DL
end
section
namespace DL
open PySem PySem.Spec PyProof.Rows L2 PySem.W PySem.Calls
noncomputable def zmG (h B : Heap) (a : Addr) (cls : Value) (od L : Option Addr) : Prop :=
  ∃ oe vs,h.get? a = some oe∧oe.cls = cls∧(∀ dx,od = some dx→oe.dict = some dx)∧oe.data = .fields vs ∧
    (vs[1]? = some Value.none∨(∃ T oT ts,vs[1]? = some (.ref T)∧B.get? T = none∧T≠a∧h.get? T = some oT∧oT.data = .fields ts∧ts[3]? = some Value.none) ∨
      ∃ l T oT ts,L = some l∧vs[1]? = some (.ref T)∧B.get? T = none∧T≠a∧h.get? T = some oT∧oT.data = .fields ts∧ts[3]? = some (rawInt ↑l))
noncomputable def topF (st : List Env) : Option Addr := st.head?.bind (·.frame)
structure Fly (P : Program) (w : World) (st : List Env) (H : Hp) (s : Shared) (H' : Hp) (a : Addr) (cls : Value) (od : Option Addr) (s' : Shared) : Prop where
  os : s'.os = s.os
  bare : AllBare s'.gens
  un : Un (frs st) [] H H' s.heap s'.heap
  hok : HOk P w H' s'.heap
  ex : ∃ B : Heap,B.StaysIn s'.heap∧B.get? a = none∧s'.heap.FunFrames B st∧zmG s'.heap B a cls od (topF st) ∧
    (∀ b o,s.heap.get? b = some o→b∉frs st→∃ o',B.get? b = some o')∧∀ b u,H' b = some u→∃ o',B.get? b = some o'
section
variable {X : Cx} {pins : List (Addr × Obj)} {σ : L2.St} {H H' : Hp} {s s' : Shared} {a : Addr} {cls : Value} {od : Option Addr} {M : Model} {E : Value → Shared → Prop}
theorem Fly.inv (F : Fly X.prog X.w X.stack H s H' a cls od s') (I : Inv X pins σ H s) : Inv X pins σ H' s' := I.call' F.os F.un F.hok F.bare fun b z => absurd z (by simp)
theorem Fly.leaves {Q : Unit→Shared→Prop} (F : Fly X.prog X.w X.stack H s H' a cls od s') (I : Inv X pins σ H s) (hst : X.stack = X.env::X.outer) (hfr : X.env.frame = some X.env.locals) (hex : X.ex = [])
    (q : ∀ s'',Fly X.prog X.w X.outer X.H₀ X.s₀ H' a cls od s''→Q () s'') : wpAny M X.A (leaving X.env (.ref a)) Q E s' := by
  have I' := F.inv I
  obtain ⟨B,hB,hBa,hff,⟨oe,vs,r1,r2,r3,r4,r5⟩,hd,hH⟩ := F.ex
  have hfs : frs X.stack = X.env.locals::frs X.outer := by rw [hst]; unfold frs; rw [List.filterMap_cons,hfr]
  have inB : ∀ b o,X.s₀.heap.get? b = some o→b∉frs X.outer→∃ o',B.get? b = some o' := fun b o e n => by
    obtain ⟨o1,e1⟩ := I.base.there b o e (by rw [hex]; simp)
    refine hd b o1 e1 ?_
    rw [hfs]
    intro z
    rcases List.mem_cons.mp z with z | z
    · have h1 := Heap.lt_size e
      have h2 := I.ok.above
      rw [z] at h1
      exact absurd h1 (Nat.not_lt.mpr h2)
    · exact n z
  rw [hst] at hff
  have fin : ∀ (T : Option Addr) h',(∀ b,T = some b→B.get? b = none)→Lft (frs (X.env::X.outer)) a oe vs T Value.none s'.heap h'→Q () { heap := h',gens := s'.gens,drawn := s'.drawn,toks := s'.toks,os := s'.os } := fun T h' hT l => by
    have same : ∀ b o,(∃ o',B.get? b = some o')→s'.heap.get? b = some o→h'.get? b = some o := fun b o ⟨o',e⟩ h => by
      refine l.keep b o (fun z => ?_) (fun z => by rw [z,hBa] at e; cases e) (fun z => by rw [hT b z] at e; cases e) h
      rw [(hff.mem z).1] at e
      cases e
    have hso := (show X.env.scope.kind≠ScopeKind.module∧(∃ L o,X.env.frame = some L∧B.get? L = none∧s'.heap.get? L = some o∧∀ (vs : Array Value),o.data≠Data.fields vs)∧s'.heap.FunFrames B X.outer by unfold Heap.FunFrames at hff; exact hff).2.2
    have ho : h'.FunFrames B X.outer := hso.of_keeps fun b o e nf => by
      obtain ⟨sl,e1⟩ := l.slot b o e nf
      exact ⟨_,e1,rfl⟩
    obtain ⟨tb,ot,ts,t1,t2,t3,t4,t5,t6⟩ := l.obj
    have htB : B.get? tb = none := by
      rcases t1 with t1 | t1
      · cases z : B.get? tb with
        | none => rfl
        | some o => have := hB tb o z; rw [t1] at this; cases this
      · exact hT tb t1
    have hs1 : 1 < vs.size := by
      rcases r5 with z | ⟨_,_,_,z,_⟩ | ⟨_,_,_,_,_,z,_⟩ <;> exact (Array.getElem?_eq_some_iff.mp z).1
    refine q _ ⟨I'.os,F.bare,⟨fun b o e n f z => ?_,fun b o e n f z => ?_,fun b o e n z => ?_,fun b o e z => ?_,I'.base.tups,I'.base.frzs,I'.base.tbls⟩,fun b u e => ?_,B,fun b o e => same b o ⟨o,e⟩ (hB b o e),hBa,ho,
      ⟨_,_,t3,r2,r3,rfl,.inr (.inl ⟨tb,ot,ts,Array.getElem?_setIfInBounds_self_of_lt hs1,htB,t2,t4,t5,t6⟩)⟩,inB,hH⟩
    · exact same b o (inB b o e f) (I'.base.keep b o e n f (by rw [hex]; exact z))
    · obtain ⟨sl,e1⟩ := I'.base.slot b o e n f (by rw [hex]; exact z)
      obtain ⟨_,o2,e2,nf⟩ := hso.mem f
      rw [e1] at e2
      cases e2
      obtain ⟨sl2,e3⟩ := l.slot b _ e1 nf
      exact ⟨sl2,e3⟩
    · exact I'.base.free b o e n (by rw [hex]; exact z)
    · obtain ⟨o1,e1⟩ := I'.base.there b o e (by rw [hex]; exact z)
      by_cases f : b∈frs X.outer
      · obtain ⟨_,o2,e2,nf⟩ := hso.mem f
        obtain ⟨sl,e3⟩ := l.slot b _ e2 nf
        exact ⟨_,e3⟩
      · exact ⟨o1,same b o1 (inB b o e f) e1⟩
    · refine (F.hok b u e).stay (fun c v hc e1 => same c v ?_ e1) (fun _ z => z) fun _ _ z => z
      rcases hc with hc | hc
      · rw [hc]; exact hH b u e
      · exact hH c _ hc
  rcases r5 with z | ⟨T,oT,ts,z1,z2,z3,z4,z5,z6⟩ | ⟨l,T,oT,ts,zl,z1,z2,z3,z4,z5,z6⟩
  · exact zc9 (T := none) (by rw [I.ok.frames,hst]) hff hfr r1 r4 (.inl ⟨z,rfl⟩) fun h' l => fin none h' (fun b e => nomatch e) l
  · exact zc9 (T := some T) (by rw [I.ok.frames,hst]) hff hfr r1 r4 (.inr (.inl ⟨T,oT,ts,rfl,z1,z3,z4,z5,z6⟩)) fun h' l => fin (some T) h' (fun b e => by cases e; exact z2) l
  · have hl : l = X.env.locals := by
      unfold topF at zl
      rw [hst] at zl
      exact (Option.some.inj (hfr.symm.trans (show X.env.frame = some l from zl))).symm
    subst hl
    exact zc9 (T := some T) (by rw [I.ok.frames,hst]) hff hfr r1 r4 (.inr (.inr ⟨T,oT,ts,rfl,z1,z3,z4,z5,z6⟩)) fun h' l => fin (some T) h' (fun b e => by cases e; exact z2) l
end
noncomputable def CXR (P : Program) (w : World) : CXT := fun outer H s E e s' => ∃ a cls H' od,e = .ref a∧Fly P w outer H s H' a cls od s'∧E cls od H'
end DL
end
section
namespace DL
open PySem PySem.Spec PyProof.Rows L2 PySem.W PySem.Calls
theorem ze2 {P : Program} {w : World} {H : Hp} {h : Heap} {a : Addr} {o : HO} (x : zaP P w H h a o) : ∃ u,h.get? a = some u := by
  cases o with
  | lst xs => obtain ⟨_,_,_,_,e⟩ := x; exact ⟨_,e⟩
  | tup xs => obtain ⟨_,_,_,_,o,e,_⟩ := x; exact ⟨_,e⟩
  | dK kvs => obtain ⟨_,_,_,_,o,_,_,e,_⟩ := x; exact ⟨_,e⟩
  | dT kvs => obtain ⟨_,_,_,_,o,_,_,e,_⟩ := x; exact ⟨_,e⟩
  | set S n => obtain ⟨o,_,_,_,e,_⟩ := x; exact ⟨_,e⟩
  | ins C dx fs => obtain ⟨_,_,_,e,_⟩ := x; exact ⟨_,e⟩
  | own y => exact x
  | xd fs => obtain ⟨_,⟨_,_,_,e,_⟩,_⟩ := x; exact ⟨_,e⟩
  | rng lo hi => obtain ⟨_,_,_,e⟩ := x; exact ⟨_,e⟩
  | frz ob u => obtain ⟨e,_⟩ := x; exact ⟨_,e⟩
  | tbl ps => exact ⟨_,(show h.get? a = some _ from x)⟩
  | met f y => exact ⟨_,(show h.get? a = some _ from x)⟩
  | ext φ => exact x.2.1
noncomputable abbrev vErr : List Value := [Value.type "ValueError",Value.type "Exception",Value.type "BaseException",Value.type "object"]
theorem zeT {h : Heap} {bmB bm : List Value} {v : Value} (t : OwnTail h bmB bm) (hb : bmB.contains v = true) : bm.contains v = true := by
  induction t with
  | base => exact hb
  | own _ _ _ _ ih => rw [List.contains_cons,ih,Bool.or_true]
structure XC (K : PySem.W.Frag) (mg : Str→Option Value) (x : Str) (C : Addr) : Prop where
  bound : mg x = some (.ref C)
  exc : excIn K C vErr "ValueError.__new__" = true
section
variable {X : Cx} {pins : List (Addr × Obj)} {σ : L2.St} {H : Hp} {s : Shared} {x : Str} {C : Addr} {np cpos pos : Pos} {e₀ : Expr} {rest : List Expr} {t : TA}
theorem Fly.made {h' : Heap} {e : Addr} {cls : Value} {vs : List Value} (I : Inv X pins σ H s) (m : s.heap.MadeExcOf h' e cls vs) : Fly X.prog X.w X.stack H s H e cls none { heap := h',gens := s.gens,drawn := s.drawn,toks := s.toks,os := s.os } := by
  obtain ⟨t,m1,m2,m3⟩ := m.there
  have hst : ∀ b o,(hideAll s.heap (frs X.stack)).get? b = some o→h'.get? b = some o := fun b o e => m.keeps b o (of_hideAll _ e)
  refine ⟨rfl,I.bare,Un.kept m.keeps,I.hok.kept m.keeps,hideAll s.heap (frs X.stack),hst,?_,?_,⟨_,_,m1,rfl,(fun _ e => nomatch e),rfl,.inl rfl⟩,fun b o e n => ⟨o,hideAll_get _ e n⟩,fun b u e => ?_⟩
  · cases q : (hideAll s.heap (frs X.stack)).get? e with
    | none => rfl
    | some o => have := of_hideAll _ q; rw [m.new] at this; cases this
  · have ff := I.stack
    have key : ∀ l : List Env,(∀ b∈frs l,b∈frs X.stack)→s.heap.FunFrames X.base l→h'.FunFrames (hideAll s.heap (frs X.stack)) l := by
      intro l
      induction l with
      | nil => intro _ _; unfold Heap.FunFrames; trivial
      | cons env l ih =>
        intro hs hf
        unfold Heap.FunFrames at hf ⊢
        obtain ⟨f1,⟨L,o,f2,f3,f4,f5⟩,f6⟩ := hf
        refine ⟨f1,⟨L,o,f2,hideAll_none _ (hs L ?_),m.keeps _ _ f4,f5⟩,ih (fun b hb => hs b ?_) f6⟩
        · unfold frs; rw [List.filterMap_cons,f2]; exact List.mem_cons_self
        · unfold frs; rw [List.filterMap_cons,f2]; exact List.mem_cons_of_mem _ hb
    exact key X.stack (fun _ hb => hb) ff
  · obtain ⟨o,eo⟩ := ze2 (I.hok b u e)
    exact ⟨o,hideAll_get _ eo fun z => by rw [I.stkFree b z] at e; cases e⟩
end
end DL
end
section
namespace DL
open PySem PySem.Spec PyProof.Rows L2
inductive D where
  | non | bl (b : Bool) | int (i : Int) | str (x : Str)
  | tup (ds : List D) | lst (ds : List D)
  | dic (kvs : List (Key × D))
  | obj (c : Nat) (fs : List (Str × D))
instance : Inhabited D := ⟨.non⟩
inductive Res (α : Type) where
  | ok (a : α) | exc (x : D) | stuck
noncomputable def Res.bind {α β : Type} (r : Res α) (f : α→Res β) : Res β := match r with
  | .ok a => f a
  | .exc x => .exc x
  | .stuck => .stuck
@[simp] theorem bind_ok {α β : Type} (a : α) (f : α→Res β) : (Res.ok a).bind f = f a := rfl
@[simp] theorem bind_exc {α β : Type} (x : D) (f : α→Res β) : (Res.exc x : Res α).bind f = .exc x := rfl
@[simp] theorem bind_stuck {α β : Type} (f : α→Res β) : (Res.stuck : Res α).bind f = .stuck := rfl
noncomputable def fin {α : Type} (r : Res α) (q : α→Prop) (x : D→Prop) : Prop := match r with
  | .ok a => q a
  | .exc e => x e
  | .stuck => False
theorem zac {α : Type} {r : Res α} {q q' : α→Prop} {x : D→Prop} (h : fin r q x) (hq : ∀ a,q a→q' a) : fin r q' x := by
  cases r with
  | ok a => exact hq a h
  | exc e => exact h
  | stuck => exact h
theorem zad {α β : Type} {r : Res α} {f : α→Res β} {q : β→Prop} {x : D→Prop} (h : fin (r.bind f) q x) : fin r (fun a => fin (f a) q x) x := by
  cases r with
  | ok a => exact h
  | exc e => exact h
  | stuck => exact h
noncomputable abbrev GH := Addr→Option D
inductive Scl : V→D→Prop where
  | non : Scl .non .non
  | bl (b : Bool) : Scl (.bl b) (.bl b)
  | int (i : Int) : Scl (.int i) (.int i)
  | str (x : Str) : Scl (.str x) (.str x)
inductive KC (K : PySem.W.Frag) (a : Addr) : D→Prop where
  | lst {xs : List V} {ds : List D} : SqL K (fun _ => none) a xs→Paired Scl xs ds→KC K a (.lst ds)
  | tup {xs : List V} {ds : List D} : SqT K (fun _ => none) a xs→Paired Scl xs ds→(∃ o,K.lookup a = some o∧o.cls = .type "tuple"∧o.dict = none)→KC K a (.tup ds)
inductive RG (K : PySem.W.Frag) (G : GH) : V→D→Prop where
  | scl {v : V} {d : D} : Scl v d→RG K G v d
  | ref {a : Addr} {d : D} : G a = some d→RG K G (.ref a) d
  | kc {a : Addr} {d : D} : KC K a d→RG K G (.ref a) d
noncomputable abbrev RGs (K : PySem.W.Frag) (G : GH) : List V→List D→Prop := Paired (RG K G)
noncomputable abbrev RKs (K : PySem.W.Frag) (G : GH) : List (Key × V)→List (Key × D)→Prop := Paired fun p q => p.1 = q.1∧RG K G p.2 q.2
noncomputable abbrev xD (nm : Str) (ds : List (Str × D)) : D := .obj 0 (("__class__",.str nm)::ds)
noncomputable def XN (K : PySem.W.Frag) (nm : Str) (C : Addr) : Prop := ∃ o cd,K.lookup C = some o∧o.data = Data.cls cd∧cd.name = nm
noncomputable def XcO (a C : Addr) (od : Option Addr) : Heap→Prop := fun h => ∃ oe vs,h.get? a = some oe∧oe.cls = .ref C∧(∀ dx,od = some dx→oe.dict = some dx)∧oe.data = .fields vs
noncomputable def XF (G : GH) (od : Option Addr) (ds : List (Str × D)) : Prop := match od with
  | none => ds = []
  | some dx => G dx = some (.obj 1 ds)
theorem XF.mono {G G' : GH} {od : Option Addr} {ds : List (Str × D)} (h : XF G od ds) (ge : ∀ a d,G a = some d→G' a = some d) : XF G' od ds := by
  cases od with
  | none => exact h
  | some dx => exact ge _ _ h
noncomputable abbrev RFs (K : PySem.W.Frag) (G : GH) : List (Str × V)→List (Str × D)→Prop := Paired fun p q => p.1 = q.1∧RG K G p.2 q.2
inductive OB (K : PySem.W.Frag) (G : GH) (H : Hp) (a : Addr) : D→Prop where
  | lst {xs : List V} {ds : List D} : Rd H a (.lst xs)→RGs K G xs ds→OB K G H a (.lst ds)
  | tup {xs : List V} {ds : List D} : Rd H a (.tup xs)→RGs K G xs ds→OB K G H a (.tup ds)
  | dic {ob : Obj} {ps : List (Key × V)} {kvs : List (Key × D)} : H a = some (.frz ob (.dK ps))→RKs K G ps kvs→OB K G H a (.dic kvs)
  | exc {nm : Str} {C : Addr} {od : Option Addr} {ds : List (Str × D)} : H a = some (.ext (XcO a C od))→XN K nm C→XF G od ds→OB K G H a (xD nm ds)
  | fld {fs : List (Str × V)} {ds : List (Str × D)} : H a = some (.xd fs)→RFs K G fs ds→OB K G H a (.obj 1 ds)
noncomputable def GOk (K : PySem.W.Frag) (G : GH) (H : Hp) : Prop := ∀ a d,G a = some d→OB K G H a d
inductive OwnO (K : PySem.W.Frag) (G : GH) (H : Hp) (a : Addr) : D→Prop where
  | lst {xs : List V} {ds : List D} : H a = some (.lst xs)→RGs K G xs ds→OwnO K G H a (.lst ds)
  | dic {ps : List (Key × V)} {kvs : List (Key × D)} : H a = some (.dK ps)→RKs K G ps kvs→OwnO K G H a (.dic kvs)
structure Own (K : PySem.W.Frag) (G : GH) (H : Hp) (a : Addr) (d : D) : Prop where
  un : G a = none
  ob : OwnO K G H a d
structure Grow (K : PySem.W.Frag) (G : GH) (H : Hp) (G' : GH) (H' : Hp) : Prop where
  ok : GOk K G' H'
  he : ∀ a o,H a = some o→H' a = some o
  ge : ∀ a d,G a = some d→G' a = some d
  gf : ∀ a,H a≠none→G' a = G a
section
variable {K : PySem.W.Frag} {G G' G1 G2 : GH} {H H' H1 H2 : Hp} {a p : Addr} {d : D} {v : V}
theorem Rd.mono {u : HO} (h : Rd H a u) (he : ∀ a o,H a = some o→H' a = some o) : Rd H' a u := by
  rcases h with h | ⟨o,h⟩
  · exact .inl (he _ _ h)
  · exact .inr ⟨o,he _ _ h⟩
theorem Rd.isS {u : HO} (h : Rd H a u) : H a≠none := by
  rcases h with h | ⟨o,h⟩ <;> rw [h] <;> simp
theorem RG.mono (h : RG K G v d) (ge : ∀ a d,G a = some d→G' a = some d) : RG K G' v d := by
  cases h with
  | scl s => exact .scl s
  | ref e => exact .ref (ge _ _ e)
  | kc k => exact .kc k
theorem RGs.mono {xs : List V} {ds : List D} (h : RGs K G xs ds) (ge : ∀ a d,G a = some d→G' a = some d) : RGs K G' xs ds := Paired.mono (fun _ _ r => r.mono ge) h
theorem RKs.mono {xs : List (Key × V)} {ds : List (Key × D)} (h : RKs K G xs ds) (ge : ∀ a d,G a = some d→G' a = some d) : RKs K G' xs ds := Paired.mono (fun _ _ r => ⟨r.1,r.2.mono ge⟩) h
theorem OB.mono (h : OB K G H a d) (ge : ∀ a d,G a = some d→G' a = some d) (he : ∀ o,H a = some o→H' a = some o) : OB K G' H' a d := by
  have rd : ∀ {u : HO},Rd H a u→Rd H' a u := fun r => by
    rcases r with r | ⟨o,r⟩
    · exact .inl (he _ r)
    · exact .inr ⟨o,he _ r⟩
  cases h with
  | lst r s => exact .lst (rd r) (s.mono ge)
  | tup r s => exact .tup (rd r) (s.mono ge)
  | dic r s => exact .dic (he _ r) (RKs.mono s ge)
  | exc r n f => exact .exc (he _ r) n (f.mono ge)
  | fld r s => exact .fld (he _ r) (Paired.mono (fun _ _ r => ⟨r.1,r.2.mono ge⟩) s)
theorem OB.isS (h : OB K G H a d) : H a≠none := by
  cases h with
  | lst r s => exact Rd.isS r
  | tup r s => exact Rd.isS r
  | dic r s => rw [r]; simp
  | exc r n f => rw [r]; simp
  | fld r s => rw [r]; simp
theorem GOk.isN (g : GOk K G H) (h : H p = none) : G p = none := by
  cases e : G p with
  | none => rfl
  | some d => exact absurd h (g p d e).isS
theorem OwnO.isS (h : OwnO K G H a d) : H a≠none := by
  cases h with
  | lst r s => rw [r]; simp
  | dic r s => rw [r]; simp
theorem OwnO.mono (h : OwnO K G H a d) (ge : ∀ a d,G a = some d→G' a = some d) (he : ∀ o,H a = some o→H' a = some o) : OwnO K G' H' a d := by
  cases h with
  | lst r s => exact .lst (he _ r) (s.mono ge)
  | dic r s => exact .dic (he _ r) (RKs.mono s ge)
theorem Own.mono (h : Own K G H a d) (w : Grow K G H G' H') : Own K G' H' a d :=
  ⟨by rw [w.gf a h.ob.isS]; exact h.un,h.ob.mono w.ge fun o e => w.he _ _ e⟩
noncomputable def fz (H : Hp) (a : Addr) (ob : Obj) : Hp := match H a with
  | some (.dK ps) => upd H a (.frz ob (.dK ps))
  | _ => H
theorem zgw {b : Addr} {ob : Obj} (h : b≠a) : fz H a ob b = H b := by
  unfold fz
  cases e : H a with
  | none => rfl
  | some u => cases u <;> first | rfl | exact zae h
theorem zly {xs : List V} {ob : Obj} (h : H a = some (.lst xs)) : fz H a ob = H := by
  unfold fz
  rw [h]
theorem zlz {ps : List (Key × V)} {ob : Obj} (h : H a = some (.dK ps)) : fz H a ob a = some (.frz ob (.dK ps)) := by
  unfold fz
  rw [h]; exact zag
theorem OwnO.fast (h : OwnO K G H a d) (ob : Obj) : OB K G (fz H a ob) a d := by
  cases h with
  | lst r s => rw [zly r]; exact .lst (.inl r) s
  | dic r s => exact .dic (zlz r) s
theorem GOk.fast (g : GOk K G H) (hn : G a = none) (ob : Obj) : GOk K G (fz H a ob) := fun b d e => by
  have hb : b≠a := by rintro rfl; rw [hn] at e; cases e
  exact (g b d e).mono (fun _ _ z => z) fun o z => by rw [zgw hb]; exact z
theorem Grow.refl (g : GOk K G H) : Grow K G H G H := ⟨g,fun _ _ e => e,fun _ _ e => e,fun _ _ => rfl⟩
theorem Grow.trans (x : Grow K G H G1 H1) (y : Grow K G1 H1 G2 H2) : Grow K G H G2 H2 :=
  ⟨y.ok,fun a o e => y.he _ _ (x.he _ _ e),fun a d e => y.ge _ _ (x.ge _ _ e),fun a h => by
    have h1 : H1 a≠Option.none := by
      cases e : H a with
      | none => exact absurd e h
      | some o => rw [x.he _ _ e]; simp
    rw [y.gf a h1,x.gf a h]⟩
noncomputable def gset (G : GH) (a : Addr) (d : D) : GH := fun b => if b = a then some d else G b
theorem zao : gset G a d a = some d := if_pos rfl
theorem zaC {b : Addr} (h : b≠a) : gset G a d b = G b := if_neg h
theorem zaF (hn : G a = none) : ∀ b e,G b = some e→gset G a d b = some e := fun b e h => by
  have : b≠a := by rintro rfl; rw [hn] at h; cases h
  rw [zaC this]; exact h
theorem GOk.gset (g : GOk K G H) (hn : G a = none) (o : OB K G H a d) : GOk K (gset G a d) H := fun b e h => by
  by_cases hb : b = a
  · subst hb; rw [zao] at h; cases h
    exact o.mono (zaF hn) fun _ q => q
  · rw [zaC hb] at h
    exact (g b e h).mono (zaF hn) fun _ q => q
theorem zia (hn : H p = none) {o : HO} : ∀ a u,H a = some u→upd H p o a = some u := fun a u e => by
  rw [zae (za0 e hn)]; exact e
theorem Grow.new (g : GOk K G H) (hn : H p = none) (o : HO) : Grow K G H G (upd H p o) :=
  ⟨fun a d e => (g a d e).mono (fun _ _ q => q) fun u q => zia hn _ _ q,fun a u e => zia hn _ _ e,fun _ _ e => e,fun _ _ => rfl⟩
theorem Grow.newF (g : GOk K G H) (hn : H p = none) {o : HO} (ob : OB K G (upd H p o) p d) : Grow K G H (gset G p d) (upd H p o) := by
  have w := Grow.new g hn o
  have gn := g.isN hn
  exact ⟨w.ok.gset gn ob,w.he,fun a e h => zaF gn a e h,fun a h => zaC (by rintro rfl; exact h hn)⟩
theorem Grow.frz (w : Grow K G H G' H') (hn : H a = none) (o : Own K G' H' a d) (ob : Obj) : Grow K G H (gset G' a d) (fz H' a ob) :=
  ⟨(w.ok.fast o.un ob).gset o.un (o.ob.fast ob),fun b u e => by rw [zgw (by rintro rfl; rw [hn] at e; cases e)]; exact w.he b u e,fun b e h => zaF o.un b e (w.ge b e h),fun b h => by rw [zaC (by rintro rfl; exact h hn)]; exact w.gf b h⟩
theorem RG.lst {ds : List D} (g : GOk K G H) (h : RG K G v (.lst ds)) : ∃ a xs,v = .ref a∧SqL K H a xs∧RGs K G xs ds := by
  cases h with
  | scl s => cases s
  | ref e =>
    cases g _ _ e with
    | lst r s => exact ⟨_,_,rfl,.inl r,s⟩
  | kc k =>
    cases k with
    | lst r s =>
      refine ⟨_,_,rfl,?_,Paired.mono (fun _ _ z => .scl z) s⟩
      rcases r with (r | ⟨o,r⟩) | r
      · cases r
      · cases r
      · exact .inr r
theorem RG.tup {ds : List D} (g : GOk K G H) (h : RG K G v (.tup ds)) : ∃ a xs,v = .ref a∧SqT K H a xs∧RGs K G xs ds := by
  cases h with
  | scl s => cases s
  | ref e =>
    cases g _ _ e with
    | tup r s => exact ⟨_,_,rfl,.inl r,s⟩
  | kc k =>
    cases k with
    | tup r s _ =>
      refine ⟨_,_,rfl,?_,Paired.mono (fun _ _ z => .scl z) s⟩
      rcases r with (r | ⟨o,r⟩) | r
      · cases r
      · cases r
      · exact .inr r
theorem RG.dic {kvs : List (Key × D)} (g : GOk K G H) (h : RG K G v (.dic kvs)) : ∃ a ps,v = .ref a∧Rd H a (.dK ps)∧RKs K G ps kvs := by
  cases h with
  | scl s => cases s
  | ref e =>
    cases g _ _ e with
    | dic r s => exact ⟨_,_,rfl,.inr ⟨_,r⟩,s⟩
  | kc k => cases k
theorem RG.int {i : Int} (g : GOk K G H) (h : RG K G v (.int i)) : v = .int i := by
  cases h with
  | scl s => cases s; rfl
  | ref e => cases g _ _ e
  | kc k => cases k
theorem RG.str {x : Str} (g : GOk K G H) (h : RG K G v (.str x)) : v = .str x := by
  cases h with
  | scl s => cases s; rfl
  | ref e => cases g _ _ e
  | kc k => cases k
theorem RG.bl {b : Bool} (g : GOk K G H) (h : RG K G v (.bl b)) : v = .bl b := by
  cases h with
  | scl s => cases s; rfl
  | ref e => cases g _ _ e
  | kc k => cases k
theorem RG.non (g : GOk K G H) (h : RG K G v .non) : v = .non := by
  cases h with
  | scl s => cases s; rfl
  | ref e => cases g _ _ e
  | kc k => cases k
noncomputable def RB (K : PySem.W.Frag) (G : GH) (H : Hp) (v : V) (d : D) : Prop := RG K G v d∨∃ a,v = .ref a∧Own K G H a d
theorem RG.rb (h : RG K G v d) : RB K G H v d := .inl h
theorem RB.mono (h : RB K G H v d) (w : Grow K G H G' H') : RB K G' H' v d := by
  rcases h with h | ⟨a,e,h⟩
  · exact .inl (h.mono w.ge)
  · exact .inr ⟨a,e,h.mono w⟩
theorem RB.lst {ds : List D} (g : GOk K G H) (h : RB K G H v (.lst ds)) : ∃ a xs,v = .ref a∧SqL K H a xs∧RGs K G xs ds := by
  rcases h with h | ⟨a,e,h⟩
  · exact h.lst g
  · cases h.ob with
    | lst r s => exact ⟨a,_,e,SqL.of r,s⟩
theorem RB.tup {ds : List D} (g : GOk K G H) (h : RB K G H v (.tup ds)) : ∃ a xs,v = .ref a∧SqT K H a xs∧RGs K G xs ds := by
  rcases h with h | ⟨a,e,h⟩
  · exact h.tup g
  · cases h.ob
theorem RB.dic {kvs : List (Key × D)} (g : GOk K G H) (h : RB K G H v (.dic kvs)) : ∃ a ps,v = .ref a∧Rd H a (.dK ps)∧RKs K G ps kvs := by
  rcases h with h | ⟨a,e,h⟩
  · exact h.dic g
  · cases h.ob with
    | dic r s => exact ⟨a,_,e,.inl r,s⟩
theorem RB.int {i : Int} (g : GOk K G H) (h : RB K G H v (.int i)) : v = .int i := by
  rcases h with h | ⟨a,e,h⟩
  · exact h.int g
  · cases h.ob
theorem RB.str {x : Str} (g : GOk K G H) (h : RB K G H v (.str x)) : v = .str x := by
  rcases h with h | ⟨a,e,h⟩
  · exact h.str g
  · cases h.ob
theorem RB.bl {b : Bool} (g : GOk K G H) (h : RB K G H v (.bl b)) : v = .bl b := by
  rcases h with h | ⟨a,e,h⟩
  · exact h.bl g
  · cases h.ob
theorem RB.non (g : GOk K G H) (h : RB K G H v .non) : v = .non := by
  rcases h with h | ⟨a,e,h⟩
  · exact h.non g
  · cases h.ob
theorem Paired.get {α β : Type} {F : α→β→Prop} : ∀ {l : List α} {r : List β} {i : Nat} {b : β},Paired F l r→r[i]? = some b→∃ a,l[i]? = some a∧F a b
  | _,_,_,_,.nil,e => by simp at e
  | _,_,0,_,.cons h _,e => by simp at e; subst e; exact ⟨_,rfl,h⟩
  | _,_,i + 1,b,.cons _ t,e => by
    obtain ⟨a,h1,h2⟩ := Paired.get (i := i) t (by simpa using e)
    exact ⟨a,by simpa using h1,h2⟩
theorem Paired.app {α β : Type} {F : α→β→Prop} {l l' : List α} {r r' : List β} (h : Paired F l r) (q : Paired F l' r') : Paired F (l++l') (r++r') := by
  induction h with
  | nil => exact q
  | cons h _ ih => exact .cons h ih
theorem Paired.tk {α β : Type} {F : α→β→Prop} {l : List α} {r : List β} (n : Nat) (h : Paired F l r) : Paired F (l.take n) (r.take n) := by
  induction h generalizing n with
  | nil => cases n <;> exact .nil
  | cons h _ ih => cases n with
    | zero => exact .nil
    | succ n => exact .cons h (ih n)
theorem Paired.dr {α β : Type} {F : α→β→Prop} {l : List α} {r : List β} (n : Nat) (h : Paired F l r) : Paired F (l.drop n) (r.drop n) := by
  induction h generalizing n with
  | nil => cases n <;> exact .nil
  | cons h t ih => cases n with
    | zero => exact .cons h t
    | succ n => exact ih n
theorem Paired.st {α β : Type} {F : α→β→Prop} {a : α} {b : β} (h : F a b) {l : List α} {r : List β} (n : Nat) (p : Paired F l r) : Paired F (l.set n a) (r.set n b) := by
  induction p generalizing n with
  | nil => exact .nil
  | cons q t ih => cases n with
    | zero => exact .cons h t
    | succ n => exact .cons q (ih n)
theorem Paired.er {α β : Type} {F : α→β→Prop} {l : List α} {r : List β} (n : Nat) (p : Paired F l r) : Paired F (l.eraseIdx n) (r.eraseIdx n) := by
  induction p generalizing n with
  | nil => exact .nil
  | cons q t ih => cases n with
    | zero => exact t
    | succ n => exact .cons q (ih n)
end
inductive Md where
  | sh | ow | bw
  deriving DecidableEq
noncomputable abbrev Rho := List (Option D)
structure GE where
  gh : GH
  h0 : Hp
  hd : Nat→Option (Option V × Option D)
noncomputable def Bw (K : PySem.W.Frag) (h0 : Hp) (G : GH) (H : Hp) (v : V) (d : D) : Prop := RG K G v d∨∃ a,v = V.ref a∧Own K G H a d∧h0 a≠none
theorem Bw.grow {K : PySem.W.Frag} {h0 : Hp} {G G' : GH} {H H' : Hp} {v : V} {d : D} (h : Bw K h0 G H v d) (w : Grow K G H G' H') : Bw K h0 G' H' v d := by
  rcases h with h | ⟨a,e,h1,h2⟩
  · exact .inl (h.mono w.ge)
  · exact .inr ⟨a,e,h1.mono w,h2⟩
theorem Bw.rb {K : PySem.W.Frag} {h0 : Hp} {G : GH} {H : Hp} {v : V} {d : D} (h : Bw K h0 G H v d) : RB K G H v d := by
  rcases h with h | ⟨a,e,h1,h2⟩
  · exact .inl h
  · exact .inr ⟨a,e,h1⟩
noncomputable def Lk (r : Rho) (st : L2.St) (i : Nat) (o : Option V × Option D) : Prop := st[i]? = some o.1∧∀ d,r[i]? = some (some d)→o.2 = some d
structure SI (X : Cx) (g : GE) (m : List Md) (r : Rho) (G : GH) (st : L2.St) (H : Hp) : Prop where
  gok : GOk X.K G H
  old : ∀ a o,g.h0 a = some o→H a = some o
  ge : ∀ a d,g.gh a = some d→G a = some d
  gf : ∀ a,g.h0 a≠none→G a = g.gh a
  lm : m.length = st.length
  lr : r.length = st.length
  sh : ∀ (i : Nat) d,r[i]? = some (some d)→m[i]? = some .sh→∃ v,st[i]? = some (some v)∧RG X.K G v d
  ow : ∀ (i : Nat) d,r[i]? = some (some d)→m[i]? = some .ow→∃ a,st[i]? = some (some (V.ref a))∧Own X.K G H a d∧g.h0 a = none
  bw : ∀ (i : Nat) d,r[i]? = some (some d)→m[i]? = some .bw→∃ v,st[i]? = some (some v)∧Bw X.K g.h0 G H v d
  dis : ∀ (i j : Nat) a d e,i≠j→r[i]? = some (some d)→r[j]? = some (some e)→m[i]? = some .ow→m[j]? = some .ow→st[i]? = some (some (V.ref a))→st[j]? = some (some (V.ref a))→False
  lk : ∀ (i : Nat) o,g.hd i = some o→m[i]? = some .bw→Lk r st i o
section
variable {X : Cx} {g : GE} {m : List Md} {r : Rho} {G G' : GH} {st : L2.St} {H H' : Hp}
theorem SI.grow (s : SI X g m r G st H) (w : Grow X.K G H G' H') : SI X g m r G' st H' where
  gok := w.ok
  old := fun a o e => w.he _ _ (s.old a o e)
  ge := fun a d e => w.ge _ _ (s.ge a d e)
  gf := fun a h => by
    have h1 : H a≠none := by
      cases e : g.h0 a with
      | none => exact absurd e h
      | some o => rw [s.old _ _ e]; simp
    rw [w.gf a h1,s.gf a h]
  lm := s.lm
  lr := s.lr
  sh := fun i d h1 h2 => by obtain ⟨v,h3,h4⟩ := s.sh i d h1 h2; exact ⟨v,h3,h4.mono w.ge⟩
  ow := fun i d h1 h2 => by obtain ⟨a,h3,h4,h5⟩ := s.ow i d h1 h2; exact ⟨a,h3,h4.mono w,h5⟩
  bw := fun i d h1 h2 => by obtain ⟨v,h3,h4⟩ := s.bw i d h1 h2; exact ⟨v,h3,h4.grow w⟩
  dis := s.dis
  lk := s.lk
theorem SI.grown (s : SI X g m r G st H) : Grow X.K g.gh g.h0 G H := ⟨s.gok,s.old,s.ge,s.gf⟩
theorem SI.frz (s : SI X g m r G st H) (i : Nat) (hi : m[i]? = some .ow) : (∃ G',(∀ a d,G a = some d→G' a = some d)∧SI X g (m.set i .sh) r G' st H)∨∃ a,∀ ob,∃ G',(∀ a d,G a = some d→G' a = some d)∧SI X g (m.set i .sh) r G' st (fz H a ob) := by
  have hlt : i < m.length := (List.getElem?_eq_some_iff.mp hi).1
  by_cases hb : ∃ d,r[i]? = some (some d)
  · obtain ⟨d,hd⟩ := hb
    obtain ⟨a,h1,h2,h3⟩ := s.ow i d hd hi
    refine .inr ⟨a,fun ob => ⟨gset G a d,zaF h2.un,(s.gok.fast h2.un ob).gset h2.un (h2.ob.fast ob),fun b o e => by rw [zgw (by rintro rfl; rw [h3] at e; cases e)]; exact s.old b o e,fun b e h => zaF h2.un b e (s.ge b e h),fun b h => ?_,by simpa using s.lm,s.lr,?_,?_,?_,?_,fun j o hj hm => ?_⟩⟩
    · rw [zaC (by rintro rfl; exact h h3)]; exact s.gf b h
    · intro j e hj hm
      by_cases hij : i = j
      · subst hij
        rw [hd] at hj; cases hj
        exact ⟨_,h1,.ref zao⟩
      · rw [List.getElem?_set_ne hij] at hm
        obtain ⟨v,q1,q2⟩ := s.sh j e hj hm
        exact ⟨v,q1,q2.mono (zaF h2.un)⟩
    · intro j e hj hm
      by_cases hij : i = j
      · subst hij
        rw [List.getElem?_set_self hlt] at hm; cases hm
      · rw [List.getElem?_set_ne hij] at hm
        obtain ⟨b,q1,q2,q3⟩ := s.ow j e hj hm
        have hba : b≠a := by
          rintro rfl
          exact s.dis i j b d e hij hd hj hi hm h1 q1
        exact ⟨b,q1,⟨by rw [zaC hba]; exact q2.un,q2.ob.mono (zaF h2.un) fun _ z => by rw [zgw hba]; exact z⟩,q3⟩
    · intro j e hj hm
      by_cases hij : i = j
      · subst hij
        rw [List.getElem?_set_self hlt] at hm; cases hm
      · rw [List.getElem?_set_ne hij] at hm
        obtain ⟨v,q1,q2⟩ := s.bw j e hj hm
        refine ⟨v,q1,?_⟩
        rcases q2 with q2 | ⟨b,rfl,q2,q3⟩
        · exact .inl (q2.mono (zaF h2.un))
        · have hba : b≠a := by rintro rfl; exact q3 h3
          exact .inr ⟨b,rfl,⟨by rw [zaC hba]; exact q2.un,q2.ob.mono (zaF h2.un) fun _ z => by rw [zgw hba]; exact z⟩,q3⟩
    · intro j k b e e' hjk hj hk hm hm' q1 q2
      have hij : i≠j := by
        rintro rfl
        rw [List.getElem?_set_self hlt] at hm; cases hm
      have hik : i≠k := by
        rintro rfl
        rw [List.getElem?_set_self hlt] at hm'; cases hm'
      rw [List.getElem?_set_ne hij] at hm
      rw [List.getElem?_set_ne hik] at hm'
      exact s.dis j k b e e' hjk hj hk hm hm' q1 q2
    · refine s.lk j o hj ?_
      by_cases hij : i = j
      · subst hij; rw [List.getElem?_set_self hlt] at hm; cases hm
      · rw [List.getElem?_set_ne hij] at hm; exact hm
  · refine .inl ⟨G,fun _ _ z => z,s.gok,s.old,s.ge,s.gf,by simpa using s.lm,s.lr,?_,?_,?_,?_,fun j o hj hm => ?_⟩
    · intro j e hj hm
      have hij : i≠j := by rintro rfl; exact hb ⟨e,hj⟩
      rw [List.getElem?_set_ne hij] at hm
      exact s.sh j e hj hm
    · intro j e hj hm
      have hij : i≠j := by rintro rfl; exact hb ⟨e,hj⟩
      rw [List.getElem?_set_ne hij] at hm
      exact s.ow j e hj hm
    · intro j e hj hm
      have hij : i≠j := by rintro rfl; exact hb ⟨e,hj⟩
      rw [List.getElem?_set_ne hij] at hm
      exact s.bw j e hj hm
    · intro j k b e e' hjk hj hk hm hm' q1 q2
      have hij : i≠j := by rintro rfl; exact hb ⟨e,hj⟩
      have hik : i≠k := by rintro rfl; exact hb ⟨e',hk⟩
      rw [List.getElem?_set_ne hij] at hm
      rw [List.getElem?_set_ne hik] at hm'
      exact s.dis j k b e e' hjk hj hk hm hm' q1 q2
    · refine s.lk j o hj ?_
      by_cases hij : i = j
      · subst hij; rw [List.getElem?_set_self hlt] at hm; cases hm
      · rw [List.getElem?_set_ne hij] at hm; exact hm
end
end DL
end
section
namespace DL
open PySem PySem.Spec PyProof.Rows L2
theorem PE.imp {X : Cx} {e : Expr} {t t' : TE} (h : PE X e t) (i : ∀ σ H Q,t' σ H Q→t σ H Q) : PE X e t' := fun pins s σ H Q I q => h pins s σ H Q I (i σ H Q q)
theorem PT.imp {X : Cx} {e : Expr} {t t' : TT} (h : PT X e t) (i : ∀ σ H Q,t' σ H Q→t σ H Q) : PT X e t' := fun pins s σ H Q I q => h pins s σ H Q I (i σ H Q q)
theorem PW.imp {X : Cx} {e : Expr} {t t' : TT} (h : PW X e t) (i : ∀ σ H Q,t' σ H Q→t σ H Q) : PW X e t' := fun whole pins s σ H Q I q => h whole pins s σ H Q I (i σ H Q q)
theorem PA.imp {X : Cx} {e : List Expr} {t t' : TA} (h : PA X e t) (i : ∀ σ H Q,t' σ H Q→t σ H Q) : PA X e t' := fun pos pins s σ H Q I q => h pos pins s σ H Q I (i σ H Q q)
theorem PS.imp {X : Cx} {e : Stmt} {t t' : TS} (h : PS X e t) (i : ∀ D σ H,t' D σ H→t D σ H) : PS X e t' := fun pins s σ H D I q => h pins s σ H D I (i D σ H q)
theorem PSs.imp {X : Cx} {e : List Stmt} {t t' : TS} (h : PSs X e t) (i : ∀ D σ H,t' D σ H→t D σ H) : PSs X e t' := fun pins s σ H D I q => h pins s σ H D I (i D σ H q)
noncomputable def ExV (X : Cx) (σ : L2.St) (G : GH) (H' : Hp) (e : Value) (x : D) (s' : Shared) : Prop :=
  ∃ pins s H1 a C od nm ds,e = .ref a∧x = xD nm ds∧XN X.K nm C∧XF G od ds∧Inv X pins σ H1 s∧Fly X.prog X.w X.stack H1 s H' a (.ref C) od s'
noncomputable def XW (X : Cx) (σ : L2.St) (G : GH) (H : Hp) (x : D) : Prop := ∀ pins e s' G' H',Grow X.K G H G' H'→Inv X pins σ H' s'→ExV X σ G' H' e x s'→X.xe e s'
theorem XW.grow {X : Cx} {σ : L2.St} {G G1 : GH} {H H1 : Hp} {x : D} (h : XW X σ G H x) (w : Grow X.K G H G1 H1) : XW X σ G1 H1 x := fun pins e s' G' H' w' I q => h pins e s' G' H' (w.trans w') I q
noncomputable abbrev FE := Rho→Res D
noncomputable def tE (X : Cx) (g : GE) (m : List Md) (f : FE) : TE := fun σ H Q => ∃ r G,SI X g m r G σ H∧fin (f r) (fun d => ∀ v G' H',Grow X.K G H G' H'→RG X.K G' v d→Q v H') (XW X σ G H)
noncomputable def tB (X : Cx) (g : GE) (m : List Md) (f : FE) : TE := fun σ H Q => ∃ r G,SI X g m r G σ H∧fin (f r) (fun d => ∀ v G' H',Grow X.K G H G' H'→RB X.K G' H' v d→Q v H') (XW X σ G H)
noncomputable def tO (X : Cx) (g : GE) (m : List Md) (f : FE) : TE := fun σ H Q => ∃ r G,SI X g m r G σ H∧fin (f r) (fun d => ∀ a G' H',Grow X.K G H G' H'→H a = none→Own X.K G' H' a d→Q (.ref a) H') (XW X σ G H)
noncomputable def tQ (X : Cx) (g : GE) (m : List Md) (f : Rho→Res Bool) : TT := fun σ H Q => ∃ r G,SI X g m r G σ H∧fin (f r) (fun b => ∀ G' H',Grow X.K G H G' H'→Q b H') (XW X σ G H)
noncomputable def tL (X : Cx) (g : GE) (m : List Md) (f : Rho→Res (List D)) : TA := fun σ H Q => ∃ r G,SI X g m r G σ H∧fin (f r) (fun ds => ∀ vs G' H',Grow X.K G H G' H'→RGs X.K G' vs ds→Q vs H') (XW X σ G H)
noncomputable def tLB (X : Cx) (g : GE) (m : List Md) (f : Rho→Res (List D)) : TA := fun σ H Q => ∃ r G,SI X g m r G σ H∧fin (f r) (fun ds => ∀ vs G' H',Grow X.K G H G' H'→Paired (RB X.K G' H') vs ds→Q vs H') (XW X σ G H)
noncomputable def SE (X : Cx) (g : GE) (m : List Md) (e : Expr) (f : FE) : Prop := PE X e (tE X g m f)
noncomputable def SB (X : Cx) (g : GE) (m : List Md) (e : Expr) (f : FE) : Prop := PE X e (tB X g m f)
noncomputable def SO (X : Cx) (g : GE) (m : List Md) (e : Expr) (f : FE) : Prop := PE X e (tO X g m f)
noncomputable def SQ (X : Cx) (g : GE) (m : List Md) (e : Expr) (f : Rho→Res Bool) : Prop := PT X e (tQ X g m f)
noncomputable def SW (X : Cx) (g : GE) (m : List Md) (e : Expr) (f : Rho→Res Bool) : Prop := PW X e (tQ X g m f)
noncomputable def SA (X : Cx) (g : GE) (m : List Md) (es : List Expr) (f : Rho→Res (List D)) : Prop := PA X es (tL X g m f)
noncomputable def SAB (X : Cx) (g : GE) (m : List Md) (es : List Expr) (f : Rho→Res (List D)) : Prop := PA X es (tLB X g m f)
section
variable {X : Cx} {g : GE} {m : List Md} {e a b c : Expr} {f fa fb fc : FE} {pos : Pos}
theorem SE.toB (h : SE X g m e f) : SB X g m e f := PE.imp h fun σ H Q ⟨r,G,si,q⟩ => ⟨r,G,si,zac q fun d k v G' H' w z => k v G' H' w z.rb⟩
theorem Inv.fast {pins : List (Addr × Obj)} {σ : L2.St} {H : Hp} {s : Shared} (I : Inv X pins σ H s) (a : Addr) : ∃ ob,Inv X pins σ (fz H a ob) s := by
  cases e : H a with
  | none => exact ⟨{ cls := .none,data := .fields #[] },by unfold fz; rw [e]; exact I⟩
  | some u =>
    cases u with
    | dK ps =>
      obtain ⟨z1,z2,vs,z3,o,es,ep,z4,z5⟩ := (show zaP X.prog X.w H s.heap a (.dK ps) from I.hok a _ e)
      have ef : fz H a o = upd H a (.frz o (.dK ps)) := by unfold fz; rw [e]
      refine ⟨o,?_⟩
      rw [ef]
      exact I.write (t' := s.toks) (h' := s.heap) (x := a) (e := a) (by rw [e]; exact trivial) (.inl rfl) (fun b u _ q => q) ⟨o,z4⟩ (show zaP X.prog X.w _ s.heap a (.frz o (.dK ps)) from ⟨z4,z1,z2,vs,z3,o,es,ep,z4,z5⟩)
    | _ => exact ⟨{ cls := .none,data := .fields #[] },by unfold fz; rw [e]; exact I⟩
theorem SO.toE (h : SO X g m e f) : SE X g m e f := by
  intro pins s σ H Q I ⟨r,G,si,q⟩
  refine thn (h pins s σ H (fun v H' => ∃ a,v = .ref a∧∀ ob,Q v (fz H' a ob)) I ⟨r,G,si,zac q fun d k a G' H' w hn o => ⟨a,rfl,fun ob => k _ _ _ (w.frz hn o ob) (.ref zao)⟩⟩) fun u s' ⟨v,H',I',rv,a,_,z⟩ => ?_
  obtain ⟨ob,I2⟩ := Inv.fast I' a
  exact ⟨v,_,I2,rv,z ob⟩
theorem SO.toB (h : SO X g m e f) : SB X g m e f := h.toE.toB
theorem SE.eq {f' : FE} (h : SE X g m e f) (q : ∀ r,f' r = f r) : SE X g m e f' := by
  have : f' = f := funext q
  rw [this]; exact h
theorem zex {v : V} {d : D} (h : PE X e (tC v)) (s : Scl v d) : SE X g m e fun _ => .ok d :=
  PE.imp h fun σ H Q ⟨r,G,si,q⟩ => q v G H (Grow.refl si.gok) (.scl s)
theorem zax {i : Int} {j} : SE X g m (.Constant (.int i) j pos) fun _ => .ok (.int i) := zex zkP (.int i)
theorem s_bl {i : Bool} {j} : SE X g m (.Constant (.bool i) j pos) fun _ => .ok (.bl i) := zex zmk (.bl i)
theorem zdF {j} : SE X g m (.Constant .none j pos) fun _ => .ok .non := zex zkN .non
noncomputable def getV (r : Rho) (i : Nat) : Res D := match r[i]? with
  | some (some d) => .ok d
  | _ => .stuck
theorem zdL {r : Rho} {i : Nat} {q : D→Prop} {x : D→Prop} (h : fin (getV r i) q x) : ∃ d,r[i]? = some (some d)∧q d := by
  unfold getV at h
  split at h
  · rename_i d e; exact ⟨d,e,h⟩
  · exact h.elim
theorem zl4 (i : Nat) {x : Str} (hm : m[i]? = some .sh) (hN : X.N[i]? = some x) (hv : Vis X.env.scope x) (hd : (x == ("__debug__" : Str)) = false := by decide) (hcd : (x == ("__classdict__" : Str)) = false := by decide) :
    SE X g m (.Name x pos) fun r => getV r i := by
  refine PE.imp (zb2 hN hv hd hcd) fun σ H Q ⟨r,G,si,q⟩ => ?_
  obtain ⟨d,e,k⟩ := zdL q
  obtain ⟨v,e1,e2⟩ := si.sh i d e hm
  exact ⟨v,e1,k v G H (Grow.refl si.gok) e2⟩
theorem zkf (i : Nat) {x : Str} (hm : i < m.length) (hN : X.N[i]? = some x) (hv : Vis X.env.scope x) (hd : (x == ("__debug__" : Str)) = false := by decide) (hcd : (x == ("__classdict__" : Str)) = false := by decide) :
    SB X g m (.Name x pos) fun r => getV r i := by
  refine PE.imp (zb2 hN hv hd hcd) fun σ H Q ⟨r,G,si,q⟩ => ?_
  obtain ⟨d,e,k⟩ := zdL q
  have hm' : m[i]? = some m[i] := List.getElem?_eq_getElem hm
  cases h : m[i] with
  | sh =>
    obtain ⟨v,e1,e2⟩ := si.sh i d e (hm'.trans (by rw [h]))
    exact ⟨v,e1,k v G H (Grow.refl si.gok) e2.rb⟩
  | ow =>
    obtain ⟨v,e1,e2,_⟩ := si.ow i d e (hm'.trans (by rw [h]))
    exact ⟨_,e1,k _ G H (Grow.refl si.gok) (.inr ⟨v,rfl,e2⟩)⟩
  | bw =>
    obtain ⟨v,e1,e2⟩ := si.bw i d e (hm'.trans (by rw [h]))
    exact ⟨_,e1,k _ G H (Grow.refl si.gok) e2.rb⟩
theorem seq2 {β : Type} {k : D→D→Res β} {q : β→Prop} {R : V→V→Hp→Prop} {r : Rho} {G : GH} {σ : L2.St} {H : Hp} (si : SI X g m r G σ H)
    (h : fin ((fa r).bind fun d1 => (fb r).bind fun d2 => k d1 d2) q (XW X σ G H))
    (hk : ∀ d1 d2 v1 v2 G2 H2,Grow X.K G H G2 H2→RB X.K G2 H2 v1 d1→RB X.K G2 H2 v2 d2→fin (k d1 d2) q (XW X σ G H)→R v1 v2 H2) :
    tB X g m fa σ H fun v1 H1 => tB X g m fb σ H1 fun v2 H2 => R v1 v2 H2 := by
  refine ⟨r,G,si,zac (zad h) fun d1 h1 v1 G1 H1 w1 r1 => ⟨r,G1,si.grow w1,?_⟩⟩
  cases e : fb r with
  | ok d2 =>
    rw [e] at h1
    exact fun v2 G2 H2 w2 r2 => hk d1 d2 v1 v2 G2 H2 (w1.trans w2) (r1.mono w2) r2 h1
  | exc x =>
    rw [e] at h1
    exact (show XW X σ G H x from h1).grow w1
  | stuck =>
    rw [e] at h1
    exact h1
noncomputable def opt {α : Type} : Option α→Res α
  | some a => .ok a
  | none => .stuck
@[simp] theorem opt_some {α : Type} (a : α) : opt (some a) = .ok a := rfl
@[simp] theorem opt_none {α : Type} : opt (none : Option α) = .stuck := rfl
theorem zat {α : Type} {o : Option α} {q : α→Prop} {x : D→Prop} (h : fin (opt o) q x) : ∃ a,o = some a∧q a := by
  cases o with
  | none => exact h.elim
  | some a => exact ⟨a,rfl,h⟩
noncomputable def OpD (K : PySem.W.Frag) (r : R2) (k : D→D→Option D) : Prop := ∀ (G : GH) (H : Hp) (v1 v2 : V) (d1 d2 d : D) (Q : VK),GOk K G H→RB K G H v1 d1→RB K G H v2 d2→k d1 d2 = some d →
  (∀ v G' H',Grow K G H G' H'→RG K G' v d→Q v H')→r v1 v2 H Q
noncomputable def f2 (fa fb : FE) (k : D→D→Option D) : FE := fun r => (fa r).bind fun d1 => (fb r).bind fun d2 => opt (k d1 d2)
theorem ziT {R : R2} {k : D→D→Option D} (ho : OpD X.K R k) (h : PE X e (tOp R (tB X g m fa) (tB X g m fb))) : SE X g m e (f2 fa fb k) := by
  refine PE.imp h fun σ H Q ⟨r,G,si,q⟩ => ?_
  refine seq2 si q fun d1 d2 v1 v2 G2 H2 w r1 r2 q2 => ?_
  obtain ⟨d,e,q2⟩ := zat q2
  exact ho G2 H2 v1 v2 d1 d2 d Q w.ok r1 r2 e fun v G' H' w' z => q2 v G' H' (w.trans w') z
theorem zfu {op : Operator} {R : R2} {k : D→D→Option D} (hr : OpR X (binaryOp op) R) (ho : OpD X.K R k) (ha : SB X g m a fa) (hb : SB X g m b fb) : SE X g m (.BinOp a op b pos) (f2 fa fb k) := ziT ho (zmh hr ha hb)
theorem zkm {op : CmpOp} {R : R2} {k : D→D→Option D} (hr : OpR X (compareOp op) R) (ho : OpD X.K R k) (ha : SB X g m a fa) (hb : SB X g m b fb) (hm : behindInMarks op b = false) : SE X g m (.Compare a [op] [b] pos) (f2 fa fb k) := ziT ho (zi9 hr ha hb hm)
noncomputable def asB : D→Option Bool
  | .bl b => some b
  | _ => none
noncomputable def zay (f : FE) : Rho→Res Bool := fun r => (f r).bind fun d => opt (asB d)
theorem zeB {op : CmpOp} {R : R2} {k : D→D→Option D} (hr : OpR X (compareOp op) R) (ho : OpD X.K R k) (ha : SB X g m a fa) (hb : SB X g m b fb) (hm : behindInMarks op b = false) : SQ X g m (.Compare a [op] [b] pos) (zay (f2 fa fb k)) := by
  refine PT.imp (zi1 hr ha hb hm) fun σ H Q ⟨r,G,si,q⟩ => ?_
  have e : zay (f2 fa fb k) r = (fa r).bind fun d1 => (fb r).bind fun d2 => (opt (k d1 d2)).bind fun d => opt (asB d) := by
    unfold zay f2
    cases fa r with
    | ok d1 => cases fb r <;> rfl
    | exc _ => rfl
    | stuck => rfl
  rw [e] at q
  refine seq2 (R := fun x y H2 => R x y H2 fun x H' => ∃ k,x = V.bl k∧Q k H') si q fun d1 d2 v1 v2 G2 H2 w r1 r2 q3 => ?_
  obtain ⟨d,e,q3⟩ := zat (zad q3)
  obtain ⟨b,eb,q3⟩ := zat q3
  cases d with
  | bl b' =>
    cases eb
    exact ho G2 H2 v1 v2 d1 d2 _ _ w.ok r1 r2 e fun v G' H' w' z => ⟨_,z.bl w'.ok,q3 G' H' (w.trans w')⟩
  | _ => cases eb
end
end DL
end
section
namespace DL
open PySem PySem.Spec PyProof.Rows L2
instance decMul (i j : Int) : Decidable (CMul i j) := by unfold CMul; infer_instance
instance decDiv (i j : Int) : Decidable (CDiv i j) := by unfold CDiv; infer_instance
instance decPow (i j : Int) : Decidable (CPow i j) := by unfold CPow; infer_instance
noncomputable def zeG (k : Int→Int→D) : D→D→Option D
  | .int a,.int b => some (k a b)
  | _,_ => none
noncomputable def zd8 (C : Int→Int→Prop) [∀ a b,Decidable (C a b)] (k : Int→Int→D) : D→D→Option D
  | .int a,.int b => if C a b then some (k a b) else none
  | _,_ => none
@[simp] theorem ints2_int (k : Int→Int→D) (a b : Int) : zeG k (.int a) (.int b) = some (k a b) := rfl
@[simp] theorem intsC_int (C : Int→Int→Prop) [∀ a b,Decidable (C a b)] (k : Int→Int→D) (a b : Int) : zd8 C k (.int a) (.int b) = if C a b then some (k a b) else none := rfl
section
variable {K : PySem.W.Frag}
theorem zct {gv : Int→Int→V} {gd : Int→Int→D} (hs : ∀ i j,Scl (gv i j) (gd i j)) : OpD K (rI0 gv) (zeG gd) := by
  intro G H v1 v2 d1 d2 d Q g r1 r2 e q
  unfold zeG at e
  split at e
  · cases e
    exact ⟨_,_,r1.int g,r2.int g,q _ G H (Grow.refl g) (.scl (hs _ _))⟩
  · cases e
theorem zcS {C : Int→Int→Prop} [∀ a b,Decidable (C a b)] {gv : Int→Int→V} {gd : Int→Int→D} (hs : ∀ i j,Scl (gv i j) (gd i j)) : OpD K (rI C gv) (zd8 C gd) := by
  intro G H v1 v2 d1 d2 d Q g r1 r2 e q
  unfold zd8 at e
  split at e
  · split at e
    · rename_i hc
      cases e
      exact ⟨_,_,r1.int g,r2.int g,hc,q _ G H (Grow.refl g) (.scl (hs _ _))⟩
    · cases e
  · cases e
theorem OpD.or {r r' : R2} {k k' : D→D→Option D} (h : OpD K r k) (h' : OpD K r' k') : OpD K (fun x y H Q => r x y H Q∨r' x y H Q) (fun a b => match k a b with | some d => some d | none => k' a b) := by
  intro G H v1 v2 d1 d2 d Q g r1 r2 e q
  cases e1 : k d1 d2 with
  | some d' =>
    simp only [e1] at e
    cases e
    exact .inl (h G H v1 v2 d1 d2 d Q g r1 r2 e1 q)
  | none =>
    simp only [e1] at e
    exact .inr (h' G H v1 v2 d1 d2 d Q g r1 r2 e q)
end
noncomputable abbrev subI : D→D→Option D := zeG fun a b => .int (a - b)
noncomputable abbrev mulI : D→D→Option D := zd8 CMul fun a b => .int (a * b)
noncomputable abbrev zcN : D→D→Option D := zd8 CDiv fun a b => .int (a / b)
noncomputable abbrev modI : D→D→Option D := zd8 (fun _ b => 0 < b) fun a b => .int (a % b)
noncomputable abbrev powI : D→D→Option D := zd8 CPow fun a b => .int (a ^ b.toNat)
noncomputable abbrev ltI : D→D→Option D := zeG fun a b => .bl (decide (a < b))
noncomputable abbrev leI : D→D→Option D := zeG fun a b => .bl (decide (a≤b))
noncomputable abbrev gtI : D→D→Option D := zeG fun a b => .bl (decide (b < a))
section
variable {X : Cx} {g : GE} {m : List Md} {e a b c : Expr} {f fa fb fc : FE} {pos : Pos}
theorem zkh (ha : SB X g m a fa) (hb : SB X g m b fb) : SE X g m (.BinOp a .Sub b pos) (f2 fa fb subI) := zfu zkT (zct fun _ _ => .int _) ha hb
theorem zev (ha : SB X g m a fa) (hb : SB X g m b fb) : SE X g m (.BinOp a .Mult b pos) (f2 fa fb mulI) := zfu zkV (zcS fun _ _ => .int _) ha hb
theorem zc3 (ha : SB X g m a fa) (hb : SB X g m b fb) : SE X g m (.BinOp a .FloorDiv b pos) (f2 fa fb zcN) := zfu zjf (zcS fun _ _ => .int _) ha hb
theorem zb7 (ha : SB X g m a fa) (hb : SB X g m b fb) : SE X g m (.BinOp a .Mod b pos) (f2 fa fb modI) := zfu zkW (zcS fun _ _ => .int _) ha hb
theorem zl5 (ha : SB X g m a fa) (hb : SB X g m b fb) : SE X g m (.BinOp a .Pow b pos) (f2 fa fb powI) := zfu zkU (zcS fun _ _ => .int _) ha hb
theorem s_lt (ha : SB X g m a fa) (hb : SB X g m b fb) : SE X g m (.Compare a [.Lt] [b] pos) (f2 fa fb ltI) := zkm zhv (zct fun _ _ => .bl _) ha hb (zcE _)
theorem q_lt (ha : SB X g m a fa) (hb : SB X g m b fb) : SQ X g m (.Compare a [.Lt] [b] pos) (zay (f2 fa fb ltI)) := zeB zhv (zct fun _ _ => .bl _) ha hb (zcE _)
theorem q_gt (ha : SB X g m a fa) (hb : SB X g m b fb) : SQ X g m (.Compare a [.Gt] [b] pos) (zay (f2 fa fb gtI)) := zeB zmm (zct fun _ _ => .bl _) ha hb (zcE _)
noncomputable def f1 (fa : FE) (k : D→Option D) : FE := fun r => (fa r).bind fun d => opt (k d)
noncomputable def negI : D→Option D
  | .int a => some (.int (-a))
  | _ => none
@[simp] theorem negI_int (a : Int) : negI (.int a) = some (.int (-a)) := rfl
theorem zl6 (ha : SB X g m a fa) : SE X g m (.UnaryOp .USub a pos) (f1 fa negI) := by
  refine PE.imp (zmg zj0 ha) fun σ H Q ⟨r,G,si,q⟩ => ⟨r,G,si,zac (zad q) fun d q1 v G1 H1 w1 r1 => ?_⟩
  obtain ⟨d',e,q2⟩ := zat q1
  cases d with
  | int i =>
    cases e
    exact ⟨i,r1.int w1.ok,q2 _ G1 H1 w1 (.scl (.int _))⟩
  | _ => cases e
noncomputable def truD : D→Option Bool
  | .non => some false
  | .bl b => some b
  | .int i => some (i != 0)
  | .str y => if y.length≤sizeLine then some ((y.length : Int) != 0) else none
  | .lst ds => some (! ds.isEmpty)
  | .tup ds => some (! ds.isEmpty)
  | .dic kvs => some (! kvs.isEmpty)
  | .obj _ _ => none
theorem zda {α β : Type} {F : α→β→Prop} {l : List α} {r : List β} (h : Paired F l r) : l.isEmpty = r.isEmpty := by cases h <;> rfl
theorem ziN {K : PySem.W.Frag} {G : GH} {H : Hp} {v : V} {d : D} {b : Bool} (gk : GOk K G H) (h : RB K G H v d) (e : truD d = some b) : TruV K v H b := by
  cases d with
  | non => cases e; rw [h.non gk]; rfl
  | bl b' => cases e; rw [h.bl gk]; rfl
  | int i => cases e; rw [h.int gk]; rfl
  | str y =>
    rw [h.str gk]
    have e' : (if y.length≤sizeLine then some ((y.length : Int) != 0) else none) = some b := e
    by_cases hy : y.length≤sizeLine
    · rw [if_pos hy] at e'; cases e'; exact ⟨hy,rfl⟩
    · rw [if_neg hy] at e'; cases e'
  | lst ds =>
    cases e
    obtain ⟨a,xs,rfl,s,r⟩ := h.lst gk
    exact .inl ⟨xs,s,by rw [zda r]⟩
  | tup ds =>
    cases e
    obtain ⟨a,xs,rfl,s,r⟩ := h.tup gk
    exact .inr (.inl ⟨xs,s,by rw [zda r]⟩)
  | dic kvs =>
    cases e
    obtain ⟨a,xs,rfl,s,r⟩ := h.dic gk
    exact .inr (.inr ⟨xs,s,by rw [zda r]⟩)
  | obj _ _ => cases e
noncomputable def fTru (f : FE) : Rho→Res Bool := fun r => (f r).bind fun d => opt (truD d)
theorem zdk (ha : SB X g m a fa) (he : ∀ whole,isTrue a X.env whole = (do let v ← whole; standAt a.pos; holding [v] (truthy v)) := by intro _; rfl) : SQ X g m a (fTru fa) := by
  refine PT.imp (zhk ha he) fun σ H Q ⟨r,G,si,q⟩ => ⟨r,G,si,zac (zad q) fun d q1 v G1 H1 w1 r1 => ?_⟩
  obtain ⟨b,e,q2⟩ := zat q1
  exact ⟨b,ziN w1.ok r1 e,q2 G1 H1 w1⟩
noncomputable abbrev FQ := Rho→Res Bool
noncomputable def fAnd (p q : FQ) : FQ := fun r => (p r).bind fun c => if c = true then q r else .ok false
noncomputable def fOr (p q : FQ) : FQ := fun r => (p r).bind fun c => if c = true then .ok true else q r
noncomputable def fNot (p : FQ) : FQ := fun r => (p r).bind fun c => .ok (! c)
variable {p q : FQ} {rest : List Expr}
theorem zmz {α : Type} {r : Res α} {q : α→Prop} {x x' : D→Prop} (h : fin r q x) (hx : ∀ e,x e→x' e) : fin r q x' := by
  cases r with
  | ok a => exact h
  | exc e => exact hx e h
  | stuck => exact h
theorem zaW {α : Type} {r : Res α} {σ : L2.St} {G G1 : GH} {H H1 : Hp} {P P' : α→Prop} (h : fin r P (XW X σ G H)) (w : Grow X.K G H G1 H1) (hp : ∀ a,P a→P' a) : fin r P' (XW X σ G1 H1) := zmz (zac h hp) fun _ x => x.grow w
theorem zik (ha : SQ X g m a p) : SW X g m (.BoolOp .And [a] pos) p := ziZ ha
theorem zhg (ha : SQ X g m a p) : SW X g m (.BoolOp .Or [a] pos) p := zkx ha
theorem zkw (ha : SQ X g m a p) (hb : SW X g m (.BoolOp .And (b::rest) pos) q) : SW X g m (.BoolOp .And (a::b::rest) pos) (fAnd p q) := by
  refine PW.imp (zky ha hb) fun σ H Q ⟨r,G,si,k⟩ => ⟨r,G,si,zac (zad k) fun c k1 G1 H1 w1 => ?_⟩
  cases c with
  | true => rw [if_pos rfl] at k1 ⊢; exact ⟨r,G1,si.grow w1,zaW k1 w1 fun b z G' H' w' => z G' H' (w1.trans w')⟩
  | false => rw [if_neg Bool.false_ne_true] at k1 ⊢; exact k1 G1 H1 w1
theorem q_or (ha : SQ X g m a p) (hb : SW X g m (.BoolOp .Or (b::rest) pos) q) : SW X g m (.BoolOp .Or (a::b::rest) pos) (fOr p q) := by
  refine PW.imp (zmd ha hb) fun σ H Q ⟨r,G,si,k⟩ => ⟨r,G,si,zac (zad k) fun c k1 G1 H1 w1 => ?_⟩
  cases c with
  | true => rw [if_pos rfl] at k1 ⊢; exact k1 G1 H1 w1
  | false => rw [if_neg Bool.false_ne_true] at k1 ⊢; exact ⟨r,G1,si.grow w1,zaW k1 w1 fun b z G' H' w' => z G' H' (w1.trans w')⟩
theorem SW.toQ (h : SW X g m e p) : SQ X g m e p := PW.pt h
theorem zdl (ha : SQ X g m a p) : SQ X g m (.UnaryOp .Not a pos) (fNot p) :=
  PT.imp (zkz ha) fun σ H Q ⟨r,G,si,k⟩ => ⟨r,G,si,zac (zad k) fun c k1 G1 H1 w1 => k1 G1 H1 w1⟩
noncomputable def vAnd (fa fb : FE) : FE := fun r => (fa r).bind fun d => (opt (asB d)).bind fun c => if c = true then fb r else .ok (.bl false)
noncomputable def vOr (fa fb : FE) : FE := fun r => (fa r).bind fun d => (opt (asB d)).bind fun c => if c = true then .ok (.bl true) else fb r
noncomputable def vNot (fa : FE) : FE := fun r => (fa r).bind fun d => (opt (asB d)).bind fun c => .ok (.bl (! c))
theorem zeu {op} (h : SE X g m a fa) : SE X g m (.BoolOp op [a] pos) fa := zkL h
theorem zdG (ha : SE X g m a fa) (hb : SE X g m (.BoolOp .And (b::rest) pos) fb) : SE X g m (.BoolOp .And (a::b::rest) pos) (vAnd fa fb) := by
  refine PE.imp (zkR ha hb) fun σ H Q ⟨r,G,si,k⟩ => ⟨r,G,si,zac (zad k) fun d k1 v G1 H1 w1 r1 => ?_⟩
  obtain ⟨c,e,k2⟩ := zat (zad k1)
  cases d with
  | bl c' =>
    cases e
    refine ⟨_,r1.bl w1.ok,?_⟩
    cases c with
    | true => rw [if_pos rfl] at k2 ⊢; exact ⟨r,G1,si.grow w1,zaW k2 w1 fun b z v G' H' w' => z v G' H' (w1.trans w')⟩
    | false => rw [if_neg Bool.false_ne_true] at k2 ⊢; exact k2 _ G1 H1 w1 (.scl (.bl _))
  | _ => cases e
theorem ziU (ha : SE X g m a fa) : SE X g m (.UnaryOp .Not a pos) (vNot fa) := by
  refine PE.imp (zkM ha) fun σ H Q ⟨r,G,si,k⟩ => ⟨r,G,si,zac (zad k) fun d k1 v G1 H1 w1 r1 => ?_⟩
  obtain ⟨c,e,k2⟩ := zat (zad k1)
  cases d with
  | bl c' => cases e; exact ⟨_,r1.bl w1.ok,k2 _ G1 H1 w1 (.scl (.bl _))⟩
  | _ => cases e
noncomputable def fIf (p : FQ) (fa fb : FE) : FE := fun r => (p r).bind fun c => if c = true then fa r else fb r
variable {es : List Expr} {fl fr : Rho → Res (List D)}
noncomputable def lNil : Rho→Res (List D) := fun _ => .ok []
noncomputable def zab (fa : FE) (fl : Rho→Res (List D)) : Rho→Res (List D) := fun r => (fa r).bind fun d => (fl r).bind fun ds => .ok (d::ds)
theorem zdQ : SA X g m [] lNil := PA.imp zb3 fun σ H Q ⟨r,G,si,k⟩ => k [] G H (Grow.refl si.gok) .nil
theorem zbJ (ha : SE X g m e fa) (hr : SA X g m es fl) (hs : starEach (e::es) X.env = (false,eval e X.env)::starEach es X.env := by rfl) : SA X g m (e::es) (zab fa fl) := by
  refine PA.imp (zaO ha hr hs) fun σ H Q ⟨r,G,si,k⟩ => ⟨r,G,si,zac (zad k) fun d k1 v G1 H1 w1 r1 => ⟨r,G1,si.grow w1,?_⟩⟩
  exact zaW (zad k1) w1 fun ds z vs G2 H2 w2 r2 => z (v::vs) G2 H2 (w1.trans w2) (.cons (r1.mono w2.ge) r2)
theorem zaH : SAB X g m [] lNil := PA.imp zb3 fun σ H Q ⟨r,G,si,k⟩ => k [] G H (Grow.refl si.gok) .nil
theorem zap (ha : SB X g m e fa) (hr : SAB X g m es fl) (hs : starEach (e::es) X.env = (false,eval e X.env)::starEach es X.env := by rfl) : SAB X g m (e::es) (zab fa fl) := by
  refine PA.imp (zaO ha hr hs) fun σ H Q ⟨r,G,si,k⟩ => ⟨r,G,si,zac (zad k) fun d k1 v G1 H1 w1 r1 => ⟨r,G1,si.grow w1,?_⟩⟩
  exact zaW (zad k1) w1 fun ds z vs G2 H2 w2 r2 => z (v::vs) G2 H2 (w1.trans w2) (.cons (r1.mono w2) r2)
noncomputable def sz (ds : List D) : Option (List D) := if ds.length≤sizeLine then some ds else none
theorem zka {ds ds' : List D} (h : sz ds = some ds') : ds' = ds∧ds.length≤sizeLine := by
  unfold sz at h; split at h
  · rename_i hl; cases h; exact ⟨rfl,hl⟩
  · cases h
theorem zl2 {ds : List D} (h : ds.length≤sizeLine) : sz ds = some ds := if_pos h
noncomputable def mkT (fl : Rho→Res (List D)) : FE := fun r => (fl r).bind fun ds => (opt (sz ds)).bind fun ds => .ok (.tup ds)
noncomputable def mkL (fl : Rho→Res (List D)) : FE := fun r => (fl r).bind fun ds => (opt (sz ds)).bind fun ds => .ok (.lst ds)
theorem zjp (h : SA X g m es fl) : SO X g m (.List es pos) (mkL fl) := by
  refine PE.imp (zkO h) fun σ H Q ⟨r,G,si,k⟩ => ⟨r,G,si,zac (zad k) fun ds k1 vs G1 H1 w1 r1 => ?_⟩
  obtain ⟨ds',e,k2⟩ := zat (zad k1)
  obtain ⟨rfl,hl⟩ := zka e
  have hlen := Paired.length r1
  refine ⟨by omega,fun p hp => ?_⟩
  have hn : H p = none := by
    cases q : H p with
    | none => rfl
    | some o => rw [w1.he _ _ q] at hp; cases hp
  exact k2 p G1 _ (w1.trans (Grow.new w1.ok hp _)) hn ⟨w1.ok.isN hp,.lst zag r1⟩
end
end DL
end
section
namespace DL
open PySem PySem.Spec PyProof.Rows L2
noncomputable def zh6 (K : PySem.W.Frag) (r : List V→Hp→VK→Prop) (k : List D→Option D) : Prop := ∀ (G : GH) (H : Hp) (vs : List V) (ds : List D) (d : D) (Q : VK),GOk K G H→Paired (RB K G H) vs ds→k ds = some d →
  (∀ v G' H',Grow K G H G' H'→RG K G' v d→Q v H')→r vs H Q
noncomputable def zlU (K : PySem.W.Frag) (r : List V→Hp→VK→Prop) (k : List D→Option D) : Prop := ∀ (G : GH) (H : Hp) (vs : List V) (ds : List D) (d : D) (Q : VK),GOk K G H→Paired (RB K G H) vs ds→k ds = some d →
  (∀ a G' H',Grow K G H G' H'→H a = none→Own K G' H' a d→Q (.ref a) H')→r vs H Q
noncomputable def fC (fl : Rho→Res (List D)) (k : List D→Option D) : FE := fun r => (fl r).bind fun ds => opt (k ds)
theorem Grow.back {K : PySem.W.Frag} {G G1 : GH} {H H1 : Hp} (w : Grow K G H G1 H1) {a : Addr} (hn : H1 a = none) : H a = none := by
  cases q : H a with
  | none => rfl
  | some o => rw [w.he _ _ q] at hn; cases hn
section
variable {X : Cx} {g : GE} {m : List Md} {e a b c : Expr} {f fa fb fc : FE} {pos p p2 : Pos} {es : List Expr} {fl : Rho → Res (List D)} {x : Str} {id T : String} {R : List V → Hp → VK → Prop} {k : List D → Option D}
theorem s_cb (hk : zh6 X.K R k) (h : PE X e (tCB R (tLB X g m fl))) : SE X g m e (fC fl k) := by
  refine PE.imp h fun σ H Q ⟨r,G,si,q⟩ => ⟨r,G,si,zac (zad q) fun ds q1 vs G1 H1 w1 r1 => ?_⟩
  obtain ⟨d,e,q2⟩ := zat q1
  exact hk G1 H1 vs ds d Q w1.ok r1 e fun v G' H' w' z => q2 v G' H' (w1.trans w') z
theorem zma (hk : zlU X.K R k) (h : PE X e (tCB R (tLB X g m fl))) : SO X g m e (fC fl k) := by
  refine PE.imp h fun σ H Q ⟨r,G,si,q⟩ => ⟨r,G,si,zac (zad q) fun ds q1 vs G1 H1 w1 r1 => ?_⟩
  obtain ⟨d,e,q2⟩ := zat q1
  exact hk G1 H1 vs ds d Q w1.ok r1 e fun v G' H' w' hn z => q2 v G' H' (w1.trans w') (w1.back hn) z
noncomputable def lenD : List D→Option D
  | [.str y] => if y.length≤sizeLine then some (.int y.length) else none
  | [.lst ds] => some (.int ds.length)
  | [.tup ds] => some (.int ds.length)
  | [.dic kvs] => some (.int kvs.length)
  | _ => none
theorem zk9 {K : PySem.W.Frag} : zh6 K (fun xs H Q => (∃ x n,xs = [x]∧LenV K x H n∧Q (.int n) H)∨∃ a kvs,xs = [V.ref a]∧Rd H a (.dK kvs)∧Q (.int kvs.length) H) lenD := by
  intro G H vs ds d Q gk rs e q
  unfold lenD at e
  split at e
  · split at e
    · cases e
      cases rs with
      | cons r t => cases t; exact .inl ⟨_,_,rfl,by rw [r.str gk]; exact ⟨by assumption,rfl⟩,q _ G H (Grow.refl gk) (.scl (.int _))⟩
    · cases e
  · cases e
    cases rs with
    | cons r t =>
      cases t
      obtain ⟨a,xs,rfl,s,r⟩ := r.lst gk
      have := Paired.length r
      exact .inl ⟨_,_,rfl,.inl ⟨xs,s,rfl⟩,q _ G H (Grow.refl gk) (.scl (by rw [this]; exact .int _))⟩
  · cases e
    cases rs with
    | cons r t =>
      cases t
      obtain ⟨a,xs,rfl,s,r⟩ := r.tup gk
      have := Paired.length r
      exact .inl ⟨_,_,rfl,.inr ⟨xs,s,rfl⟩,q _ G H (Grow.refl gk) (.scl (by rw [this]; exact .int _))⟩
  · cases e
    cases rs with
    | cons r t =>
      cases t
      obtain ⟨a,xs,rfl,s,r⟩ := r.dic gk
      have := Paired.length r
      exact .inr ⟨_,_,rfl,s,q _ G H (Grow.refl gk) (.scl (by rw [this]; exact .int _))⟩
  · cases e
theorem zbL (hg : Gl X "len") (hm : X.mg "len" = none) (ha : SAB X g m (e::es) fl) (he : starEach (e::es) X.env = (false,eval e X.env)::starEach es X.env := by rfl) (hpl : (backTo pos (starEach es X.env)).any (·.1) = false := by rfl) :
    SE X g m (.Call (.Name "len" p) (e::es) [] pos) (fC fl lenD) := s_cb zk9 (zck (zbR.or zhY zgT) hg hm PySem.boot_len ha (by decide) (by decide) he hpl)
noncomputable def zdm : List D→Option D
  | [.lst ds] => some (.lst ds)
  | [.tup ds] => some (.lst ds)
  | _ => none
theorem zjs {K : PySem.W.Frag} : zlU K (fun xs H Q => ∃ p ys,xs = [.ref p]∧(SqL K H p ys∨SqT K H p ys)∧∀ l,H l = none→Q (.ref l) (upd H l (.lst ys))) zdm := by
  intro G H vs ds d Q gk rs e q
  have fin : ∀ {ys : List V} {zs : List D},RGs K G ys zs→(∀ (a : Addr) (G' : GH) (H' : Hp),Grow K G H G' H'→H a = none→Own K G' H' a (.lst zs)→Q (.ref a) H')→∀ l,H l = none→Q (.ref l) (upd H l (.lst ys)) :=
    fun r q l hl => q l G _ (Grow.new gk hl _) hl ⟨gk.isN hl,.lst zag r⟩
  unfold zdm at e
  split at e
  · cases e
    cases rs with
    | cons r t =>
      cases t
      obtain ⟨a,xs,rfl,s,r⟩ := r.lst gk
      exact ⟨a,xs,rfl,.inl s,fin r q⟩
  · cases e
    cases rs with
    | cons r t =>
      cases t
      obtain ⟨a,xs,rfl,s,r⟩ := r.tup gk
      exact ⟨a,xs,rfl,.inr s,fin r q⟩
  · cases e
theorem zd1 (hg : Gl X "list") (hm : X.mg "list" = none) (ha : SAB X g m (e::es) fl) (he : starEach (e::es) X.env = (false,eval e X.env)::starEach es X.env := by rfl) (hpl : (backTo pos (starEach es X.env)).any (·.1) = false := by rfl) :
    SO X g m (.Call (.Name "list" p) (e::es) [] pos) (fC fl zdm) := zma zjs (zcj zef hg hm rfl ha (by decide) (by decide) he hpl)
noncomputable def tupD : List D→Option D
  | [.lst ds] => some (.tup ds)
  | [.tup ds] => some (.tup ds)
  | _ => none
theorem zj4 {K : PySem.W.Frag} : zh6 K (fun xs H Q => ∃ p ys,xs = [.ref p]∧((SqL K H p ys∧∀ l,H l = none→Q (.ref l) (upd H l (.tup ys)))∨(SqT K H p ys∧Q (.ref p) H))) tupD := by
  intro G H vs ds d Q gk rs e q
  unfold tupD at e
  split at e
  · cases e
    cases rs with
    | cons r t =>
      cases t
      obtain ⟨a,xs,rfl,s,r⟩ := r.lst gk
      exact ⟨a,xs,rfl,.inl ⟨s,fun l hl => q _ _ _ (Grow.newF gk hl (.tup (.inl zag) r)) (.ref zao)⟩⟩
  · cases e
    cases rs with
    | cons r t =>
      cases t
      rcases r with r | ⟨a,_,o⟩
      · obtain ⟨a,xs,rfl,s,r'⟩ := r.tup gk
        exact ⟨a,xs,rfl,.inr ⟨s,q _ G H (Grow.refl gk) r⟩⟩
      · cases o.ob
  · cases e
theorem zfQ (hg : Gl X "tuple") (hm : X.mg "tuple" = none) (ha : SAB X g m (e::es) fl) (he : starEach (e::es) X.env = (false,eval e X.env)::starEach es X.env := by rfl) (hpl : (backTo pos (starEach es X.env)).any (·.1) = false := by rfl) :
    SE X g m (.Call (.Name "tuple" p) (e::es) [] pos) (fC fl tupD) := s_cb zj4 (zcj zdN hg hm rfl ha (by decide) (by decide) he hpl)
noncomputable def ixD : D→D→Option D
  | .lst ds,.int i => atI ds i
  | .tup ds,.int i => atI ds i
  | .str z,.int i => if z.length≤sizeLine then (atI z.cps.toList i).map fun c => .str ⟨#[c]⟩ else none
  | _,_ => none
theorem zlO {K : PySem.W.Frag} {G : GH} {xs : List V} {ds : List D} {i : Int} {d : D} (r : RGs K G xs ds) (h : atI ds i = some d) : ∃ v,atI xs i = some v∧RG K G v d := by
  unfold atI at h ⊢
  rw [Paired.length r]
  cases e : ixN ds.length i with
  | none => rw [e] at h; cases h
  | some j =>
    rw [e] at h
    exact Paired.get r h
theorem zjv {K : PySem.W.Frag} : OpD K (rIx K) ixD := by
  intro G H v1 v2 d1 d2 d Q gk r1 r2 e q
  unfold ixD at e
  split at e
  · obtain ⟨a,xs,rfl,s,r⟩ := r1.lst gk
    obtain ⟨v,ev,rv⟩ := zlO r e
    exact .inl ⟨a,xs,_,v,rfl,r2.int gk,s,ev,q v G H (Grow.refl gk) rv⟩
  · obtain ⟨a,xs,rfl,s,r⟩ := r1.tup gk
    obtain ⟨v,ev,rv⟩ := zlO r e
    exact .inr (.inl ⟨a,xs,_,v,rfl,r2.int gk,s,ev,q v G H (Grow.refl gk) rv⟩)
  · split at e
    · rename_i z i hz
      cases ec : atI z.cps.toList i with
      | none => rw [ec] at e; cases e
      | some c =>
        rw [ec] at e; cases e
        exact .inr (.inr ⟨z,i,c,r1.str gk,r2.int gk,hz,ec,q _ G H (Grow.refl gk) (.scl (.str _))⟩)
    · cases e
  · cases e
theorem PO.imp {X : Cx} {e : Option Expr} {t t' : TO} (h : PO X e t) (i : ∀ σ H Q,t' σ H Q→t σ H Q) : PO X e t' := fun pins s σ H Q I q => h pins s σ H Q I (i σ H Q q)
end
end DL
end
section
namespace DL
open PySem PySem.Spec PyProof.Rows L2
inductive Out where
  | nx (r : Rho) | rt (d : D) | bk (r : Rho) | ct (r : Rho) | exc (x : D) (r : Rho) | stuck
noncomputable abbrev FS := Rho→Out
noncomputable def Gle (G G' : GH) : Prop := ∀ a d,G a = some d→G' a = some d
theorem Gle.refl (G : GH) : Gle G G := fun _ _ e => e
theorem Gle.trans {G G1 G2 : GH} (a : Gle G G1) (b : Gle G1 G2) : Gle G G2 := fun x d e => b x d (a x d e)
noncomputable def forget (m : List Md) (r : Rho) : Rho := List.zipWith (fun md o => if md = Md.sh then o else none) m r
noncomputable def za1 (m : List Md) : List Md := m.map fun _ => Md.sh
theorem zby {m : List Md} {r : Rho} {i : Nat} {d : D} (h : (forget m r)[i]? = some (some d)) : r[i]? = some (some d)∧m[i]? = some .sh := by
  unfold forget at h
  rw [List.getElem?_zipWith] at h
  cases e1 : m[i]? with
  | none => rw [e1] at h; cases h
  | some md =>
    cases e2 : r[i]? with
    | none => rw [e1,e2] at h; cases h
    | some o =>
      rw [e1,e2] at h
      have h' : (if md = Md.sh then o else none) = some d := Option.some.inj h
      split at h'
      · rename_i hm; subst hm; rw [h']; exact ⟨rfl,rfl⟩
      · cases h'
section
variable {X : Cx} {g : GE} {m : List Md} {r : Rho} {G : GH} {st : L2.St} {H : Hp}
theorem SI.forget (s : SI X g m r G st H) : SI X g (za1 m) (forget m r) G st H where
  gok := s.gok
  old := s.old
  ge := s.ge
  gf := s.gf
  lm := by rw [za1,List.length_map]; exact s.lm
  lr := by rw [DL.forget,List.length_zipWith,s.lm,s.lr,Nat.min_self]
  sh := fun i d h _ => s.sh i d (zby h).1 (zby h).2
  ow := fun i d h hm => by rw [za1,List.getElem?_map,(zby h).2] at hm; cases hm
  bw := fun i d h hm => by rw [za1,List.getElem?_map,(zby h).2] at hm; cases hm
  dis := fun i j a d e _ h _ hm => by rw [za1,List.getElem?_map,(zby h).2] at hm; cases hm
  lk := fun i o _ hm => by rw [za1,List.getElem?_map] at hm; cases q : m[i]? <;> rw [q] at hm <;> cases hm
theorem SI.set (s : SI X g m r G st H) (i : Nat) {v : V} {d : D} (hv : RG X.K G v d) : SI X g (m.set i .sh) (r.set i (some d)) G (st.set i (some v)) H where
  gok := s.gok
  old := s.old
  ge := s.ge
  gf := s.gf
  lm := by simp [s.lm]
  lr := by simp [s.lr]
  sh := fun j e h hm => by
    by_cases hij : i = j
    · subst hij
      have hl : i < r.length := by
        have := (List.getElem?_eq_some_iff.mp h).1
        simpa using this
      rw [List.getElem?_set_self hl] at h
      cases h
      exact ⟨v,by rw [List.getElem?_set_self (by rw [← s.lr]; exact hl)],hv⟩
    · rw [List.getElem?_set_ne hij] at h hm
      rw [List.getElem?_set_ne hij]
      exact s.sh j e h hm
  ow := fun j e h hm => by
    by_cases hij : i = j
    · subst hij
      have hl : i < m.length := by
        have := (List.getElem?_eq_some_iff.mp hm).1
        simpa using this
      rw [List.getElem?_set_self hl] at hm; cases hm
    · rw [List.getElem?_set_ne hij] at h hm
      rw [List.getElem?_set_ne hij]
      exact s.ow j e h hm
  bw := fun j e h hm => by
    by_cases hij : i = j
    · subst hij
      have hl : i < m.length := by
        have := (List.getElem?_eq_some_iff.mp hm).1
        simpa using this
      rw [List.getElem?_set_self hl] at hm; cases hm
    · rw [List.getElem?_set_ne hij] at h hm
      rw [List.getElem?_set_ne hij]
      exact s.bw j e h hm
  dis := fun j k a d1 d2 hjk h1 h2 hm hm' q1 q2 => by
    have hij : i≠j := by
      rintro rfl
      have hl : i < m.length := by
        have := (List.getElem?_eq_some_iff.mp hm).1
        simpa using this
      rw [List.getElem?_set_self hl] at hm; cases hm
    have hik : i≠k := by
      rintro rfl
      have hl : i < m.length := by
        have := (List.getElem?_eq_some_iff.mp h2).1
        rw [List.length_set,s.lr,← s.lm] at this; exact this
      rw [List.getElem?_set_self hl] at hm'; cases hm'
    rw [List.getElem?_set_ne hij] at h1 hm q1
    rw [List.getElem?_set_ne hik] at h2 hm' q2
    exact s.dis j k a d1 d2 hjk h1 h2 hm hm' q1 q2
  lk := fun j o hj hm => by
    have hij : i≠j := by
      rintro rfl
      have hl : i < m.length := by
        have := (List.getElem?_eq_some_iff.mp hm).1
        simpa using this
      rw [List.getElem?_set_self hl] at hm; cases hm
    rw [List.getElem?_set_ne hij] at hm
    have := s.lk j o hj hm
    exact ⟨by rw [List.getElem?_set_ne hij]; exact this.1,fun d h => this.2 d (by rw [List.getElem?_set_ne hij] at h; exact h)⟩
theorem SI.setO (s : SI X g m r G st H) (i : Nat) {a : Addr} {d : D} (ho : Own X.K G H a d) (h0 : g.h0 a = none) (hx : ∀ (j : Nat) (b : Addr) (e : D),r[j]? = some (some e)→m[j]? = some Md.ow→st[j]? = some (some (V.ref b))→b≠a) :
    SI X g (m.set i .ow) (r.set i (some d)) G (st.set i (some (V.ref a))) H where
  gok := s.gok
  old := s.old
  ge := s.ge
  gf := s.gf
  lm := by simp [s.lm]
  lr := by simp [s.lr]
  sh := fun j e h hm => by
    by_cases hij : i = j
    · subst hij
      have hl : i < m.length := by
        have := (List.getElem?_eq_some_iff.mp hm).1
        simpa using this
      rw [List.getElem?_set_self hl] at hm; cases hm
    · rw [List.getElem?_set_ne hij] at h hm
      rw [List.getElem?_set_ne hij]
      exact s.sh j e h hm
  ow := fun j e h hm => by
    by_cases hij : i = j
    · subst hij
      have hl : i < r.length := by
        have := (List.getElem?_eq_some_iff.mp h).1
        simpa using this
      rw [List.getElem?_set_self hl] at h
      cases h
      exact ⟨a,by rw [List.getElem?_set_self (by rw [← s.lr]; exact hl)],ho,h0⟩
    · rw [List.getElem?_set_ne hij] at h hm
      rw [List.getElem?_set_ne hij]
      exact s.ow j e h hm
  bw := fun j e h hm => by
    by_cases hij : i = j
    · subst hij
      have hl : i < m.length := by
        have := (List.getElem?_eq_some_iff.mp hm).1
        simpa using this
      rw [List.getElem?_set_self hl] at hm; cases hm
    · rw [List.getElem?_set_ne hij] at h hm
      rw [List.getElem?_set_ne hij]
      exact s.bw j e h hm
  dis := fun j k b d1 d2 hjk h1 h2 hm hm' q1 q2 => by
    by_cases hij : i = j
    · subst hij
      rw [List.getElem?_set_ne hjk] at h2 hm' q2
      have hl : i < st.length := by
        have := (List.getElem?_eq_some_iff.mp q1).1
        simpa using this
      rw [List.getElem?_set_self hl] at q1
      have e : a = b := by injection q1 with q1; injection q1 with q1; injection q1
      exact hx k b d2 h2 hm' q2 e.symm
    · by_cases hik : i = k
      · subst hik
        rw [List.getElem?_set_ne hij] at h1 hm q1
        have hl : i < st.length := by
          have := (List.getElem?_eq_some_iff.mp q2).1
          simpa using this
        rw [List.getElem?_set_self hl] at q2
        have e : a = b := by injection q2 with q2; injection q2 with q2; injection q2
        exact hx j b d1 h1 hm q1 e.symm
      · rw [List.getElem?_set_ne hij] at h1 hm q1
        rw [List.getElem?_set_ne hik] at h2 hm' q2
        exact s.dis j k b d1 d2 hjk h1 h2 hm hm' q1 q2
  lk := fun j o hj hm => by
    have hij : i≠j := by
      rintro rfl
      have hl : i < m.length := by
        have := (List.getElem?_eq_some_iff.mp hm).1
        simpa using this
      rw [List.getElem?_set_self hl] at hm; cases hm
    rw [List.getElem?_set_ne hij] at hm
    have := s.lk j o hj hm
    exact ⟨by rw [List.getElem?_set_ne hij]; exact this.1,fun d h => this.2 d (by rw [List.getElem?_set_ne hij] at h; exact h)⟩
theorem SI.other (s : SI X g m r G st H) {p : Addr} (hp : G p = none) (h0 : g.h0 p = none) (hm : ∀ (i : Nat),m[i]?≠some Md.ow) (o : HO) : SI X g m r G st (upd H p o) where
  gok := fun b e h => (s.gok b e h).mono (fun _ _ z => z) fun o' q => by rw [zae (by rintro rfl; rw [hp] at h; cases h)]; exact q
  old := fun b o' h => by rw [zae (by rintro rfl; rw [h0] at h; cases h)]; exact s.old b o' h
  ge := s.ge
  gf := s.gf
  lm := s.lm
  lr := s.lr
  sh := s.sh
  ow := fun i d _ h => absurd h (hm i)
  bw := fun i d h1 h2 => by
    obtain ⟨v,h3,h4⟩ := s.bw i d h1 h2
    refine ⟨v,h3,?_⟩
    rcases h4 with h4 | ⟨a,rfl,h4,h5⟩
    · exact .inl h4
    · have ha : a≠p := by rintro rfl; exact h5 h0
      exact .inr ⟨a,rfl,⟨h4.un,h4.ob.mono (fun _ _ z => z) fun o' z => by rw [zae ha]; exact z⟩,h5⟩
  dis := fun i j a d e _ _ _ h => absurd h (hm i)
  lk := s.lk
theorem SI.less (s : SI X g m r G st H) {r' : Rho} (hl : r'.length = r.length) (h : ∀ (i : Nat) d,r'[i]? = some (some d)→r[i]? = some (some d)) : SI X g m r' G st H :=
  ⟨s.gok,s.old,s.ge,s.gf,s.lm,hl.trans s.lr,fun i d a b => s.sh i d (h i d a) b,fun i d a b => s.ow i d (h i d a) b,fun i d a b => s.bw i d (h i d a) b,fun i j a d e n p q x y => s.dis i j a d e n (h i d p) (h j e q) x y,fun i o hi hm => by
    have := s.lk i o hi hm
    exact ⟨this.1,fun d hd => this.2 d (h i d hd)⟩⟩
theorem SI.held (s : SI X g m r G st H) {j : Nat} {b : Addr} {e : D} (h : r[j]? = some (some e)) (hm : m[j]? = some .ow) (hs : st[j]? = some (some (V.ref b))) : H b≠none := by
  obtain ⟨a,h1,h2,_⟩ := s.ow j e h hm
  rw [hs] at h1
  injection h1 with h1; injection h1 with h1; injection h1 with h1
  rw [h1]; exact h2.ob.isS
theorem SI.new (s : SI X g m r G st H) {a : Addr} (hn : H a = none) : g.h0 a = none := by
  cases q : g.h0 a with
  | none => rfl
  | some o => rw [s.old _ _ q] at hn; cases hn
theorem SI.setN (s : SI X g m r G st H) {G' : GH} {H' : Hp} (w : Grow X.K G H G' H') (i : Nat) {a : Addr} {d : D} (hn : H a = none) (ho : Own X.K G' H' a d) : SI X g (m.set i .ow) (r.set i (some d)) G' (st.set i (some (V.ref a))) H' := by
  refine (s.grow w).setO i ho ?_ fun j b e h1 h2 h3 => ?_
  · cases q : g.h0 a with
    | none => rfl
    | some o => rw [s.old _ _ q] at hn; cases hn
  · rintro rfl
    exact s.held h1 h2 h3 hn
theorem SI.mut (s : SI X g m r G st H) {i : Nat} {d : D} (hm : m[i]? = some .ow) (hd : r[i]? = some (some d)) :
    ∃ a,st[i]? = some (some (V.ref a))∧Own X.K G H a d∧∀ (o' : HO) (d' : D),OwnO X.K G (upd H a o') a d'→SI X g m (r.set i (some d')) G st (upd H a o') := by
  obtain ⟨a,h1,h2,h3⟩ := s.ow i d hd hm
  have hl : i < r.length := (List.getElem?_eq_some_iff.mp hd).1
  refine ⟨a,h1,h2,fun o' d' ob => ?_⟩
  have oth : ∀ (j : Nat) (b : Addr) (e : D),j≠i→r[j]? = some (some e)→m[j]? = some .ow→st[j]? = some (some (V.ref b))→b≠a := fun j b e hj q1 q2 q3 z => by
    subst z
    exact s.dis i j b d e (Ne.symm hj) hd q1 hm q2 h1 q3
  refine ⟨fun b e h => ?_,fun b o h => ?_,s.ge,s.gf,s.lm,by simp [s.lr],?_,?_,?_,?_,fun j o hj hm' => ?_⟩
  · have hb : b≠a := by rintro rfl; rw [h2.un] at h; cases h
    exact (s.gok b e h).mono (fun _ _ z => z) fun o q => by rw [zae hb]; exact q
  · have hb : b≠a := by rintro rfl; rw [h3] at h; cases h
    rw [zae hb]; exact s.old b o h
  · intro j e h hm'
    have hij : i≠j := by rintro rfl; rw [hm] at hm'; cases hm'
    rw [List.getElem?_set_ne hij] at h
    exact s.sh j e h hm'
  · intro j e h hm'
    by_cases hij : i = j
    · subst hij
      rw [List.getElem?_set_self hl] at h; cases h
      exact ⟨a,h1,⟨h2.un,ob⟩,h3⟩
    · rw [List.getElem?_set_ne hij] at h
      obtain ⟨b,q1,q2,q3⟩ := s.ow j e h hm'
      have hb := oth j b e (Ne.symm hij) h hm' q1
      exact ⟨b,q1,⟨q2.un,q2.ob.mono (fun _ _ z => z) fun o z => by rw [zae hb]; exact z⟩,q3⟩
  · intro j e h hm'
    have hij : i≠j := by rintro rfl; rw [hm] at hm'; cases hm'
    rw [List.getElem?_set_ne hij] at h
    obtain ⟨v,q1,q2⟩ := s.bw j e h hm'
    refine ⟨v,q1,?_⟩
    rcases q2 with q2 | ⟨b,rfl,q2,q3⟩
    · exact .inl q2
    · have hb : b≠a := by rintro rfl; exact q3 h3
      exact .inr ⟨b,rfl,⟨q2.un,q2.ob.mono (fun _ _ z => z) fun o z => by rw [zae hb]; exact z⟩,q3⟩
  · have bound : ∀ (j : Nat) e,(r.set i (some d'))[j]? = some (some e)→∃ e',r[j]? = some (some e') := fun j e h => by
      by_cases hij : i = j
      · subst hij; exact ⟨d,hd⟩
      · rw [List.getElem?_set_ne hij] at h; exact ⟨e,h⟩
    intro j k b d1 d2 hjk q1 q2 p1 p2 z1 z2
    obtain ⟨e1,q1⟩ := bound j d1 q1
    obtain ⟨e2,q2⟩ := bound k d2 q2
    exact s.dis j k b e1 e2 hjk q1 q2 p1 p2 z1 z2
  · have hij : i≠j := by rintro rfl; rw [hm] at hm'; cases hm'
    have := s.lk j o hj hm'
    exact ⟨this.1,fun d'' h => this.2 d'' (by rw [List.getElem?_set_ne hij] at h; exact h)⟩
end
noncomputable def RV (ro : Bool) (K : PySem.W.Frag) (H0 : Hp) (G : GH) (H : Hp) (v : V) (d : D) : Prop := match ro with
  | false => RG K G v d
  | true => (∃ a,v = .ref a∧H0 a = none∧Own K G H a d)∨(d = .non∧v = .non)
theorem RV.toF {K : PySem.W.Frag} {H0 : Hp} {G0 G : GH} {H : Hp} {v : V} {d : D} (w : Grow K G0 H0 G H) (h : RV true K H0 G H v d) : (∃ G',Grow K G0 H0 G' H∧RG K G' v d)∨∃ a,∀ ob,∃ G',Grow K G0 H0 G' (fz H a ob)∧RG K G' v d := by
  rcases h with ⟨a,rfl,hn,ho⟩ | ⟨rfl,rfl⟩
  · exact .inr ⟨a,fun ob => ⟨_,w.frz hn ho ob,.ref zao⟩⟩
  · exact .inl ⟨G,w,.scl .non⟩
noncomputable def oTo (X : Cx) (g : GE) (ro : Bool) (m' mb : List Md) (G : GH) (D : Ends) : Out→Prop
  | .nx r' => ∀ σ' G' H',Gle G G'→SI X g m' r' G' σ' H'→D.nx σ' H'
  | .rt d => ∀ v G' H',Grow X.K g.gh g.h0 G' H'→RV ro X.K g.h0 G' H' v d→D.rt v H'
  | .bk r' => ∀ σ' G' H',Gle G G'→SI X g mb r' G' σ' H'→D.bk σ' H'
  | .ct r' => ∀ σ' G' H',Gle G G'→SI X g mb r' G' σ' H'→D.ct σ' H'
  | .exc x r' => ∀ pins e s' σ' G' H',Gle G G'→SI X g (za1 m') r' G' σ' H'→Inv X pins σ' H' s'→ExV X σ' G' H' e x s'→X.xe e s'
  | .stuck => False
noncomputable def tS (X : Cx) (g : GE) (ro : Bool) (m m' mb : List Md) (f : FS) : TS := fun D σ H => ∃ r G,SI X g m r G σ H∧oTo X g ro m' mb G D (f r)
noncomputable def SS (X : Cx) (g : GE) (ro : Bool) (mb m : List Md) (st : Stmt) (f : FS) (m' : List Md) : Prop := m'.length = m.length∧PS X st (tS X g ro m m' mb f)
noncomputable def SSs (X : Cx) (g : GE) (ro : Bool) (mb m : List Md) (st : List Stmt) (f : FS) (m' : List Md) : Prop := m'.length = m.length∧PSs X st (tS X g ro m m' mb f)
theorem zem {m m' : List Md} (h : m'.length = m.length) : za1 m' = za1 m := by
  unfold za1
  rw [List.map_const',List.map_const',h]
theorem oTo.x {X : Cx} {g : GE} {ro : Bool} {m m' mb : List Md} {r : Rho} {G : GH} {D : Ends} {σ : L2.St} {H : Hp} {x : DL.D} (h : oTo X g ro m' mb G D (.exc x (forget m r))) (si : SI X g m r G σ H) (hl : m'.length = m.length) : XW X σ G H x :=
  fun pins e s' G' H' w I ex => h pins e s' σ G' H' w.ge (by rw [zem hl]; exact (si.grow w).forget) I ex
section
variable {X : Cx} {g : GE} {ro : Bool} {m m' m1 mb : List Md} {e a b c tg : Expr} {f fa fb fc : FE} {p : FQ} {pos pos' : Pos} {st : Stmt} {sts sts' : List Stmt} {s1 s2 : FS}
theorem oTo.gle {G G1 : GH} {D : Ends} {o : Out} (h : oTo X g ro m' mb G D o) (w : Gle G G1) : oTo X g ro m' mb G1 D o := by
  cases o with
  | nx r' => exact fun σ' G' H' q si => h σ' G' H' (w.trans q) si
  | rt d => exact h
  | bk r' => exact fun σ' G' H' q si => h σ' G' H' (w.trans q) si
  | ct r' => exact fun σ' G' H' q si => h σ' G' H' (w.trans q) si
  | exc x r' => exact fun pins e s' σ' G' H' q => h pins e s' σ' G' H' (w.trans q)
  | stuck => exact h
noncomputable def seqF (s1 s2 : FS) : FS := fun r => match s1 r with
  | .nx r' => s2 r'
  | o => o
noncomputable def zaj : FS := fun r => .nx r
theorem zai : SSs X g ro mb m [] zaj m := ⟨rfl,PSs.imp zi3 fun D σ H ⟨r,G,si,q⟩ => q σ G H (Gle.refl G) si⟩
theorem zaa (h1 : SS X g ro mb m st s1 m1) (h2 : SSs X g ro mb m1 sts s2 m') : SSs X g ro mb m (st::sts) (seqF s1 s2) m' := by
  refine ⟨h2.1.trans h1.1,PSs.imp (zeZ h1.2 h2.2) fun D σ H ⟨r,G,si,q⟩ => ⟨r,G,si,?_⟩⟩
  unfold seqF at q
  cases e : s1 r with
  | nx r' =>
    rw [e] at q
    exact fun σ' G' H' w si' => ⟨r',G',si',oTo.gle q w⟩
  | rt d => rw [e] at q; exact q
  | bk r' => rw [e] at q; exact q
  | ct r' => rw [e] at q; exact q
  | exc x r' => rw [e] at q; exact fun pins e s' σ' G' H' w si' => q pins e s' σ' G' H' w (by rw [zem h2.1]; exact si')
  | stuck => rw [e] at q; exact q
theorem zfR : SS X g ro mb m st (fun _ => .stuck) m := ⟨rfl,PS.imp zhm fun D σ H ⟨r,G,si,q⟩ => q⟩
theorem zl8 (i : Nat) (hi : m[i]? = some .ow) (h : SS X g ro mb (m.set i .sh) st s1 m') : SS X g ro mb m st s1 m' := by
  refine ⟨h.1.trans (by simp),fun pins s σ H D I ⟨r,G,si,q⟩ => ?_⟩
  rcases si.frz i hi with ⟨G',le,si'⟩ | ⟨a,z⟩
  · exact h.2 pins s σ H D I ⟨r,G',si',oTo.gle q le⟩
  · obtain ⟨ob,I2⟩ := Inv.fast I a
    obtain ⟨G',le,si'⟩ := z ob
    exact h.2 pins s σ _ D I2 ⟨r,G',si',oTo.gle q le⟩
noncomputable def onE {α : Type} (m : List Md) (r : Rho) (x : Res α) (k : α→Out) : Out := match x with
  | .ok a => k a
  | .exc e => .exc e (forget m r)
  | .stuck => .stuck
@[simp] theorem onE_ok {α : Type} (m : List Md) (r : Rho) (a : α) (k : α→Out) : onE m r (.ok a) k = k a := rfl
theorem zbb {α : Type} {x : Res α} {k : α→Out} {r : Rho} {G : GH} {D : Ends} {σ : L2.St} {H : Hp} (si : SI X g m r G σ H) (hl : m'.length = m.length) (h : oTo X g ro m' mb G D (onE m r x k)) : fin x (fun a => oTo X g ro m' mb G D (k a)) (XW X σ G H) := by
  cases x with
  | ok a => exact h
  | exc e => exact oTo.x h si hl
  | stuck => exact h
noncomputable def setF (m : List Md) (i : Nat) (f : FE) : FS := fun r => onE m r (f r) fun d => .nx (r.set i (some d))
theorem zbc (i : Nat) {x : Str} (hN : X.N.Nodup) (hi : X.N[i]? = some x) (hx : Loc X.env.scope x) (he : SE X g m e f) (hs : swapsWith e (some (.Name x pos')) pos.line X.env = pure false := by rfl)
    (hf : X.fn x = true∨X.env.scope.names.lookup x = some .local := by first | exact .inl rfl | exact .inr rfl | assumption) : SS X g ro mb m (.Assign [.Name x pos'] e pos) (setF m i f) (m.set i .sh) := by
  have hl : (m.set i .sh).length = m.length := by simp
  refine ⟨hl,PS.imp (zim hN hi hx he hs hf) fun D σ H ⟨r,G,si,q⟩ => ⟨r,G,si,?_⟩⟩
  exact zac (zbb si hl q) fun d q v G' H' w rv => q _ G' H' w.ge ((si.grow w).set i rv)
theorem zdV (i : Nat) {x : Str} (hN : X.N.Nodup) (hi : X.N[i]? = some x) (hx : Loc X.env.scope x) (he : SO X g m e f) (hs : swapsWith e (some (.Name x pos')) pos.line X.env = pure false := by rfl)
    (hf : X.fn x = true∨X.env.scope.names.lookup x = some .local := by first | exact .inl rfl | exact .inr rfl | assumption) : SS X g ro mb m (.Assign [.Name x pos'] e pos) (setF m i f) (m.set i .ow) := by
  have hl : (m.set i .ow).length = m.length := by simp
  refine ⟨hl,PS.imp (zim hN hi hx he hs hf) fun D σ H ⟨r,G,si,q⟩ => ⟨r,G,si,?_⟩⟩
  exact zac (zbb si hl q) fun d q a G' H' w hn ho => q _ G' H' w.ge (si.setN w i hn ho)
noncomputable def retF (m : List Md) (f : FE) : FS := fun r => onE m r (f r) fun d => .rt d
theorem zbn (he : SE X g m e f) : SS X g false mb m (.Return (some e) pos) (retF m f) m :=
  ⟨rfl,PS.imp (zin he) fun D σ H ⟨r,G,si,q⟩ => ⟨r,G,si,zac (zbb si rfl q) fun d q v G' H' w rv => q v G' H' (si.grow w).grown rv⟩⟩
theorem zdr (he : SO X g m e f) : SS X g true mb m (.Return (some e) pos) (retF m f) m :=
  ⟨rfl,PS.imp (zin he) fun D σ H ⟨r,G,si,q⟩ => ⟨r,G,si,zac (zbb si rfl q) fun d q a G' H' w hn ho => q (.ref a) G' H' (si.grow w).grown (.inl ⟨a,rfl,si.new hn,ho⟩)⟩⟩
noncomputable def ifF (m : List Md) (p : FQ) (s1 s2 : FS) : FS := fun r => onE m r (p r) fun c => if c = true then s1 r else s2 r
theorem s_if (hc : SQ X g m c p) (h1 : SSs X g ro mb m sts s1 m') (h2 : SSs X g ro mb m sts' s2 m') : SS X g ro mb m (.If c sts sts' pos) (ifF m p s1 s2) m' := by
  refine ⟨h1.1,PS.imp (zmf hc h1.2 h2.2) fun D σ H ⟨r,G,si,q⟩ => ⟨r,G,si,zac (zbb si h1.1 q) fun c q G' H' w => ?_⟩⟩
  cases c with
  | true => rw [if_pos rfl] at q ⊢; exact ⟨r,G',si.grow w,oTo.gle q w.ge⟩
  | false => rw [if_neg Bool.false_ne_true] at q ⊢; exact ⟨r,G',si.grow w,oTo.gle q w.ge⟩
end
end DL
end
section
namespace DL
open PySem PySem.Spec PyProof.Rows L2
noncomputable abbrev FT := D→Rho→Option Rho
noncomputable abbrev FTs := List D→Rho→Option Rho
noncomputable def tG (X : Cx) (g : GE) (m m' : List Md) (ft : FT) : TG := fun v σ H Q => ∃ r G d,SI X g m r G σ H∧RG X.K G v d∧∃ r',ft d r = some r'∧∀ σ',SI X g m' r' G σ' H→Q σ' H
noncomputable def tGs (X : Cx) (g : GE) (m m' : List Md) (ft : FTs) : TGs := fun vs σ H Q => ∃ r G ds,SI X g m r G σ H∧RGs X.K G vs ds∧∃ r',ft ds r = some r'∧∀ σ',SI X g m' r' G σ' H→Q σ' H
theorem PG.imp {X : Cx} {e : Expr} {t t' : TG} (h : PG X e t) (i : ∀ v σ H Q,t' v σ H Q→t v σ H Q) : PG X e t' := fun pins s σ H v u Q I r q => h pins s σ H v u Q I r (i v σ H Q q)
theorem PGs.imp {X : Cx} {e : List Expr} {t t' : TGs} (h : PGs X e t) (i : ∀ v σ H Q,t' v σ H Q→t v σ H Q) : PGs X e t' := fun pins s σ H v u Q I r q => h pins s σ H v u Q I r (i v σ H Q q)
noncomputable def SG (X : Cx) (g : GE) (m : List Md) (tg : Expr) (ft : FT) (m' : List Md) : Prop := m'.length = m.length∧PG X tg (tG X g m m' ft)
structure SGs (X : Cx) (g : GE) (m : List Md) (ts : List Expr) (n : Nat) (ft : FTs) (m' : List Md) : Prop where
  ml : m'.length = m.length
  ln : ∀ ds r r',ft ds r = some r'→ds.length = n
  pg : PGs X ts (tGs X g m m' ft)
noncomputable def ftN (i : Nat) : FT := fun d r => some (r.set i (some d))
noncomputable def ftT (ft : FTs) : FT := fun d r => match d with
  | .tup ds => ft ds r
  | .lst ds => ft ds r
  | _ => none
noncomputable def zdd : FTs := fun ds r => match ds with
  | [] => some r
  | _ => none
noncomputable def zaQ (ft : FT) (fts : FTs) : FTs := fun ds r => match ds with
  | [] => none
  | d::ds => (ft d r).bind fun r' => fts ds r'
section
variable {X : Cx} {g : GE} {m m' m1 : List Md} {tg : Expr} {ts : List Expr} {ft : FT} {fts : FTs} {pos : Pos} {n : Nat}
theorem zdc (i : Nat) {x : Str} (hN : X.N.Nodup) (hi : X.N[i]? = some x) (hx : Loc X.env.scope x) (hf : X.fn x = true∨X.env.scope.names.lookup x = some .local := by first | exact .inl rfl | exact .inr rfl | assumption) :
    SG X g m (.Name x pos) (ftN i) (m.set i .sh) :=
  ⟨by simp,PG.imp (zi7 hN hi hx hf) fun v σ H Q ⟨r,G,d,si,rv,r',e,k⟩ => by cases e; exact k _ (si.set i rv)⟩
theorem zlw : SGs X g m [] 0 zdd m := by
  refine ⟨rfl,fun ds r r' e => ?_,PGs.imp zi6 fun v σ H Q ⟨r,G,ds,si,rv,r',e,k⟩ => ?_⟩
  · cases ds with
    | nil => rfl
    | cons _ _ => cases e
  · cases rv with
    | nil => cases e; exact ⟨rfl,k σ si⟩
    | cons _ _ => cases e
theorem zfa (h1 : SG X g m tg ft m1) (h2 : SGs X g m1 ts n fts m') (hs : (assignEach (tg::ts) X.env).map (·.2) = assign tg X.env::(assignEach ts X.env).map (·.2) := by rfl) : SGs X g m (tg::ts) (n + 1) (zaQ ft fts) m' := by
  refine ⟨h2.ml.trans h1.1,fun ds r r' e => ?_,PGs.imp (zhr h1.2 h2.pg hs) fun v σ H Q ⟨r,G,ds,si,rv,r',e,k⟩ => ?_⟩
  · cases ds with
    | nil => cases e
    | cons d ds =>
      have e' : ((ft d r).bind fun r' => fts ds r') = some r' := e
      cases q : ft d r with
      | none => rw [q] at e'; cases e'
      | some r1 =>
        rw [q] at e'
        have := h2.ln ds r1 r' e'
        simp [this]
  · cases rv with
    | nil => cases e
    | @cons v0 d vs ds rv rs =>
      have e' : ((ft d r).bind fun r' => fts ds r') = some r' := e
      cases q : ft d r with
      | none => rw [q] at e'; cases e'
      | some r1 =>
        rw [q] at e'
        exact ⟨_,_,rfl,r,G,d,si,rv,r1,q,fun σ' si' => ⟨r1,G,ds,si',rs,r',e',k⟩⟩
theorem zkF {k : Nat} {t : TGs} (hc : X.calm = true) (h : PGs X ts t) (hn : (assignEach ts X.env).length = n) (hst : (assignEach ts X.env).findIdx? (·.1) = none) :
    PG X (.Tuple ts k pos) (fun v σ H Q => ∃ a xs,v = .ref a∧SqL X.K H a xs∧xs.length = n∧t xs σ H Q) := by
  intro pins s σ H v u Q I r hw
  obtain ⟨a,xs,e1,hq,hl,hw⟩ := hw
  subst e1
  cases r
  obtain ⟨its,rv,⟨o,nn,l1,l2,l3,l4⟩,hz⟩ := I.list hq
  rw [PyProof.Rows.assign_Tuple]
  refine wpAny_bind (wpAny_standAt ?_)
  unfold unpack
  rw [hst,show (assignEach ts X.env).length = its.toArray.size by simp [hn,← hl,rv.length]]
  refine wpAny_bind (wpAny_holding (PySem.W.kun_itemsOf (I.ok.hd hc) ⟨o,l1,l2,nn,l4⟩ fun h' hx => ?_))
  have I1 : Inv X pins σ H { s with heap := h' } := I.kept (t' := s.toks) fun b o e => hx b o (Nat.ne_of_lt (Heap.lt_size e)) e
  exact h pins _ σ H xs _ Q I1 (by simpa using rv) hw
theorem PG.or {e : Expr} {t t' : TG} (h : PG X e t) (h' : PG X e t') : PG X e (fun v σ H Q => t v σ H Q∨t' v σ H Q) := fun pins s σ H v u Q I r q => q.elim (h pins s σ H v u Q I r) (h' pins s σ H v u Q I r)
theorem zlv {k : Nat} (hc : X.calm = true) (h : SGs X g m ts n fts m') (hn : (assignEach ts X.env).length = n := by rfl) (hst : (assignEach ts X.env).findIdx? (·.1) = none := by rfl) : SG X g m (.Tuple ts k pos) (ftT fts) m' := by
  refine ⟨h.ml,PG.imp (PG.or (zkG hc h.pg hn hst) (zkF hc h.pg hn hst)) fun v σ H Q ⟨r,G,d,si,rv,r',e,k⟩ => ?_⟩
  cases d with
  | tup ds =>
    obtain ⟨a,xs,rfl,s,rs⟩ := rv.tup si.gok
    exact .inl ⟨a,xs,rfl,s,(Paired.length rs).trans (h.ln ds r r' e),r,G,ds,si,rs,r',e,k⟩
  | lst ds =>
    obtain ⟨a,xs,rfl,s,rs⟩ := rv.lst si.gok
    exact .inr ⟨a,xs,rfl,s,(Paired.length rs).trans (h.ln ds r r' e),r,G,ds,si,rs,r',e,k⟩
  | _ => cases e
end
structure Yields (K : PySem.W.Frag) (J : It) (ds : List D) (G0 : GH) : Prop where
  go : ∀ G H (i : Nat),Gle G0 G→GOk K G H→i < ds.length→J.go i H
  yld : ∀ G H (i : Nat) x H' d,Gle G0 G→GOk K G H→J.yld i H x H'→ds[i]? = some d→∃ G',Grow K G H G' H'∧RG K G' x d
  stop : ∀ G H,Gle G0 G→GOk K G H→J.stop ds.length H
noncomputable abbrev FI := Rho→Res (List D)
noncomputable def tI (X : Cx) (g : GE) (m : List Md) (f : FI) : TI := fun σ H R => ∃ r G,SI X g m r G σ H∧fin (f r) (fun ds => ∀ J G' H',Grow X.K G H G' H'→Yields X.K J ds G'→R J H') (XW X σ G H)
noncomputable def SIt (X : Cx) (g : GE) (m : List Md) (tg iter : Expr) (f : FI) : Prop := PI X tg iter (tI X g m f)
theorem PI.imp {X : Cx} {tg e : Expr} {t t' : TI} (h : PI X tg e t) (i : ∀ σ H Q,t' σ H Q→t σ H Q) : PI X tg e t' := fun pins s σ H R I q => h pins s σ H R I (i σ H R q)
theorem ziH {K : PySem.W.Frag} {a : Addr} {ds : List D} {G0 : GH} (h0 : RG K G0 (.ref a) (.lst ds)) : Yields K (Itl K a) ds G0 := by
  have at_ : ∀ G H,Gle G0 G→GOk K G H→∃ xs,SqL K H a xs∧RGs K G xs ds := fun G H w gk => by
    obtain ⟨b,xs,e,s,r⟩ := (h0.mono w).lst gk
    cases e
    exact ⟨xs,s,r⟩
  refine ⟨fun G H i w gk hi => ?_,fun G H i x H' d w gk y e => ?_,fun G H w gk => ?_⟩
  · obtain ⟨xs,s,r⟩ := at_ G H w gk
    have hl := Paired.length r
    exact ⟨xs,xs[i],s,List.getElem?_eq_getElem (by omega)⟩
  · obtain ⟨xs,s,r⟩ := at_ G H w gk
    obtain ⟨rfl,y⟩ := y
    obtain ⟨v,e1,rv⟩ := Paired.get r e
    have := y xs s
    rw [e1] at this; cases this
    exact ⟨G,Grow.refl gk,rv⟩
  · obtain ⟨xs,s,r⟩ := at_ G H w gk
    exact ⟨xs,s,Nat.le_of_eq (Paired.length r)⟩
theorem zjX {K : PySem.W.Frag} {a : Addr} {ds : List D} {G0 : GH} (h0 : RG K G0 (.ref a) (.tup ds)) : Yields K (Itt K a) ds G0 := by
  have at_ : ∀ G H,Gle G0 G→GOk K G H→∃ xs,SqT K H a xs∧RGs K G xs ds := fun G H w gk => by
    obtain ⟨b,xs,e,s,r⟩ := (h0.mono w).tup gk
    cases e
    exact ⟨xs,s,r⟩
  refine ⟨fun G H i w gk hi => ?_,fun G H i x H' d w gk y e => ?_,fun G H w gk => ?_⟩
  · obtain ⟨xs,s,r⟩ := at_ G H w gk
    have hl := Paired.length r
    exact ⟨xs,xs[i],s,List.getElem?_eq_getElem (by omega)⟩
  · obtain ⟨xs,s,r⟩ := at_ G H w gk
    obtain ⟨rfl,y⟩ := y
    obtain ⟨v,e1,rv⟩ := Paired.get r e
    have := y xs s
    rw [e1] at this; cases this
    exact ⟨G,Grow.refl gk,rv⟩
  · obtain ⟨xs,s,r⟩ := at_ G H w gk
    exact ⟨xs,s,Nat.le_of_eq (Paired.length r)⟩
noncomputable def rngD (lo : Int) (n : Nat) : List D := (List.range n).map fun (i : Nat) => D.int (lo + (i : Int))
theorem zjY {K : PySem.W.Frag} {lo : Int} {n : Nat} {G0 : GH} : Yields K (Itr lo n) (rngD lo n) G0 := by
  have hl : (rngD lo n).length = n := by simp [rngD]
  refine ⟨fun G H i w gk hi => (by rw [hl] at hi; exact hi),fun G H i x H' d w gk y e => ?_,fun G H w gk => (by rw [hl]; exact Nat.le_refl _)⟩
  obtain ⟨rfl,rfl⟩ := y
  have hi : i < n := by
    have := (List.getElem?_eq_some_iff.mp e).1
    rw [hl] at this; exact this
  unfold rngD at e
  rw [List.getElem?_map,List.getElem?_range hi] at e
  cases e
  exact ⟨G,Grow.refl gk,.scl (.int _)⟩
noncomputable def zeO : D→Option (List D)
  | .lst ds => some ds
  | .tup ds => some ds
  | _ => none
section
variable {X : Cx} {g : GE} {m m' m1 mb : List Md} {tg e a b c iter : Expr} {f fa fb : FE} {p : FQ} {pos pos' : Pos} {ro : Bool} {fl : Rho → Res (List D)} {sts : List Stmt} {s1 : FS}
noncomputable def fSeq (k : D→Option (List D)) (f : FE) : FI := fun r => (f r).bind fun d => opt (k d)
theorem zkE {l : Expr} {tl : TE} (hl : PE X l tl) : PI X tg l (fun σ H R => tl σ H fun x H1 => (∃ a,x = .ref a∧(∃ xs,SqL X.K H1 a xs)∧R (Itl X.K a) H1)∨∃ a,x = .ref a∧(∃ xs,SqT X.K H1 a xs)∧R (Itt X.K a) H1) := by
  intro pins s σ H R I h
  refine thn (hl pins s σ H _ I h) fun v s1 ⟨x,H1,I1,r1,q1⟩ => ?_
  rcases q1 with ⟨a,e,⟨xs,hq⟩,q⟩ | ⟨a,e,⟨xs,hq⟩,q⟩
  · subst e
    cases r1
    obtain ⟨its,rv,p,hz⟩ := I1.list hq
    refine wpAny_pyIter_list p.isList ?_
    refine ⟨s1.heap.objs.size,[s1.heap.objs.size],_,_,H1,rfl,I1.kept (t' := s1.toks) fun b o e => Heap.get?_push_of_some _ e,zfL a _,⟨_,Heap.get?_push_size _ rfl,rfl,rfl⟩,fun b hb => ?_,q⟩
    have e : b = s1.heap.objs.size := by simpa using hb
    subst e
    exact I1.fpOk (Nat.le_refl _) (I1.hok.fresh (Nat.le_refl _))
  · subst e
    cases r1
    obtain ⟨its,rv,p,hz⟩ := I1.tuple hq
    refine wpAny_pyIter_tuple (show s1.heap.IsTuple a its.toArray from p) ?_
    refine ⟨s1.heap.objs.size,[s1.heap.objs.size],_,_,H1,rfl,I1.kept (t' := s1.toks) fun b o e => Heap.get?_push_of_some _ e,zfo a _,⟨_,Heap.get?_push_size _ rfl,rfl,rfl⟩,fun b hb => ?_,q⟩
    have e : b = s1.heap.objs.size := by simpa using hb
    subst e
    exact I1.fpOk (Nat.le_refl _) (I1.hok.fresh (Nat.le_refl _))
structure YieldsC (K : PySem.W.Frag) (J : It) (ds : List D) (G0 : GH) (H0 : Hp) : Prop where
  go : ∀ G H (i : Nat),Grow K G0 H0 G H→i < ds.length→J.go i H
  yld : ∀ G H (i : Nat) x H' d,Grow K G0 H0 G H→J.yld i H x H'→ds[i]? = some d→∃ G',Grow K G H G' H'∧RG K G' x d
  stop : ∀ G H,Grow K G0 H0 G H→J.stop ds.length H
theorem Yields.toC {K : PySem.W.Frag} {J : It} {ds : List D} {G0 : GH} {H0 : Hp} (y : Yields K J ds G0) : YieldsC K J ds G0 H0 :=
  ⟨fun G H i w hi => y.go G H i w.ge w.ok hi,fun G H i x H' d w q e => y.yld G H i x H' d w.ge w.ok q e,fun G H w => y.stop G H w.ge w.ok⟩
noncomputable def tIC (X : Cx) (g : GE) (m : List Md) (f : FI) : TI := fun σ H R => ∃ r G,SI X g m r G σ H∧fin (f r) (fun ds => ∀ J G' H',Grow X.K G H G' H'→YieldsC X.K J ds G' H'→R J H') (XW X σ G H)
noncomputable def SItC (X : Cx) (g : GE) (m : List Md) (tg iter : Expr) (f : FI) : Prop := PI X tg iter (tIC X g m f)
theorem SIt.toC {fi : FI} (h : SIt X g m tg iter fi) : SItC X g m tg iter fi := PI.imp h fun σ H R ⟨r,G,si,q⟩ => ⟨r,G,si,zac q fun ds k J G' H' w y => k J G' H' w y.toC⟩
theorem zjZ {K : PySem.W.Frag} {a : Addr} {ds : List D} {G0 : GH} {H0 : Hp} (o : Own K G0 H0 a (.lst ds)) : YieldsC K (Itl K a) ds G0 H0 := by
  have at_ : ∀ G H,Grow K G0 H0 G H→∃ xs,SqL K H a xs∧RGs K G xs ds := fun G H w => by
    cases (o.mono w).ob with
    | lst r s => exact ⟨_,SqL.of r,s⟩
  refine ⟨fun G H i w hi => ?_,fun G H i x H' d w y e => ?_,fun G H w => ?_⟩
  · obtain ⟨xs,s,r⟩ := at_ G H w
    have hl := Paired.length r
    exact ⟨xs,xs[i],s,List.getElem?_eq_getElem (by omega)⟩
  · obtain ⟨xs,s,r⟩ := at_ G H w
    obtain ⟨rfl,y⟩ := y
    obtain ⟨v,e1,rv⟩ := Paired.get r e
    have := y xs s
    rw [e1] at this; cases this
    exact ⟨G,Grow.refl w.ok,rv⟩
  · obtain ⟨xs,s,r⟩ := at_ G H w
    exact ⟨xs,s,Nat.le_of_eq (Paired.length r)⟩
theorem zlr (h : SB X g m e f) : SItC X g m tg e (fSeq zeO f) := by
  refine PI.imp (zkE h) fun σ H R ⟨r,G,si,q⟩ => ⟨r,G,si,zac (zad q) fun d q v G' H' w rv => ?_⟩
  obtain ⟨ds,e,q⟩ := zat q
  cases d with
  | lst ds' =>
    cases e
    rcases rv with rv | ⟨a,rfl,o⟩
    · obtain ⟨a,xs,rfl,s,rs⟩ := rv.lst w.ok
      exact .inl ⟨a,rfl,⟨xs,s⟩,q _ G' H' w (ziH rv).toC⟩
    · cases o.ob with
      | lst r s => exact .inl ⟨a,rfl,⟨_,SqL.of r⟩,q _ G' H' w (zjZ o)⟩
  | tup ds' =>
    cases e
    rcases rv with rv | ⟨a,rfl,o⟩
    · obtain ⟨a,xs,rfl,s,rs⟩ := rv.tup w.ok
      exact .inr ⟨a,rfl,⟨xs,s⟩,q _ G' H' w (zjX rv).toC⟩
    · cases o.ob
  | _ => cases e
noncomputable def rng1 : List D→Option (List D)
  | [.int j] => if -(2 ^ 62)≤j∧j < 2 ^ 62 then some (rngD 0 j.toNat) else none
  | _ => none
noncomputable def fRng (k : List D→Option (List D)) (fl : Rho→Res (List D)) : FI := fun r => (fl r).bind fun ds => opt (k ds)
theorem ze7 {pn : Pos} (hg : Gl X "range") (hm : X.mg "range" = none) (ha : SAB X g m [a] fl) (hs : starEach [a] X.env = [(false,eval a X.env)] := by rfl) : SIt X g m tg (.Call (.Name "range" pn) [a] [] pos) (fRng rng1 fl) := by
  refine PI.imp (zf2 hg hm ha hs) fun σ H R ⟨r,G,si,q⟩ => ⟨r,G,si,zac (zad q) fun ds q vs G' H' w rs => ?_⟩
  obtain ⟨zs,e,q⟩ := zat q
  unfold rng1 at e
  split at e
  · split at e
    · rename_i j hj
      cases e
      cases rs with
      | cons r1 t => cases t; exact ⟨j,by rw [r1.int w.ok],hj.1,hj.2,q _ G' H' w zjY⟩
    · cases e
  · cases e
noncomputable def forF (ft : FT) (body : FS) : List D→FS
  | [],r => .nx r
  | d::ds,r => match ft d r with
    | none => .stuck
    | some r1 => match body r1 with
      | .nx r' => forF ft body ds r'
      | .ct r' => forF ft body ds r'
      | .bk r' => .nx r'
      | o => o
noncomputable def zd4 (m : List Md) (fi : FI) (ft : FT) (body : FS) : FS := fun r => onE m r (fi r) fun ds => forF ft body ds r
theorem zl9 (hp : PassesOwn (model X.prog X.w) X.A X.env X.xe) (hc : X.calm = true) {ft : FT} {fi : FI} (hi : SIt X g m tg iter fi) (hg : SG X g m tg ft m) (hb : SSs X g ro m m sts s1 m)
    (hs : ∀ x,foldedSetIterable iter X.env x = pure x := by intro _; rfl) : SS X g ro mb m (.For tg iter sts [] pos) (zd4 m fi ft s1) m := by
  refine ⟨rfl,PS.imp (zio hp hc hi hg.2 hb.2 hs) fun D σ H ⟨r,G,si,q⟩ => ⟨r,G,si,zac (zbb si rfl q) fun ds q J G0 H0 w0 Y => ?_⟩⟩
  refine ⟨fun i n σ H => ∃ r G,SI X g m r G σ H∧Gle G0 G∧i≤ds.length∧n = ds.length - i∧oTo X g ro m mb G D (forF ft s1 (ds.drop i) r),⟨ds.length,r,G0,si.grow w0,Gle.refl G0,Nat.zero_le _,rfl,oTo.gle q w0.ge⟩,?_⟩
  rintro i n σ1 H1 ⟨r1,G1,si1,le1,hi,rfl,q1⟩
  by_cases hlt : i < ds.length
  · have hd : ds.drop i = ds[i]::ds.drop (i + 1) := List.drop_eq_getElem_cons hlt
    rw [hd] at q1
    unfold forF at q1
    refine .inr ⟨Y.go G1 H1 i le1 si1.gok hlt,fun σ' H' => ∃ r G,SI X g m r G σ' H'∧Gle G0 G∧oTo X g ro m mb G D (forF ft s1 (ds.drop (i + 1)) r),fun σ' H' ⟨r',G',si',le',q'⟩ => ⟨ds.length - (i + 1),by omega,r',G',si',le',hlt,rfl,q'⟩,fun x H' y => ?_⟩
    obtain ⟨G',w',rv⟩ := Y.yld G1 H1 i x H' ds[i] le1 si1.gok y (List.getElem?_eq_getElem hlt)
    have le' : Gle G0 G' := le1.trans w'.ge
    cases eft : ft ds[i] r1 with
    | none => simp only [eft] at q1; exact q1.elim
    | some r2 =>
      simp only [eft] at q1
      refine ⟨r1,G',ds[i],si1.grow w',rv,r2,eft,fun σ2 si2 => ⟨r2,G',si2,?_⟩⟩
      cases eb : s1 r2 with
      | nx r' => simp only [eb] at q1; exact fun σ3 G3 H3 le3 si3 => ⟨r',G3,si3,le'.trans le3,oTo.gle q1 (Gle.trans w'.ge le3)⟩
      | ct r' => simp only [eb] at q1; exact fun σ3 G3 H3 le3 si3 => ⟨r',G3,si3,le'.trans le3,oTo.gle q1 (Gle.trans w'.ge le3)⟩
      | bk r' => simp only [eb] at q1; exact fun σ3 G3 H3 le3 si3 => q1 σ3 G3 H3 (Gle.trans w'.ge le3) si3
      | rt d => simp only [eb] at q1; exact q1
      | exc x r' => simp only [eb] at q1; exact fun pins e s' σ3 G3 H3 le3 => q1 pins e s' σ3 G3 H3 (Gle.trans w'.ge le3)
      | stuck => simp only [eb] at q1; exact q1
  · have e : i = ds.length := by omega
    subst e
    rw [List.drop_length] at q1
    exact .inl ⟨Y.stop G1 H1 le1 si1.gok,q1 σ1 G1 H1 (Gle.refl _) si1⟩
end
noncomputable def noX : Res D→Res D
  | .ok d => .ok d
  | _ => .stuck
@[simp] theorem noX_ok (d : D) : noX (.ok d) = .ok d := rfl
inductive ArgsOk (K : PySem.W.Frag) (G : GH) (H : Hp) : List Md→List V→List D→Prop where
  | nil : ArgsOk K G H [] [] []
  | sh {v : V} {d : D} {ms : List Md} {vs : List V} {ds : List D} : RG K G v d→ArgsOk K G H ms vs ds→ArgsOk K G H (.sh::ms) (v::vs) (d::ds)
  | bw {v : V} {d : D} {ms : List Md} {vs : List V} {ds : List D} : RB K G H v d→ArgsOk K G H ms vs ds→ArgsOk K G H (.bw::ms) (v::vs) (d::ds)
section
variable {K : PySem.W.Frag} {G G' : GH} {H H' : Hp}
theorem ArgsOk.mono : ∀ {ms : List Md} {vs : List V} {ds : List D},ArgsOk K G H ms vs ds→Grow K G H G' H'→ArgsOk K G' H' ms vs ds
  | _,_,_,.nil,_ => .nil
  | _,_,_,.sh h t,w => .sh (h.mono w.ge) (t.mono w)
  | _,_,_,.bw h t,w => .bw (h.mono w) (t.mono w)
theorem ArgsOk.len {ms : List Md} {vs : List V} {ds : List D} (h : ArgsOk K G H ms vs ds) : vs.length = ms.length∧ds.length = ms.length := by
  induction h with
  | nil => exact ⟨rfl,rfl⟩
  | sh h t ih => exact ⟨congrArg (· + 1) ih.1,congrArg (· + 1) ih.2⟩
  | bw h t ih => exact ⟨congrArg (· + 1) ih.1,congrArg (· + 1) ih.2⟩
theorem ArgsOk.app {dvs : List V} {dds : List D} (hs : Paired Scl dvs dds) : ∀ {ms : List Md} {vs : List V} {ds : List D},ArgsOk K G H ms vs ds→ArgsOk K G H (ms++List.replicate dds.length .sh) (vs++dvs) (ds++dds)
  | _,_,_,.nil => by
    induction hs with
    | nil => exact .nil
    | cons h t ih => exact .sh (.scl h) ih
  | _,_,_,.sh h t => .sh h (t.app hs)
  | _,_,_,.bw h t => .bw h (t.app hs)
theorem ArgsOk.get : ∀ {ms : List Md} {vs : List V} {ds : List D} {i : Nat} {d : D},ArgsOk K G H ms vs ds→ds[i]? = some d→∃ v,vs[i]? = some v∧((ms[i]? = some .sh∧RG K G v d)∨(ms[i]? = some .bw∧RB K G H v d))
  | _,_,_,_,_,.nil,e => by simp at e
  | _,_,_,0,_,.sh h t,e => by simp at e; subst e; exact ⟨_,rfl,.inl ⟨rfl,h⟩⟩
  | _,_,_,0,_,.bw h t,e => by simp at e; subst e; exact ⟨_,rfl,.inr ⟨rfl,h⟩⟩
  | _,_,_,i + 1,d,.sh h t,e => by
    obtain ⟨v,h1,h2⟩ := t.get (i := i) (d := d) (by simpa using e)
    exact ⟨v,by simpa using h1,by simpa using h2⟩
  | _,_,_,i + 1,d,.bw h t,e => by
    obtain ⟨v,h1,h2⟩ := t.get (i := i) (d := d) (by simpa using e)
    exact ⟨v,by simpa using h1,by simpa using h2⟩
end
noncomputable def spM (K : PySem.W.Frag) (ro : Bool) (ms : List Md) (F : List D→Res D) : Sp := fun vs H Q _ => ∃ G ds,GOk K G H∧ArgsOk K G H ms vs ds∧fin (F ds) (fun d => ∀ v G' H',Grow K G H G' H'→RV ro K H G' H' v d→Q v H') fun _ => False
noncomputable def outR (ro : Bool) : Out→Res D
  | .nx _ => if ro = true then .stuck else .ok .non
  | .rt d => .ok d
  | .exc x _ => .exc x
  | _ => .stuck
noncomputable def zak (n : Nat) (ds : List D) : Rho := ds.map some++List.replicate (n - ds.length) none
noncomputable def zcd (n : Nat) (ms : List Md) : List Md := ms++List.replicate (n - ms.length) .sh
section
variable {P : Program} {w : World} {K : PySem.W.Frag} {mg : Str → Option Value} {base : Heap}
theorem zdC {X : Cx} {N : List Str} {ms : List Md} {vs : List V} {ds : List D} {G : GH} {H : Hp} (gk : GOk X.K G H) (rs : ArgsOk X.K G H ms vs ds) (hn : ms.length≤N.length) : SI X ⟨G,H,fun _ => none⟩ (zcd N.length ms) (zak N.length ds) G (L2.start N vs) H := by
  obtain ⟨l1,l2⟩ := rs.len
  have e1 : (L2.start N vs).length = N.length := by unfold L2.start; rw [List.length_append,List.length_map,List.length_replicate]; omega
  have e2 : (zak N.length ds).length = N.length := by unfold zak; rw [List.length_append,List.length_map,List.length_replicate]; omega
  have e3 : (zcd N.length ms).length = N.length := by unfold zcd; rw [List.length_append,List.length_replicate]; omega
  have at_ : ∀ (i : Nat) d,(zak N.length ds)[i]? = some (some d)→i < ms.length∧(zcd N.length ms)[i]? = ms[i]?∧∃ v,(L2.start N vs)[i]? = some (some v)∧((ms[i]? = some .sh∧RG X.K G v d)∨(ms[i]? = some .bw∧RB X.K G H v d)) := fun i d h => by
    unfold zak at h
    by_cases hi : i < ds.length
    · rw [List.getElem?_append_left (by simpa using hi),List.getElem?_map] at h
      have hd : ds[i]? = some d := by
        cases z : ds[i]? with
        | none => rw [z] at h; cases h
        | some d' => rw [z] at h; cases h; rfl
      obtain ⟨v,hv,rv⟩ := rs.get hd
      refine ⟨by omega,?_,v,?_,rv⟩
      · unfold zcd
        rw [List.getElem?_append_left (by omega)]
      · unfold L2.start
        rw [List.getElem?_append_left (by rw [List.length_map]; omega),List.getElem?_map,hv]
        rfl
    · rw [List.getElem?_append_right (by simpa using hi),List.getElem?_replicate] at h
      split at h <;> cases h
  refine ⟨gk,fun _ _ e => e,fun _ _ e => e,fun _ _ => rfl,by rw [e3,e1],by rw [e1,e2],fun i d h hm => ?_,fun i d h hm => ?_,fun i d h hm => ?_,fun i j a d e _ h _ hm => ?_,fun i o h => nomatch h⟩
  · obtain ⟨_,hq,v,h1,h2⟩ := at_ i d h
    rw [hq] at hm
    rcases h2 with ⟨_,h2⟩ | ⟨h3,h2⟩
    · exact ⟨v,h1,h2⟩
    · rw [hm] at h3; cases h3
  · obtain ⟨_,hq,v,h1,h2⟩ := at_ i d h
    rw [hq] at hm
    rcases h2 with ⟨h3,h2⟩ | ⟨h3,h2⟩ <;> rw [hm] at h3 <;> cases h3
  · obtain ⟨_,hq,v,h1,h2⟩ := at_ i d h
    rw [hq] at hm
    rcases h2 with ⟨h3,h2⟩ | ⟨h3,h2⟩
    · rw [hm] at h3; cases h3
    · refine ⟨v,h1,?_⟩
      rcases h2 with h2 | ⟨a,rfl,h2⟩
      · exact .inl h2
      · exact .inr ⟨a,rfl,h2,h2.ob.isS⟩
  · obtain ⟨_,hq,v,h1,h2⟩ := at_ i d h
    rw [hq] at hm
    rcases h2 with ⟨h3,h2⟩ | ⟨h3,h2⟩ <;> rw [hm] at h3 <;> cases h3
theorem zfj {X : Cx} {ro : Bool} {fs : FS} {m' : List Md} {G : GH} {H : Hp} {r : Rho} {Q : VK} (q : fin (outR ro (fs r)) (fun d => ∀ v G' H',Grow X.K G H G' H'→RV ro X.K H G' H' v d→Q v H') fun _ => False) :
    oTo X ⟨G,H,fun _ => none⟩ ro m' [] G { nx := fun _ H' => Q .non H',rt := Q } (fs r) := by
  cases e : fs r with
  | nx r' =>
    rw [e] at q
    cases ro with
    | false => exact fun σ' G' H' _ si => q .non G' H' si.grown (.scl .non)
    | true => exact q.elim
  | rt d => rw [e] at q; exact fun v G' H' wg rv => q v G' H' wg rv
  | bk r' => rw [e] at q; exact q.elim
  | ct r' => rw [e] at q; exact q.elim
  | exc x r' => rw [e] at q; exact q.elim
  | stuck => rw [e] at q; exact q
theorem ziD {x qual : Str} {st : Stmt} {f : Addr} {fd : FuncData} {N ps : List Str} {k : Nat} {ro : Bool} {ms : List Md} {fs : FS} {m' : List Md} (F : Fun K x qual st f fd) (S : FnScope N ps (defScope st)) (hms : ms.length = ps.length)
    (hbody : ∀ (cdv : Value) (A : Around) (outer : List Env) (s : Shared) (H : Hp) (g : GE) (E : XK),Room k (A.deeper (envOfC qual (defScope st) s.heap.objs.size f cdv)) →
      SSs (cxOf CX0 P w K mg base N qual (defScope st) f cdv A outer s H E).nox g ro [] (zcd N.length ms) (defBody st) fs m') :
    FnOk P w K mg base CX0 (k + 1) f fd ps (spM K ro ms fun ds => outR ro (fs (zak N.length ds))) := by
  refine F.ok S (fun vs H Q E ⟨G,ds,gk,rs,q⟩ => rs.len.1.trans hms) fun cdv A outer s H vs Q E hr h => ?_
  obtain ⟨G,ds,gk,rs,q⟩ := h
  have hpl : ps.length≤N.length := by have := congrArg List.length S.pre; rw [List.length_take] at this; omega
  exact ⟨_,(hbody cdv A outer s H ⟨G,H,fun _ => none⟩ E hr).2,zak N.length ds,G,zdC gk rs (by omega),zfj q⟩
end
section
variable {X : Cx} {g : GE} {m : List Md} {e : Expr} {f : FE} {es : List Expr} {fl : Rho → Res (List D)} {k : Nat} {fa : Addr} {fd : FuncData} {ps : List Str} {F : List D → Res D} {dvs : List V} {ds : List Value} {dds : List D} {x : Str} {p pos : Pos} {ms : List Md}
noncomputable def tLM (X : Cx) (g : GE) (m : List Md) (ms : List Md) (f : Rho→Res (List D)) : TA := fun σ H Q => ∃ r G,SI X g m r G σ H∧fin (f r) (fun ds => ∀ vs G' H',Grow X.K G H G' H'→ArgsOk X.K G' H' ms vs ds→Q vs H') (XW X σ G H)
noncomputable def SAM (X : Cx) (g : GE) (m : List Md) (es : List Expr) (ms : List Md) (f : Rho→Res (List D)) : Prop := PA X es (tLM X g m ms f)
theorem zba : SAM X g m [] [] lNil := PA.imp zb3 fun σ H Q ⟨r,G,si,k⟩ => k [] G H (Grow.refl si.gok) .nil
theorem m_sh (ha : SE X g m e f) (hr : SAM X g m es ms fl) (hs : starEach (e::es) X.env = (false,eval e X.env)::starEach es X.env := by rfl) : SAM X g m (e::es) (.sh::ms) (zab f fl) := by
  refine PA.imp (zaO ha hr hs) fun σ H Q ⟨r,G,si,k⟩ => ⟨r,G,si,zac (zad k) fun d k1 v G1 H1 w1 r1 => ⟨r,G1,si.grow w1,?_⟩⟩
  exact zaW (zad k1) w1 fun ds z vs G2 H2 w2 r2 => z (v::vs) G2 H2 (w1.trans w2) (.sh (r1.mono w2.ge) r2)
theorem m_bw (ha : SB X g m e f) (hr : SAM X g m es ms fl) (hs : starEach (e::es) X.env = (false,eval e X.env)::starEach es X.env := by rfl) : SAM X g m (e::es) (.bw::ms) (zab f fl) := by
  refine PA.imp (zaO ha hr hs) fun σ H Q ⟨r,G,si,k⟩ => ⟨r,G,si,zac (zad k) fun d k1 v G1 H1 w1 r1 => ⟨r,G1,si.grow w1,?_⟩⟩
  exact zaW (zad k1) w1 fun ds z vs G2 H2 w2 r2 => z (v::vs) G2 H2 (w1.trans w2) (.bw (r1.mono w2) r2)
noncomputable def zaz (fl : Rho→Res (List D)) (dds : List D) (F : List D→Res D) : FE := fun r => (fl r).bind fun ds => noX (F (ds++dds))
theorem zeg {ro : Bool} {vs : List V} {zs : List D} {G : GH} {H : Hp} {Q : VK} (gk : GOk X.K G H) (rs : ArgsOk X.K G H ms vs zs) (hsc : Paired Scl dvs dds) (q : fin (noX (F (zs++dds))) (fun d => ∀ v G' H',Grow X.K G H G' H'→RV ro X.K H G' H' v d→Q v H') fun _ => False) :
    spM X.K ro (ms++List.replicate dds.length .sh) F (vs++dvs) H Q E0 := by
  refine ⟨G,zs++dds,gk,rs.app hsc,?_⟩
  cases e : F (zs++dds) with
  | ok d => rw [e] at q; exact q
  | exc x => rw [e] at q; exact q.elim
  | stuck => rw [e] at q; exact q.elim
theorem zea {α : Type} {r : Res α} {q : α→Prop} {x : D→Prop} (h : fin r q x) (hr : ∀ e,r≠.exc e) : fin r q fun _ => False := by
  cases r with
  | ok a => exact h
  | exc e => exact absurd rfl (hr e)
  | stuck => exact h
theorem ziv (r : Res D) (e : D) : noX r≠.exc e := by cases r <;> simp [noX]
theorem zkn (G1 : FnOk X.prog X.w X.K X.mg X.base CX0 k fa fd ps (spM X.K false (ms++List.replicate dds.length .sh) F)) (hr : Room k X.A) (hg : Gl X x) (hm : X.mg x = some (.ref fa)) (hk : PySem.W.keepIn X.K (.ref fa) = true) (hb : zcr X.K fd ps ds) (hd : Vals dvs ds) (hsc : Paired Scl dvs dds)
    (ha : SAM X g m (e::es) ms fl) (hdb : (x == ("__debug__" : Str)) = false := by decide) (he : starEach (e::es) X.env = (false,eval e X.env)::starEach es X.env := by rfl) (hpl : (backTo pos (starEach es X.env)).any (·.1) = false := by rfl) :
    SE X g m (.Call (.Name x p) (e::es) [] pos) (zaz fl dds F) := by
  refine PE.imp (zf3 G1 hr hg hm hk hb hd zkS ha hdb he hpl) fun σ H Q ⟨r,G,si,q⟩ => ⟨r,G,si,?_⟩
  cases ez : fl r with
  | ok zs =>
    unfold zaz at q
    rw [ez] at q
    intro vs G' H' w' rs
    exact zeg w'.ok rs hsc (zac (zea q (ziv _)) fun d k v G2 H2 w2 rv => k v G2 H2 (w'.trans w2) rv)
  | exc x => unfold zaz at q; rw [ez] at q; exact q
  | stuck => unfold zaz at q; rw [ez] at q; exact q
theorem ziV (G1 : FnOk X.prog X.w X.K X.mg X.base CX0 k fa fd ps (spM X.K true (ms++List.replicate dds.length .sh) F)) (hr : Room k X.A) (hg : Gl X x) (hm : X.mg x = some (.ref fa)) (hk : PySem.W.keepIn X.K (.ref fa) = true) (hb : zcr X.K fd ps ds) (hd : Vals dvs ds) (hsc : Paired Scl dvs dds)
    (ha : SAM X g m (e::es) ms fl) (hdb : (x == ("__debug__" : Str)) = false := by decide) (he : starEach (e::es) X.env = (false,eval e X.env)::starEach es X.env := by rfl) (hpl : (backTo pos (starEach es X.env)).any (·.1) = false := by rfl) :
    SE X g m (.Call (.Name x p) (e::es) [] pos) (zaz fl dds F) := by
  intro pins s σ H Q I ⟨r,G,si,q⟩
  refine thn (zf3 G1 hr hg hm hk hb hd zkS ha hdb he hpl pins s σ H (fun v H' => Q v H'∨∃ a,∀ ob,Q v (fz H' a ob)) I ⟨r,G,si,?_⟩) fun u s' ⟨v,H',I',rv,z⟩ => ?_
  · cases ez : fl r with
    | ok zs =>
      unfold zaz at q
      rw [ez] at q
      intro vs G' H' w' rs
      refine zeg w'.ok rs hsc (zac (zea q (ziv _)) fun d k v G2 H2 w2 rv => ?_)
      rcases RV.toF w2 rv with ⟨G3,w3,r3⟩ | ⟨a,z⟩
      · exact .inl (k v G3 H2 (w'.trans w3) r3)
      · refine .inr ⟨a,fun ob => ?_⟩
        obtain ⟨G3,w3,r3⟩ := z ob
        exact k v G3 _ (w'.trans w3) r3
    | exc x => unfold zaz at q; rw [ez] at q; exact q
    | stuck => unfold zaz at q; rw [ez] at q; exact q
  · rcases z with z | ⟨a,z⟩
    · exact ⟨v,H',I',rv,z⟩
    · obtain ⟨ob,I2⟩ := Inv.fast I' a
      exact ⟨v,_,I2,rv,z ob⟩
noncomputable def ownF (f : FE) : FE := fun r => (f r).bind fun d => match d with
  | .non => .stuck
  | d => .ok d
end
end DL
end
section
namespace DL
open PySem PySem.Spec PyProof.Rows L2
theorem zhV {env : Env} : ∀ (l : List (Str × NameKind)) (cs : List (Str × Addr)),(∀ x∈l,x.2 = .free→∃ c,env.cells.lookup x.1 = some c)→(∀ x c,cs.lookup x = some c→env.cells.lookup x = some c) →
    ∃ cl,(forIn l cs (fun (x : Str × NameKind) (cs : List (Str × Addr)) => if (x.2 == NameKind.free) = true then (do let a ← cellOf env x.1; pure (ForInStep.yield ((x.1,a)::cs))) else pure (ForInStep.yield cs)) : Sem (List (Str × Addr))) = pure cl ∧
      (∀ x c,cl.lookup x = some c→env.cells.lookup x = some c)∧(∀ x,(x,NameKind.free)∈l→∃ c,cl.lookup x = some c)∧(∀ x c,cs.lookup x = some c→∃ c',cl.lookup x = some c') := by
  intro l
  induction l with
  | nil => intro cs _ h; exact ⟨cs,rfl,h,fun x hx => (by cases hx),fun x c h => ⟨c,h⟩⟩
  | cons y l ih =>
    intro cs hf hc
    obtain ⟨n,k⟩ := y
    by_cases hk : k = .free
    · subst hk
      obtain ⟨c,ec⟩ := hf (n,.free) List.mem_cons_self rfl
      have e1 : cellOf env n = pure c := by unfold cellOf; rw [ec]
      have hc' : ∀ x c',((n,c)::cs).lookup x = some c'→env.cells.lookup x = some c' := fun x c' h => by
        rw [List.lookup_cons] at h
        cases q : x == n with
        | true => rw [q] at h; cases h; rw [eq_of_beq q]; exact ec
        | false => rw [q] at h; exact hc x c' h
      obtain ⟨cl,e2,h1,h2,h3⟩ := ih ((n,c)::cs) (fun x hx => hf x (List.mem_cons_of_mem _ hx)) hc'
      refine ⟨cl,?_,h1,fun x hx => ?_,fun x c' h => ?_⟩
      · rw [← e2]
        rw [List.forIn_cons]
        show (cellOf env n >>= fun a => pure (ForInStep.yield ((n,a)::cs))) >>= _ = _
        rw [e1]
        rfl
      · rcases List.mem_cons.mp hx with z | z
        · cases z; exact h3 n c (by rw [List.lookup_cons]; simp)
        · exact h2 x z
      · cases q : x == n with
        | true => exact h3 x c (by rw [List.lookup_cons,q])
        | false => exact h3 x c' (by rw [List.lookup_cons,q]; exact h)
    · obtain ⟨cl,e2,h1,h2,h3⟩ := ih cs (fun x hx => hf x (List.mem_cons_of_mem _ hx)) hc
      have hb : (k == NameKind.free) = false := by simpa using hk
      refine ⟨cl,?_,h1,fun x hx => ?_,h3⟩
      · rw [← e2,List.forIn_cons]
        simp only [hb,Bool.false_eq_true,if_false]
        rfl
      · rcases List.mem_cons.mp hx with z | z
        · cases z; exact absurd rfl hk
        · exact h2 x z
theorem zfF {scope : Scope} {env : Env} (hf : ∀ x∈scope.names,x.2 = .free→∃ c,env.cells.lookup x.1 = some c) :
    ∃ cl,closureFor scope env = pure cl∧(∀ x c,cl.lookup x = some c→env.cells.lookup x = some c)∧(∀ x,(x,NameKind.free)∈scope.names→∃ c,cl.lookup x = some c) := by
  obtain ⟨cl,e,h1,h2,_⟩ := zhV scope.names [] hf (fun x c h => by cases h)
  refine ⟨cl,?_,h1,h2⟩
  have e0 : closureFor scope env = ((forIn scope.names ([] : List (Str × Addr)) (fun (x : Str × NameKind) (cs : List (Str × Addr)) => if (x.2 == NameKind.free) = true then (do let a ← cellOf env x.1; pure (ForInStep.yield ((x.1,a)::cs))) else pure (ForInStep.yield cs)) : Sem (List (Str × Addr))) >>= fun cs => pure cs) := rfl
  rw [e0,e]
  rfl
theorem zb4 {f : Str→NameKind→NameKind} : ∀ (l : List (Str × NameKind)) (x : Str),(l.map fun y => (y.1,f y.1 y.2)).lookup x = (l.lookup x).map (f x)
  | [],x => rfl
  | (n,k)::l,x => by
    rw [List.map_cons,List.lookup_cons,List.lookup_cons]
    cases q : x == n with
    | true => simp [eq_of_beq q]
    | false => exact zb4 l x
noncomputable def relK (env : Env) (n : Str) (k : NameKind) : NameKind := if (k == .free && env.scope.kind == .function && env.kindOf n == some .cell) = true then .cell else k
theorem zb1 (scope : Scope) (env : Env) (x : Str) : (relabel scope env).names.lookup x = (scope.names.lookup x).map (relK env x) := by
  rw [← zb4]
  unfold relabel
  congr 1
  apply List.map_congr_left
  intro y _
  obtain ⟨n,k⟩ := y
  show (if (k == NameKind.free && env.scope.kind == .function && env.kindOf n == some .cell) = true then (n,NameKind.cell) else (n,k)) = (n,relK env n k)
  unfold relK
  split <;> rfl
structure CompSc (X : Cx) (scope : Scope) (N' : List Str) (nl : Nat) (cap : List Nat) : Prop where
  kind : scope.kind = .function
  nocell : ∀ y∈scope.names,y.2≠.cell
  names : ∀ y∈scope.names,y.2 = .local→scope.names.lookup y.1 = some .local
  freeK : ∀ y∈scope.names,y.2 = .free→X.env.kindOf y.1 = some .cell∨X.env.kindOf y.1 = some .free
  len : N'.length = nl + cap.length
  capN : ∀ j,j < cap.length→∃ x,N'[nl + j]? = some x∧X.N[cap.getD j 0]? = some x∧scope.names.lookup x = some .free
noncomputable def cxC (X : Cx) (s₀ : Shared) (H₀ : Hp) (N' : List Str) (scope : Scope) (cl : List (Str × Addr)) (C : Addr) (fp : List Addr) : Cx where
  prog := X.prog
  w := X.w
  K := X.K
  mg := X.mg
  base := X.base
  A := X.A
  N := N'
  s₀ := s₀
  H₀ := H₀
  env := compEnvC scope cl C X.env
  outer := X.stack
  stack := X.stack
  ex := fp
  fn := fun _ => false
  calm := X.calm
  pn := []
  xe := fun _ _ => False
section
variable {X : Cx} {pins : List (Addr × Obj)} {σ : L2.St} {H : Hp} {s : Shared} {scope : Scope} {N' : List Str} {nl : Nat} {cap : List Nat} {cl : List (Str × Addr)} {C : Addr} {fp : List Addr}
theorem zlM (I : Inv X pins σ H s) (sc : CompSc X scope N' nl cap) (h1 : ∀ x c,cl.lookup x = some c→X.env.cells.lookup x = some c) (h2 : ∀ x,(x,NameKind.free)∈scope.names→∃ c,cl.lookup x = some c)
    (hf : ∀ b∈fp,FpOk X pins H b∧b < s.heap.objs.size) (hC : s.heap.objs.size≤C) : (cxC X s H N' scope cl C fp).Ok where
  mod := I.ok.mod
  kind := sc.kind
  glob := I.ok.glob
  blt := I.ok.blt
  above := hC
  inj := fun x y c a b => I.ok.inj x y c (h1 x c a) (h1 y c b)
  has := fun x hk => by
    have hk' : (scope.names.lookup x).map (relK X.env x) = some .cell∨(scope.names.lookup x).map (relK X.env x) = some .free := by
      rw [← zb1]; exact hk
    cases e : scope.names.lookup x with
    | none => rw [e] at hk'; rcases hk' with z | z <;> cases z
    | some k =>
      have hm := PySem.mem_of_lookup e
      have kf : k = .free := by
        rw [e] at hk'
        have hk2 : relK X.env x k = .cell∨relK X.env x k = .free := by
          rcases hk' with z | z
          · exact .inl (Option.some.inj z)
          · exact .inr (Option.some.inj z)
        unfold relK at hk2
        split at hk2
        · rename_i hc
          simp only [Bool.and_eq_true,beq_iff_eq] at hc
          exact hc.1.1
        · rcases hk2 with z | z
          · exact absurd z (sc.nocell _ hm)
          · exact z
      subst kf
      exact h2 x hm
  cab := fun x c h => by cases h
  hd := I.ok.hd
  frames := I.ok.frames
  stk := .inl rfl
  exf := fun b hb => ⟨Nat.ne_of_lt (Nat.lt_of_lt_of_le (hf b hb).2 hC),fun x c e => (hf b hb).1.2.2.2.2.1 x c (h1 x c e)⟩
  bs := I.bs
  bsz := Nat.le_trans I.ok.bsz I.sz
  noex := fun b o e hb => by
    obtain ⟨_,_,_,hx,_⟩ := (hf b hb).1
    rcases hx with z | z
    · exact I.ok.noex b o e z
    · exact absurd (Nat.lt_of_lt_of_le (Heap.lt_size e) (Nat.le_trans I.ok.bsz z)) (Nat.lt_irrefl _)
  exfs := fun b hb hfs => by
    obtain ⟨_,q1,q2,_⟩ := (hf b hb).1
    rcases List.mem_cons.mp (I.stkSub b hfs) with z | z
    · exact q1 z
    · exact q2 z
  funs := I.stack
  frf := I.stkFree
end
noncomputable def zcp (ft : FT) (q : FQ) (fe : FE) (r0 : Rho) : List D→Res (List D)
  | [] => .ok []
  | d::ds => (opt (ft d r0)).bind fun r1 => (q r1).bind fun c => if c = true then (fe r1).bind fun v => (zcp ft q fe r0 ds).bind fun vs => .ok (v::vs) else zcp ft q fe r0 ds
noncomputable def capR (nl : Nat) (cap : List Nat) (r : Rho) : Rho := List.replicate nl none++cap.map fun i => r.getD i none
noncomputable def capM (nl : Nat) (cap : List Nat) (m : List Md) : List Md := List.replicate nl Md.sh++cap.map fun i => if m.getD i Md.sh = Md.sh then Md.sh else Md.bw
noncomputable def capS (nl : Nat) (cap : List Nat) (st : L2.St) : L2.St := List.replicate nl none++cap.map fun i => st.getD i none
theorem zdf {α : Type} {nl : Nat} {cap : List Nat} {u : α} {h : Nat→α} {i : Nat} (hi : nl≤i) : (List.replicate nl u++cap.map h)[i]? = (cap[i - nl]?).map h := by
  rw [List.getElem?_append_right (by simpa using hi),List.length_replicate,List.getElem?_map]
section
variable {X : Cx} {pins : List (Addr × Obj)} {σ : L2.St} {H H' : Hp} {s : Shared} {scope : Scope} {N' : List Str} {nl : Nat} {cap : List Nat} {cl : List (Str × Addr)} {C : Addr} {fp : List Addr} {g : GE} {G G' : GH} {m : List Md} {r : Rho}
theorem zmF (si : SI X g m r G σ H) (w : Grow X.K G H G' H') : SI (cxC X s H N' scope cl C fp) ⟨G,H,fun _ => none⟩ (capM nl cap m) (capR nl cap r) G' (capS nl cap σ) H' := by
  have lens : (capM nl cap m).length = nl + cap.length := by simp [capM]
  have lens2 : (capR nl cap r).length = nl + cap.length := by simp [capR]
  have lens3 : (capS nl cap σ).length = nl + cap.length := by simp [capS]
  have rget : ∀ (i : Nat) d,(capR nl cap r)[i]? = some (some d)→nl≤i∧∃ j,cap[i - nl]? = some j∧r[j]? = some (some d) := fun i d h => by
    by_cases hi : i < nl
    · unfold capR at h
      rw [List.getElem?_append_left (by simpa using hi),List.getElem?_replicate] at h
      split at h <;> cases h
    · refine ⟨by omega,?_⟩
      unfold capR at h
      rw [zdf (by omega)] at h
      cases e : cap[i - nl]? with
      | none => rw [e] at h; cases h
      | some j =>
        rw [e] at h
        refine ⟨j,rfl,?_⟩
        have h' : r.getD j none = some d := Option.some.inj h
        rw [List.getD_eq_getElem?_getD] at h'
        cases e2 : r[j]? with
        | none => rw [e2] at h'; cases h'
        | some o => rw [e2] at h'; rw [show o = some d from h']
  have mget : ∀ (i j : Nat) md,nl≤i→cap[i - nl]? = some j→(capM nl cap m)[i]? = some md→md = if m.getD j Md.sh = Md.sh then Md.sh else Md.bw := fun i j md hi hj h => by
    unfold capM at h
    rw [zdf hi,hj] at h
    exact (Option.some.inj h).symm
  have sget : ∀ (i j : Nat) v,nl≤i→cap[i - nl]? = some j→σ[j]? = some (some v)→(capS nl cap σ)[i]? = some (some v) := fun i j v hi hj h => by
    unfold capS
    rw [zdf hi,hj]
    show some (σ.getD j none) = _
    rw [List.getD_eq_getElem?_getD,h]
    rfl
  have mj : ∀ (j : Nat) d,r[j]? = some (some d)→m[j]? = some (m.getD j Md.sh) := fun j d h => by
    have hl : j < m.length := by
      have := (List.getElem?_eq_some_iff.mp h).1
      rw [si.lr,← si.lm] at this; exact this
    rw [List.getD_eq_getElem?_getD,List.getElem?_eq_getElem hl]
    rfl
  refine ⟨w.ok,w.he,w.ge,w.gf,by rw [lens,lens3],by rw [lens2,lens3],fun i d h hm => ?_,fun i d h hm => ?_,fun i d h hm => ?_,fun i j a d e _ h _ hm => ?_,fun i o h => nomatch h⟩
  · obtain ⟨hi,j,hj,hr⟩ := rget i d h
    have e := mget i j _ hi hj hm
    have hsh : m.getD j Md.sh = Md.sh := by
      by_cases z : m.getD j Md.sh = Md.sh
      · exact z
      · rw [if_neg z] at e; cases e
    obtain ⟨v,h1,h2⟩ := si.sh j d hr (by rw [mj j d hr,hsh])
    exact ⟨v,sget i j v hi hj h1,h2.mono w.ge⟩
  · obtain ⟨hi,j,hj,hr⟩ := rget i d h
    have e := mget i j _ hi hj hm
    split at e <;> cases e
  · obtain ⟨hi,j,hj,hr⟩ := rget i d h
    have e := mget i j _ hi hj hm
    have hsh : m.getD j Md.sh≠Md.sh := by
      intro z
      rw [if_pos z] at e; cases e
    have hmj := mj j d hr
    cases q : m.getD j Md.sh with
    | sh => exact absurd q hsh
    | ow =>
      rw [q] at hmj
      obtain ⟨a,h1,h2,_⟩ := si.ow j d hr hmj
      exact ⟨_,sget i j _ hi hj h1,.inr ⟨a,rfl,h2.mono w,h2.ob.isS⟩⟩
    | bw =>
      rw [q] at hmj
      obtain ⟨v,h1,h2⟩ := si.bw j d hr hmj
      refine ⟨v,sget i j _ hi hj h1,?_⟩
      rcases h2 with h2 | ⟨a,rfl,h2,_⟩
      · exact .inl (h2.mono w.ge)
      · exact .inr ⟨a,rfl,h2.mono w,h2.ob.isS⟩
  · obtain ⟨hi,j',hj,hr⟩ := rget i d h
    have e := mget i j' _ hi hj hm
    split at e <;> cases e
theorem zlN (I : Inv X pins σ H s) (ok : (cxC X s H N' scope cl C fp).Ok) (sc : CompSc X scope N' nl cap) (h1 : ∀ x c,cl.lookup x = some c→X.env.cells.lookup x = some c) (h2 : ∀ x,(x,NameKind.free)∈scope.names→∃ c,cl.lookup x = some c)
    (hN : X.N.Nodup) {s4 : Shared} {H4 : Hp} {mc : Str→Option Value} (hos : s4.os = s.os) (hb : AllBare s4.gens) (kp : ∀ b o,s.heap.get? b = some o→s4.heap.get? b = some o) (hns : s4.heap.Ns C mc) (hC : s.heap.objs.size≤C) (hHC : H4 C = none)
    (hH : ∀ b,H b = none→b < s.heap.objs.size→H4 b = none) (un : Un (frs X.stack) fp H H4 s.heap s4.heap) (hok : HOk X.prog X.w H4 s4.heap) : Inv (cxC X s H N' scope cl C fp) [] (capS nl cap σ) H4 s4 := by
  refine ⟨ok,hos,hb,un,⟨mc,hns,fun i x v e1 e2 e3 => ?_⟩,fun x c e => ?_,hHC,fun x c e => ?_,fun p hp => absurd (show p∈([] : List (Addr × Obj)) from hp) (by simp),hok,?_⟩
  · have hi : nl≤i := by
      by_cases z : i < nl
      · unfold capS at e2
        rw [List.getElem?_append_left (by simpa using z),List.getElem?_replicate] at e2
        split at e2 <;> cases e2
      · omega
    unfold capS at e2
    rw [zdf hi] at e2
    cases ej : cap[i - nl]? with
    | none => rw [ej] at e2; cases e2
    | some j =>
      rw [ej] at e2
      have hj : i - nl < cap.length := (List.getElem?_eq_some_iff.mp ej).1
      obtain ⟨x',q1,q2,q3⟩ := sc.capN (i - nl) hj
      have ed : cap.getD (i - nl) 0 = j := by rw [List.getD_eq_getElem?_getD,ej]; rfl
      rw [ed] at q2
      have ei : nl + (i - nl) = i := by omega
      rw [ei] at q1
      have e1' : N'[i]? = some x := e1
      rw [q1] at e1'
      have ex : x' = x := Option.some.inj e1'
      subst ex
      have hv : σ[j]? = some (some v) := by
        have z : σ.getD j none = some v := Option.some.inj e2
        rw [List.getD_eq_getElem?_getD] at z
        cases q : σ[j]? with
        | none => rw [q] at z; cases z
        | some o => rw [q] at z; rw [show o = some v from z]
      have hfree := PySem.mem_of_lookup q3
      have kX := sc.freeK _ hfree rfl
      obtain ⟨mx,hnx,hl⟩ := I.loc
      obtain ⟨u,ru,lk⟩ := hl j x' v q2 hv (.inr kX)
      refine ⟨u,ru,.inr ?_⟩
      obtain ⟨c,ec⟩ := h2 x' hfree
      have hkk : Env.kindOf (cxC X s H N' scope cl C fp).env x' = some .cell∨Env.kindOf (cxC X s H N' scope cl C fp).env x' = some .free := by
        have z : (relabel scope X.env).names.lookup x' = some (relK X.env x' .free) := by rw [zb1,q3]; rfl
        show (relabel scope X.env).names.lookup x' = _∨(relabel scope X.env).names.lookup x' = _
        rw [z]
        unfold relK
        split
        · exact .inl rfl
        · exact .inr rfl
      refine ⟨hkk,c,ec,?_⟩
      rcases lk with ⟨k,_⟩ | ⟨_,c',ec',hcell⟩
      · rcases kX with z | z <;> rw [k] at z <;> cases z
      · rw [h1 x' c ec] at ec'
        cases ec'
        obtain ⟨o,ho,hd⟩ := hcell
        exact ⟨o,kp c o ho,hd⟩
  · obtain ⟨v,o,ho,hd⟩ := I.cell x c (h1 x c e)
    exact ⟨v,o,kp c o ho,hd⟩
  · obtain ⟨v,o,ho,hd⟩ := I.cell x c (h1 x c e)
    exact hH c (I.freeC x c (h1 x c e)) (Heap.lt_size ho)
  · show (capS nl cap σ).length = N'.length
    rw [sc.len]
    simp [capS]
end
end DL
end
section
namespace DL
open PySem PySem.Spec PyProof.Rows L2
section
variable {prog : Program} {w : World} {A : Around} {R : Result → Shared → Prop} {s : Shared}
theorem zjI {elt target iter : Expr} {ifs : List Expr} {scope : Scope} {pos : Pos} {it acc : Value} {env : Env} (I : Nat→Shared→Prop)
    (turn : ∀ n s,I n s→wpAny (model prog w) A (pyNext it) (fun r s1 => match r with
      | none => R (.ok .next) s1
      | some v => wpAny (model prog w) A (letOwnedTupleGo target it v) (fun _ s1' => wpAny (model prog w) A (assign target env v) (fun _ s2 =>
          wpAny (model prog w) A (forIn ifs true fun c r => if r = true then do let ok ← isTrue c env (eval c env); pure (ForInStep.yield ok) else pure (ForInStep.yield r)) (fun ok s3 =>
            if ok = true then wpAny (model prog w) A (eval elt env) (fun x s4 =>
              wpAny (model prog w) A (call (.builtin "list.append") [acc,x]) (fun _ s5 => ∃ m,m < n∧I m s5) (notedBy (model prog w) A env fun e s' => R (.error e) s') s4) (notedBy (model prog w) A env fun e s' => R (.error e) s') s3
            else ∃ m,m < n∧I m s3) (notedBy (model prog w) A env fun e s' => R (.error e) s') s2) (notedBy (model prog w) A env fun e s' => R (.error e) s') s1')
          (notedBy (model prog w) A env fun e s' => R (.error e) s') s1) (notedBy (model prog w) A env fun e s' => R (.error e) s') s)
    (n : Nat) (h : I n s) : codeAny (model prog w) A (.compLoop (.ListComp elt [⟨target,iter,ifs,0⟩] scope pos) 0 it acc env) R s := by
  refine codeAny_loop rfl I (fun n s hI => ?_) n h
  show wpAny _ A ((compTurn (.ListComp elt [⟨target,iter,ifs,0⟩] scope pos) 0 it acc env).onRaise (fun x => do noteFrame x env; theTreesLotGoes x)) _ _ s
  refine wpAny_noted ?_
  rw [compTurn_list]
  refine wpAny_bind (wpAny_standAt (wpAny_bind (wpAny_mono (turn n s hI) (fun r s1 h1 => ?_) fun _ _ h' => h')))
  cases r with
  | none => exact wpAny_pure h1
  | some v =>
    refine wpAny_bind (wpAny_mono h1 (fun _ s1' h1' => ?_) fun _ _ h' => h')
    refine wpAny_bind (wpAny_mono h1' (fun _ s2 h2 => wpAny_bind (wpAny_mono h2 (fun ok s3 h3 => ?_) fun _ _ h' => h')) fun _ _ h' => h')
    cases ok with
    | false => exact wpAny_pure ⟨rfl,h3⟩
    | true =>
      exact wpAny_bind (wpAny_bind (wpAny_mono h3 (fun x s4 h4 => wpAny_bind (wpAny_mono h4 (fun _ s5 h5 => wpAny_pure (wpAny_pure ⟨rfl,h5⟩)) fun _ _ h' => h')) fun _ _ h' => h'))
end
noncomputable def SQs (X : Cx) (g : GE) (m : List Md) (ifs : List Expr) (f : FQ) : Prop := ∀ (pins : List (Addr × Obj)) (s : Shared) (σ : L2.St) (H : Hp) (Q : Bool→Hp→Prop),Inv X pins σ H s→tQ X g m f σ H Q →
  wpAny (model X.prog X.w) X.A (forIn ifs true fun c r => if r = true then do let ok ← isTrue c X.env (eval c X.env); pure (ForInStep.yield ok) else pure (ForInStep.yield r)) (TP X pins σ Q) X.xe s
section
variable {X : Cx} {g : GE} {m : List Md} {c : Expr} {p : FQ}
theorem zij : SQs X g m [] fun _ => .ok true := fun pins s σ H Q I ⟨r,G,si,q⟩ => wpAny_tests_nil ⟨H,I,q G H (Grow.refl si.gok)⟩
end
noncomputable def FtOk (ft : FT) (nl : Nat) : Prop := ∀ d r r1,ft d r = some r1→r1.length = r.length∧∀ i,nl≤i→r1[i]? = r[i]?
theorem ziB {i nl : Nat} (h : i < nl) : FtOk (ftN i) nl := fun d r r1 e => by
  cases e
  exact ⟨by simp,fun j hj => by rw [List.getElem?_set_ne (by omega)]⟩
section
variable {X : Cx} {pins : List (Addr × Obj)} {σ : L2.St} {H2 : Hp} {s2 : Shared} {scope : Scope} {N' : List Str} {nl : Nat} {cap : List Nat} {cl : List (Str × Addr)} {fp : List Addr} {g : GE} {G2 : GH} {m : List Md} {r : Rho} {elt tg iter : Expr} {ifs : List Expr} {pos : Pos}
  {J : It} {it : Addr} {tn : Nat→Heap→Prop} {ds vs : List D} {ft : FT} {q : FQ} {fe : FE} {E : Value→Shared→Prop}
theorem zjK (i : Nat) : (capM nl cap m)[i]?≠some Md.ow := fun h => by
  by_cases hi : i < nl
  · unfold capM at h
    rw [List.getElem?_append_left (by simpa using hi),List.getElem?_replicate] at h
    split at h <;> cases h
  · unfold capM at h
    rw [zdf (by omega)] at h
    cases e : cap[i - nl]? with
    | none => rw [e] at h; cases h
    | some j =>
      rw [e] at h
      have h' : (if m.getD j Md.sh = Md.sh then Md.sh else Md.bw) = Md.ow := Option.some.inj h
      split at h' <;> cases h'
theorem zgR {i : Nat} (hi : i < nl) (d : D) : (capR nl cap r)[i]?≠some (some d) := fun h => by
  unfold capR at h
  rw [List.getElem?_append_left (by simpa using hi),List.getElem?_replicate] at h
  split at h <;> cases h
theorem zgO (hN : X.N.Nodup) (hcalm : X.calm = true) (sc : CompSc X scope N' nl cap) (h1 : ∀ x c,cl.lookup x = some c→X.env.cells.lookup x = some c) (h2 : ∀ x,(x,NameKind.free)∈scope.names→∃ c,cl.lookup x = some c)
    (I2 : Inv X pins σ H2 s2) (si : SI X g m r G2 σ H2) (T : Turn X.prog X.w X.K tg J fp it tn) (st : tn 0 s2.heap) (hf : ∀ b∈fp,FpOk X pins H2 b) (Y : YieldsC X.K J ds G2 H2) (hsz : ds.length≤sizeLine)
    (hg : ∀ C,SG (cxC X s2 H2 N' scope cl C fp) ⟨G2,H2,fun _ => none⟩ (capM nl cap m) tg ft (capM nl cap m)) (hft : FtOk ft nl) (hq : ∀ C,SQs (cxC X s2 H2 N' scope cl C fp) ⟨G2,H2,fun _ => none⟩ (capM nl cap m) ifs q) (he : ∀ C,SE (cxC X s2 H2 N' scope cl C fp) ⟨G2,H2,fun _ => none⟩ (capM nl cap m) elt fe)
    (hres : zcp ft q fe (capR nl cap r) ds = .ok vs) {RR : Value→Addr→Result→Shared→Prop}
    (hRR : ∀ (p C : Addr) (s' : Shared) (H' : Hp) (G' : GH),Inv X pins σ H' s'→(∃ mm,s'.heap.Ns C mm)→H' C = none→C≠X.env.locals→X.s₀.heap.objs.size≤C→(∀ x c,X.env.cells.lookup x = some c→c≠C)→(∀ z∈X.pn++pins,z.1≠C) →
      Grow X.K G2 H2 G' H'→H2 p = none→Own X.K G' H' p (.lst vs)→RR (.ref p) C (.ok .next) s') :
    wpAny (model X.prog X.w) X.A (newList []) (fun acc s3 => wpAny (model X.prog X.w) X.A (newFunctionEnv scope X.env.globals cl [] X.env.qual none .none (some X.env)) (fun cenv s4 =>
      codeAny (model X.prog X.w) X.A (.compStart (.ListComp elt [⟨tg,iter,ifs,0⟩] scope pos) 0 (.ref it) acc { cenv with scope := relabel scope X.env }) (RR acc cenv.locals) s4) E s3) E s2 := by
  refine wpAny_newObj_type (wpAny_newFunctionEnv sc.nocell (by intro y hy; simp at hy) (fun h₁ hns₁ hsb₁ => ?_) sc.kind)
  dsimp only at hns₁ hsb₁ ⊢
  generalize hH2 : s2.heap.push { cls := .type "list",dict := none,data := .seq ([] : List Value).toArray } = HH at hns₁ hsb₁ ⊢
  have hC : HH.objs.size = s2.heap.objs.size + 1 := by rw [← hH2,Heap.size_push]
  have hDC : s2.heap.objs.size≠HH.objs.size := by rw [hC]; exact Nat.ne_of_lt (Nat.lt_succ_self _)
  have hCle : s2.heap.objs.size≤HH.objs.size := by rw [hC]; exact Nat.le_succ _
  have below : ∀ b,b < s2.heap.objs.size→b≠HH.objs.size∧b≠s2.heap.objs.size := fun b hb => ⟨by rw [hC]; exact Nat.ne_of_lt (Nat.lt_succ_of_lt hb),Nat.ne_of_lt hb⟩
  have old : ∀ b o,s2.heap.get? b = some o→h₁.get? b = some o := fun b o e => hsb₁.extBut b o (below b (Heap.lt_size e)).1 (Heap.get?_push_of_some _ (hH2 ▸ Heap.get?_push_of_some _ e))
  have hacc : h₁.get? s2.heap.objs.size = some { cls := .type "list",dict := none,data := .seq ([] : List Value).toArray } := hsb₁.extBut _ _ hDC (Heap.get?_push_of_some _ (hH2 ▸ Heap.get?_push_size _ rfl))
  have hp2 : H2 s2.heap.objs.size = none := I2.hok.fresh (Nat.le_refl _)
  have hflt : ∀ b∈fp,FpOk X pins H2 b∧b < s2.heap.objs.size := fun b hb => ⟨hf b hb,by
    obtain ⟨o,e,_⟩ := T.obj 0 s2.heap st b hb
    exact Heap.lt_size e⟩
  have ok := zlM (fp := fp) I2 sc h1 h2 hflt hCle
  generalize hXX : cxC X s2 H2 N' scope cl HH.objs.size fp = XX at ok
  have hG2p : G2 s2.heap.objs.size = none := si.gok.isN hp2
  have w0 : Grow X.K G2 H2 G2 (upd H2 s2.heap.objs.size (.lst [])) := Grow.new si.gok hp2 _
  have hok4 : HOk X.prog X.w (upd H2 s2.heap.objs.size (.lst [])) h₁ := I2.hok.laid old (Nat.le_refl _) ⟨Nat.zero_le _,[],0,.nil,hacc⟩
  have IC : Inv XX [] (capS nl cap σ) (upd H2 s2.heap.objs.size (.lst [])) { s2 with heap := h₁,toks := s2.toks + ([] : List (Str × Value)).length } := by
    subst hXX
    refine zlN I2 ok sc h1 h2 hN rfl I2.bare old hns₁ hCle ?_ (fun b hb hlt => ?_) (Un.laid old (Nat.le_refl _) hp2) hok4
    · rw [zae (Ne.symm hDC)]; exact I2.hok.fresh hCle
    · rw [zae (below b hlt).2]; exact hb
  have SC : SI XX ⟨G2,H2,fun _ => none⟩ (capM nl cap m) (capR nl cap r) G2 (capS nl cap σ) (upd H2 s2.heap.objs.size (.lst [])) := by
    subst hXX
    exact zmF si w0
  have hst₁ : tn 0 h₁ := T.keep _ _ _ st fun b _ o e => old b o e
  have hfX : ∀ (H' : Hp),(∀ b∈fp,H' b = none)→∀ b∈fp,FpOk XX [] H' b := fun H' hn b hb => by
    clear IC SC
    subst hXX
    obtain ⟨z0,z1,z2,z3,z4,z5⟩ := hf b hb
    refine ⟨hn b hb,?_,?_,?_,?_,?_⟩
    · exact (below b (hflt b hb).2).1
    · intro hfs
      rcases List.mem_cons.mp (I2.stkSub b hfs) with z | z
      · exact z1 z
      · exact z2 z
    · exact .inl hb
    · exact fun x c e => z4 x c (h1 x c e)
    · intro p hp; exact absurd (show p∈([] : List (Addr × Obj)) from hp) (by simp)
  have eA : XX.A = X.A := Eq.rec (motive := fun z _ => z.A = X.A) rfl hXX
  have eP : XX.prog = X.prog := Eq.rec (motive := fun z _ => z.prog = X.prog) rfl hXX
  have eW : XX.w = X.w := Eq.rec (motive := fun z _ => z.w = X.w) rfl hXX
  have eK : XX.K = X.K := Eq.rec (motive := fun z _ => z.K = X.K) rfl hXX
  have eX : XX.xe = fun _ _ => False := Eq.rec (motive := fun z _ => z.xe = fun _ _ => False) rfl hXX
  have eE : XX.env = compEnvC scope cl HH.objs.size X.env := Eq.rec (motive := fun z _ => z.env = compEnvC scope cl HH.objs.size X.env) rfl hXX
  have eC : XX.calm = true := Eq.rec (motive := fun z _ => z.calm = true) hcalm hXX
  have eH : XX.H₀ = H2 := Eq.rec (motive := fun z _ => z.H₀ = H2) rfl hXX
  have hg' : PG XX tg (tG XX ⟨G2,H2,fun _ => none⟩ (capM nl cap m) (capM nl cap m) ft) := Eq.rec (motive := fun z _ => PG z tg (tG z ⟨G2,H2,fun _ => none⟩ (capM nl cap m) (capM nl cap m) ft)) (hg _).2 hXX
  have hq' : SQs XX ⟨G2,H2,fun _ => none⟩ (capM nl cap m) ifs q := Eq.rec (motive := fun z _ => SQs z ⟨G2,H2,fun _ => none⟩ (capM nl cap m) ifs q) (hq _) hXX
  have he' : SE XX ⟨G2,H2,fun _ => none⟩ (capM nl cap m) elt fe := Eq.rec (motive := fun z _ => SE z ⟨G2,H2,fun _ => none⟩ (capM nl cap m) elt fe) (he _) hXX
  have fin' : ∀ {H' : Hp} {s' : Shared} {σ' : L2.St} {G' : GH} {ws : List V},Inv XX [] σ' H' s'→Grow X.K G2 H2 G' H'→H' s2.heap.objs.size = some (.lst ws)→G' s2.heap.objs.size = none→RGs X.K G' ws vs→RR (.ref s2.heap.objs.size) HH.objs.size (.ok .next) s' := fun {H' s' σ' G' ws} J1 wg hpp hgp rs => by
    clear IC SC hfX hg' hq' he' eA eP eW eK eX eE eC eH
    subst hXX
    have un := J1.base
    refine hRR _ _ s' H' G' ?_ (let ⟨mm,hn,_⟩ := J1.loc; ⟨mm,hn⟩) J1.free (Nat.ne_of_gt (Nat.lt_of_lt_of_le I2.lt hCle)) (Nat.le_trans I2.sz hCle) (fun x c e z => ?_) (fun z hz e => ?_) wg hp2 ⟨hgp,.lst hpp rs⟩
    · refine I2.call' J1.os un J1.hok J1.bare fun b hb => ?_
      obtain ⟨z0,z1,z2,z3,z4,z5⟩ := hf b hb
      exact ⟨z3,z1,z4,z5⟩
    · obtain ⟨v,o,ho,_⟩ := I2.cell x c e
      exact absurd (Nat.lt_of_lt_of_le (Heap.lt_size ho) hCle) (by rw [z]; exact Nat.lt_irrefl _)
    · have := (I2.pin z hz).1
      exact absurd (Nat.lt_of_lt_of_le (Heap.lt_size this) hCle) (by rw [e]; exact Nat.lt_irrefl _)
  have loop : codeAny (model X.prog X.w) X.A (.compLoop (.ListComp elt [⟨tg,iter,ifs,0⟩] scope pos) 0 (.ref it) (.ref s2.heap.objs.size) (compEnvC scope cl HH.objs.size X.env)) (RR (.ref s2.heap.objs.size) HH.objs.size)
      { s2 with heap := h₁,toks := s2.toks + ([] : List (Str × Value)).length } := by
    refine zjI (fun n s' => ∃ (i : Nat) (σ' : L2.St) (H' : Hp) (G' : GH) (ws : List V) (done rest : List D),Inv XX [] σ' H' s'∧SI XX ⟨G2,H2,fun _ => none⟩ (capM nl cap m) (capR nl cap r) G' σ' H'∧tn i s'.heap∧(∀ b∈fp,H' b = none)∧Grow X.K G2 H2 G' H' ∧
        H' s2.heap.objs.size = some (.lst ws)∧G' s2.heap.objs.size = none∧RGs X.K G' ws done∧zcp ft q fe (capR nl cap r) (ds.drop i) = .ok rest∧vs = done++rest∧done.length≤i∧i≤ds.length∧n = ds.length - i) ?_ ds.length
      ⟨0,_,_,G2,[],[],vs,IC,SC,hst₁,fun b hb => ?_,w0,zag,hG2p,.nil,hres,rfl,Nat.le_refl _,Nat.zero_le _,rfl⟩
    rotate_left
    · rw [zae (below b (hflt b hb).2).2]; exact (hf b hb).1
    rintro n s3 ⟨i,σ3,H3,G3,ws,done,rest,I3,S3,st3,fr3,w3,hp3,hg3,rs3,hr3,hv3,hd3,hi3,rfl⟩
    have weaken : ∀ {α : Type} {t : Sem α} {Q : α→Shared→Prop} {s' : Shared} {E' : Value→Shared→Prop},wpAny (model XX.prog XX.w) XX.A t Q XX.xe s'→wpAny (model X.prog X.w) X.A t Q E' s' := fun h => by
      rw [eP,eW,eA,eX] at h
      exact wpAny_mono h (fun _ _ z => z) fun _ _ z => z.elim
    by_cases hlt : i < ds.length
    · have hd : ds.drop i = ds[i]::ds.drop (i + 1) := List.drop_eq_getElem_cons hlt
      rw [hd] at hr3
      unfold zcp at hr3
      have it3 := T.item XX eP eW eK eC i [] s3 σ3 H3 (notedBy (model X.prog X.w) X.A (compEnvC scope cl HH.objs.size X.env) fun e s' => RR (.ref s2.heap.objs.size) HH.objs.size (.error e) s') I3 (hfX H3 fr3) st3 (Y.go G3 H3 i w3 hlt)
      rw [eA] at it3
      refine thn it3 fun rr s4 ⟨u,hr,h4⟩ => ?_
      subst hr
      refine thn h4 fun _ s5 ⟨x,H5,I5,r5,y5,st5,fr5⟩ => ?_
      obtain ⟨G5,w5,rv5⟩ := Y.yld G3 H3 i x H5 ds[i] w3 y5 (List.getElem?_eq_getElem hlt)
      have w25 := w3.trans w5
      cases eft : ft ds[i] (capR nl cap r) with
      | none => rw [eft] at hr3; cases hr3
      | some r1 =>
        rw [eft] at hr3
        simp only [opt_some,bind_ok] at hr3
        have I5' := I5.pinned (hfX H5 fr5) (T.obj _ _ st5)
        have S5 : SI XX ⟨G2,H2,fun _ => none⟩ (capM nl cap m) (capR nl cap r) G5 σ3 H5 := S3.grow (by rw [eK]; exact w5)
        have rv5' : RG XX.K G5 x ds[i] := by rw [eK]; exact rv5
        have as5 := hg' _ s5 σ3 H5 x u (fun σ6 H6 => H6 = H5∧SI XX ⟨G2,H2,fun _ => none⟩ (capM nl cap m) r1 G5 σ6 H5) I5' r5 ⟨capR nl cap r,G5,ds[i],S5,rv5',r1,eft,fun σ6 si6 => ⟨rfl,si6⟩⟩
        rw [eE] at as5
        refine thn (weaken as5) fun _ s6 ⟨σ6,H6,I6,e6,S6⟩ => ?_
        subst e6
        obtain ⟨fl1,fl2⟩ := hft _ _ _ eft
        cases eq1 : q r1 with
        | stuck => rw [eq1] at hr3; cases hr3
        | exc xx => rw [eq1] at hr3; cases hr3
        | ok b1 =>
          rw [eq1] at hr3
          simp only [bind_ok] at hr3
          have te6 := hq' _ s6 σ6 H6 (fun b H7 => b = b1∧∃ G7,Grow X.K G5 H6 G7 H7) I6 ⟨r1,G5,S6,by rw [eq1]; exact fun G7 H7 w7 => ⟨rfl,G7,by rw [eK] at w7; exact w7⟩⟩
          rw [eE] at te6
          refine thn (weaken te6) fun b s7 ⟨H7,I7,eb,G7,w7⟩ => ?_
          subst eb
          have S7 : SI XX ⟨G2,H2,fun _ => none⟩ (capM nl cap m) r1 G7 σ6 H7 := S6.grow (by rw [eK]; exact w7)
          have w27 := w25.trans w7
          have hp7 : H7 s2.heap.objs.size = some (.lst ws) := w7.he _ _ (w5.he _ _ hp3)
          have hg7 : G7 s2.heap.objs.size = none := by
            rw [w7.gf _ (by rw [w5.he _ _ hp3]; simp),w5.gf _ (by rw [hp3]; simp)]; exact hg3
          have back : ∀ {σ8 : L2.St} {H8 : Hp} {G8 : GH} {s8 : Shared},Inv XX ([]++zdZ fp s5.heap) σ8 H8 s8→Inv XX [] σ8 H8 s8∧tn (i + 1) s8.heap∧∀ b∈fp,H8 b = none := fun {σ8 H8 G8 s8} I8 => by
            refine ⟨I8.unpinned,T.keep _ _ _ st5 fun b hb o e => (I8.pin (b,o) (List.mem_append_right _ (List.mem_append_right _ (zbS hb e)))).1,fun b hb => ?_⟩
            obtain ⟨o,e,_⟩ := T.obj _ _ st5 b hb
            exact (I8.pin (b,o) (List.mem_append_right _ (List.mem_append_right _ (zbS hb e)))).2.1
          have less : ∀ {σ8 : L2.St} {H8 : Hp} {G8 : GH},SI XX ⟨G2,H2,fun _ => none⟩ (capM nl cap m) r1 G8 σ8 H8→SI XX ⟨G2,H2,fun _ => none⟩ (capM nl cap m) (capR nl cap r) G8 σ8 H8 := fun h => h.less fl1.symm fun j d hj => by
            by_cases hjn : j < nl
            · exact absurd hj (zgR hjn d)
            · rw [fl2 j (by omega)]; exact hj
          cases b with
          | false =>
            rw [if_neg Bool.false_ne_true] at hr3 ⊢
            obtain ⟨I7',t7,f7⟩ := back (G8 := G7) I7
            exact ⟨ds.length - (i + 1),by omega,i + 1,σ6,H7,G7,ws,done,rest,I7',less S7,t7,f7,w27,hp7,hg7,rs3.mono (Gle.trans w5.ge w7.ge),hr3,hv3,by omega,hlt,rfl⟩
          | true =>
            rw [if_pos rfl] at hr3 ⊢
            cases ee1 : fe r1 with
            | stuck => rw [ee1] at hr3; cases hr3
            | exc xx => rw [ee1] at hr3; cases hr3
            | ok d1 =>
              rw [ee1] at hr3
              simp only [bind_ok] at hr3
              cases er : zcp ft q fe (capR nl cap r) (ds.drop (i + 1)) with
              | stuck => rw [er] at hr3; cases hr3
              | exc xx => rw [er] at hr3; cases hr3
              | ok rest' =>
                rw [er] at hr3
                simp only [bind_ok] at hr3
                cases hr3
                have el7 := he' _ s7 σ6 H7 (fun v H8 => ∃ G8,Grow X.K G7 H7 G8 H8∧RG X.K G8 v d1) I7 ⟨r1,G7,S7,by rw [ee1]; exact fun v G8 H8 w8 rv => ⟨G8,by rw [eK] at w8; exact w8,by rw [eK] at rv; exact rv⟩⟩
                rw [eE] at el7
                refine thn (weaken el7) fun u8 s8 ⟨v8,H8,I8,r8,G8,w8,rv8⟩ => ?_
                have hp8 : H8 s2.heap.objs.size = some (.lst ws) := w8.he _ _ hp7
                have hg8 : G8 s2.heap.objs.size = none := by rw [w8.gf _ (by rw [hp7]; simp)]; exact hg7
                have S8 : SI XX ⟨G2,H2,fun _ => none⟩ (capM nl cap m) r1 G8 σ6 H8 := S7.grow (by rw [eK]; exact w8)
                have hlen := Paired.length rs3
                have ap8 := zc5 (X := XX) _ s8 σ6 H8 (.ref s2.heap.objs.size) [v8] (.ref s2.heap.objs.size) [u8] (fun v H9 => H9 = upd H8 s2.heap.objs.size (.lst (ws++[v8]))) I8 rfl (.cons r8 .nil) ⟨_,ws,v8,rfl,rfl,hp8,by omega,rfl⟩
                refine thn (weaken ap8) fun u9 s9 ⟨v9,H9,I9,r9,e9⟩ => ?_
                subst e9
                obtain ⟨I9',t9,f9⟩ := back (G8 := G8) I9
                have rsn : RGs X.K G8 (ws++[v8]) (done++[d1]) := Paired.snoc (rs3.mono (Gle.trans (Gle.trans w5.ge w7.ge) w8.ge)) rv8
                have w28 := w27.trans w8
                refine ⟨ds.length - (i + 1),by omega,i + 1,σ6,_,G8,ws++[v8],done++[d1],rest',I9',less (S8.other hg8 hp2 zjK _),t9,f9,?_,zag,hg8,rsn,er,by rw [hv3,List.append_assoc]; rfl,by rw [List.length_append,List.length_singleton]; omega,hlt,rfl⟩
                refine ⟨fun b e hb => (w28.ok b e hb).mono (fun _ _ z => z) fun o z => ?_,fun b o hb => ?_,w28.ge,w28.gf⟩
                · rw [zae (by rintro rfl; rw [hg8] at hb; cases hb)]; exact z
                · rw [zae (by rintro rfl; rw [hp2] at hb; cases hb)]; exact w28.he b o hb
    · have e : i = ds.length := by omega
      subst e
      rw [List.drop_length] at hr3
      cases hr3
      rw [List.append_nil] at hv3
      subst hv3
      have dn := T.done XX eP eW eK eC ds.length [] s3 σ3 H3 (notedBy (model X.prog X.w) X.A (compEnvC scope cl HH.objs.size X.env) fun e s' => RR (.ref s2.heap.objs.size) HH.objs.size (.error e) s') I3 (hfX H3 fr3) st3 (Y.stop G3 H3 w3)
      rw [eA] at dn
      refine thn dn fun rr s4 ⟨hr,I4⟩ => ?_
      subst hr
      exact fin' I4 w3 hp3 hg3 rs3
  exact codeAny_compStart_list loop (T.self X.A 0 _ _ _ hst₁ loop)
end
end DL
end
section
namespace DL
open PySem PySem.Spec PyProof.Rows L2
noncomputable def noXL : Res (List D)→Res (List D)
  | .ok d => .ok d
  | _ => .stuck
@[simp] theorem noXL_ok (d : List D) : noXL (.ok d) = .ok d := rfl
noncomputable def zec (nl : Nat) (cap : List Nat) (fi : FI) (ft : FT) (q : FQ) (fe : FE) : FE := fun r => (fi r).bind fun ds => (opt (sz ds)).bind fun ds => (noXL (zcp ft q fe (capR nl cap r) ds)).bind fun vs => .ok (.lst vs)
section
variable {X : Cx} {g : GE} {m mb : List Md} {scope : Scope} {N' : List Str} {nl : Nat} {cap : List Nat} {elt tg iter : Expr} {ifs : List Expr} {pos pos' spos : Pos} {fi : FI} {ft : FT} {q : FQ} {fe : FE} {ro : Bool}
theorem zgC {r : Rho} {P : D→Prop} {x : D→Prop} (h : fin (zec nl cap fi ft q fe r) P x) : fin (fi r) (fun ds => ∃ vs,ds.length≤sizeLine∧zcp ft q fe (capR nl cap r) ds = .ok vs∧P (.lst vs)) x := by
  unfold zec at h
  refine zac (zad h) fun ds h1 => ?_
  obtain ⟨ds',e2,h2⟩ := zat (zad h1)
  obtain ⟨rfl,hl⟩ := zka e2
  cases e3 : zcp ft q fe (capR nl cap r) ds' with
  | ok vs => rw [e3] at h2; exact ⟨vs,hl,rfl,h2⟩
  | exc x => rw [e3] at h2; exact h2.elim
  | stuck => rw [e3] at h2; exact h2.elim
theorem CompSc.clo {pins : List (Addr × Obj)} {σ : L2.St} {H : Hp} {s : Shared} (sc : CompSc X scope N' nl cap) (ok : X.Ok) : ∃ cl,closureFor scope X.env = pure cl∧(∀ x c,cl.lookup x = some c→X.env.cells.lookup x = some c)∧(∀ x,(x,NameKind.free)∈scope.names→∃ c,cl.lookup x = some c) :=
  zfF fun y hy hf => ok.has y.1 (sc.freeK y hy hf)
theorem ziu (hN : X.N.Nodup) (hcalm : X.calm = true) (sc : CompSc X scope N' nl cap) (hi : SItC X g m tg iter fi) (hg : ∀ s0 H0 cl C fp g',SG (cxC X s0 H0 N' scope cl C fp) g' (capM nl cap m) tg ft (capM nl cap m)) (hft : FtOk ft nl)
    (hq : ∀ s0 H0 cl C fp g',SQs (cxC X s0 H0 N' scope cl C fp) g' (capM nl cap m) ifs q) (he : ∀ s0 H0 cl C fp g',SE (cxC X s0 H0 N' scope cl C fp) g' (capM nl cap m) elt fe)
    (hs : ∀ x,foldedSetIterable iter X.env x = pure x := by intro _; rfl) : SO X g m (.ListComp elt [⟨tg,iter,ifs,0⟩] scope pos) (zec nl cap fi ft q fe) := by
  intro pins s σ H Q I h
  obtain ⟨r,G,si,k⟩ := h
  obtain ⟨cl,hcl,h1,h2⟩ := sc.clo (pins := pins) (σ := σ) (H := H) (s := s) I.ok
  have k1 := zgC k
  rw [eval_ListComp]
  refine wpAny_comprehension_free (use := none) rfl hs hcl sc.kind sc.names (thn (hi pins s σ H (fun J H' => ∃ G' ds vs,Grow X.K G H G' H'∧YieldsC X.K J ds G' H'∧ds.length≤sizeLine∧zcp ft q fe (capR nl cap r) ds = .ok vs ∧
    (∀ a G' H',Grow X.K G H G' H'→H a = none→Own X.K G' H' a (.lst vs)→Q (.ref a) H')) I ⟨r,G,si,zac k1 fun ds ⟨vs,z1,z2,z3⟩ J G' H' w y => ⟨G',ds,vs,w,y,z1,z2,z3⟩⟩) fun v s1 hv => thn hv fun itv s2 hv2 => ?_)
  obtain ⟨it,fp,tn,J,H2,rfl,I2,T,st,hf,G2,ds,vs,w2,Y,hsz,hres,hQ⟩ := hv2
  refine zgO (RR := fun acc C => compPost (model X.prog X.w) X.A X.xe none (EP X pins σ Q) acc C) hN hcalm sc h1 h2 I2 (si.grow w2) T st hf Y hsz (fun C => hg _ _ _ _ _ _) hft (fun C => hq _ _ _ _ _ _) (fun C => he _ _ _ _ _ _) hres ?_
  intro p C s' H' G' I' hns hC1 hC2 hC3 hC4 hC5 w' hp ho
  obtain ⟨mm,hn⟩ := hns
  refine ⟨mm,hn,fun h' hsb => ⟨.ref p,H',?_,rfl,hQ p G' H' (w2.trans w') (w2.back hp) ho⟩⟩
  exact I'.turned (it := C) (t' := s'.toks) (fun b o hb e => hsb.extBut b o hb e) hC1 hC2.symm.symm (.inr hC3) hC4 hC5
end
end DL
end
section
namespace DL
open PySem PySem.Spec PyProof.Rows L2
noncomputable def MutD (K : PySem.W.Frag) (r : V→List V→Hp→VK→Prop) (mk : D→List D→Option D) : Prop := ∀ (G : GH) (H : Hp) (a : Addr) (d : D) (vs : List V) (ds : List D) (d' : D) (Q : VK),GOk K G H→Own K G H a d→RGs K G vs ds→mk d ds = some d' →
  (∀ o',OwnO K G (upd H a o') a d'→Q .non (upd H a o'))→r (.ref a) vs H Q
noncomputable def tyB (T : String) : D→Bool
  | .lst _ => T == "list"
  | .dic _ => T == "dict"
  | _ => false
noncomputable def mutF (T : String) (m : List Md) (i : Nat) (fl : Rho→Res (List D)) (mk : D→List D→Option D) : FS := fun r => match r[i]? with
  | some (some d) => if tyB T d = true then onE m r (fl r) fun ds => (match mk d ds with
    | some d' => .nx (r.set i (some d'))
    | none => .stuck) else .stuck
  | _ => .stuck
theorem zib {K : PySem.W.Frag} {G : GH} {H : Hp} {a : Addr} {d : D} {T : String} (o : Own K G H a d) (t : tyB T d = true) : tyV K T (.ref a) H := by
  cases o.ob with
  | lst r s => exact .inl ⟨eq_of_beq t,_,SqL.of r⟩
  | dic r s => exact .inr (.inr (.inl ⟨eq_of_beq t,.inl ⟨_,.inl r⟩⟩))
section
variable {X : Cx} {g : GE} {m mb : List Md} {e a b o : Expr} {es : List Expr} {f fa fb : FE} {fl : Rho → Res (List D)} {pos pos' apos cpos : Pos} {ro : Bool} {x name : Str} {T id : String} {R : V → List V → Hp → VK → Prop} {mk : D → List D → Option D}
theorem zhz (i : Nat) (hm : m[i]? = some .ow) (hk : MutD X.K R mk) {D0 : Ends} {σ : L2.St} {H : Hp} (h : tS X g ro m m mb (mutF T m i fl mk) D0 σ H) :
    ∃ v,σ[i]? = some (some v)∧tyV X.K T v H∧tL X g m fl σ H fun xs H2 => R v xs H2 fun _ H1 => D0.nx σ H1 := by
  obtain ⟨r,G,si,k⟩ := h
  unfold mutF at k
  cases er : r[i]? with
  | none => simp only [er] at k; exact (show False from k).elim
  | some oo =>
    cases oo with
    | none => simp only [er] at k; exact (show False from k).elim
    | some d =>
      simp only [er] at k
      by_cases ht : tyB T d = true
      · rw [if_pos ht] at k
        obtain ⟨a,h1,h2,h3⟩ := si.mut hm er
        refine ⟨_,h1,zib h2 ht,r,G,si,zac (zbb si rfl k) fun ds k2 vs G' H' w rs => ?_⟩
        cases em : mk d ds with
        | none => simp only [em] at k2; exact (show False from k2).elim
        | some d' =>
          simp only [em] at k2
          obtain ⟨a',h1',h2',h3'⟩ := (si.grow w).mut hm er
          rw [h1] at h1'; cases h1'
          exact hk G' H' a d vs ds d' _ w.ok h2' rs em fun o' ob => k2 σ G' _ w.ge (h3' o' d' ob)
      · rw [if_neg ht] at k; exact (show False from k).elim
theorem zg9 (i : Nat) (hm : m[i]? = some .ow) (pa : PlainAttrs T) (slot : Slot T name id) (hty : typeOf (.builtin id) = pure (.type "method_descriptor")) (hmt : MtR X id R) (hk : MutD X.K R mk) (hN : X.N[i]? = some x) (hv : Vis X.env.scope x) (ha : SA X g m (e::es) fl)
    (hd : (x == ("__debug__" : Str)) = false := by decide) (hcd : (x == ("__classdict__" : Str)) = false := by decide)
    (hbase : attributeBase (.Name x pos') name X.env (eval (.Name x pos') X.env) = eval (.Name x pos') X.env := by rfl)
    (hfew : ((backTo cpos (starEach (e::es) X.env)).all (fun x => ! x.1) && (backToKw cpos (keywordEach [] X.env)).all (fun x => x.1.isSome) && decide ((e::es).length + ([] : List Keyword).length + (if ([] : List Keyword).isEmpty then 0 else 1) < 30)) = true := by rfl)
    (hline : (apos.endLine == cpos.line) = true := by rfl) (hst : starEach (e::es) X.env = (false,eval e X.env)::starEach es X.env := by rfl) (hplain : (backTo cpos (starEach es X.env)).any (·.1) = false := by rfl) :
    SS X g ro mb m (.Expr (.Call (.Attribute (.Name x pos') name apos) (e::es) [] cpos) pos) (mutF T m i fl mk) m :=
  ⟨rfl,PS.imp (zeC (zja pa slot hty hmt (zb2 hN hv hd hcd) ha hbase hfew hline hst hplain)) fun D0 σ H h => zhz i hm hk h⟩
noncomputable def appD : D→List D→Option D
  | .lst ds,[d] => if ds.length < sizeLine then some (.lst (ds++[d])) else none
  | _,_ => none
theorem ziG {K : PySem.W.Frag} : MutD K zfY appD := by
  intro G H a d vs ds d' Q gk ow rs e q
  unfold appD at e
  split at e
  · split at e
    · rename_i hl
      cases e
      cases ow.ob with
      | lst r s =>
        cases rs with
        | cons r1 t =>
          cases t
          have := Paired.length s
          exact ⟨a,_,_,rfl,rfl,r,by omega,q _ (.lst zag (Paired.snoc s r1))⟩
    · cases e
  · cases e
theorem Paired.rev {α β : Type} {F : α→β→Prop} : ∀ {l : List α} {r : List β},Paired F l r→Paired F l.reverse r.reverse
  | _,_,.nil => .nil
  | _,_,.cons h t => by rw [List.reverse_cons,List.reverse_cons]; exact Paired.snoc (Paired.rev t) h
noncomputable def zjz (x : Int) (n : Nat) : Nat := if x < 0 then (x + (n : Int)).toNat else min x.toNat n
noncomputable def insL {α : Type} (xs : List α) (x : Int) (y : α) : List α := xs.take (zjz x xs.length)++y::xs.drop (zjz x xs.length)
noncomputable def zfW : V→List V→Hp→VK→Prop := fun x vs H Q => ∃ l xs i y,x = .ref l∧vs = [.int i,y]∧H l = some (.lst xs)∧-(2 ^ 63)≤i∧i < 2 ^ 63∧xs.length < sizeLine∧Q .non (upd H l (.lst (insL xs i y)))
theorem zd3 : MtR X "list.insert" zfW := by
  intro pins s σ H x vs v us Q I rx rv h
  obtain ⟨l,xs,i,y,rfl,rfl,hH,h1,h2,hz,q⟩ := h
  cases rx
  obtain ⟨u,w',rfl,⟨t,rfl⟩,ry⟩ := zfJ rv
  obtain ⟨z,its,n,r,hl,e⟩ := I.lstM hH
  have hfit : ¬(! Builtin.List.listFitsIndex i) = true := by rw [fitsIndex_both h1 h2]; exact Bool.false_ne_true
  refine call_meets PySem.F.slot_list_insert ⟨_,e,rfl⟩ PySem.F.entry_list_insert (PySem.F.args_list_insert_3 _ _ _) (AutoListH.list_insert_list_int_val_1 l its.toArray n i t w' hfit (by rw [List.size_toArray]; omega)) ⟨e,?_⟩
  refine ⟨.non,_,I.lset (its' := insL its i w') hH e ?_ ?_ ?_,rfl,q⟩
  · show ((its.toArray.extract 0 (if i < 0 then (i + ((its.toArray.size : Nat) : Int)).toNat else min i.toNat its.toArray.size)).push w'++its.toArray.extract (if i < 0 then (i + ((its.toArray.size : Nat) : Int)).toNat else min i.toNat its.toArray.size)) = (insL its i w').toArray
    rw [List.size_toArray]
    unfold insL zjz
    generalize (if i < 0 then (i + ((its.length : Nat) : Int)).toNat else min i.toNat its.length) = k
    apply Array.ext'
    simp
    exact List.take_of_length_le (by rw [List.length_drop]; exact Nat.le_refl _)
  · unfold insL
    rw [hl]
    exact Vals.append (r.take _) (.cons ry (r.drop _))
  · unfold insL
    rw [List.length_append,List.length_cons,List.length_take,List.length_drop]
    omega
noncomputable def insD : D→List D→Option D
  | .lst ds,[.int i,d] => if ds.length < sizeLine∧-(2 ^ 63)≤i∧i < 2 ^ 63 then some (.lst (insL ds i d)) else none
  | _,_ => none
theorem zlm {α β : Type} {F : α→β→Prop} {l : List α} {r : List β} {x : α} {y : β} (h : Paired F l r) (i : Int) (hxy : F x y) : Paired F (insL l i x) (insL r i y) := by
  unfold insL
  rw [Paired.length h]
  exact Paired.app (Paired.tk _ h) (.cons hxy (Paired.dr _ h))
theorem ziz {K : PySem.W.Frag} : MutD K zfW insD := by
  intro G H a d vs ds d' Q gk ow rs e q
  unfold insD at e
  split at e
  · split at e
    · rename_i hl
      cases e
      cases ow.ob with
      | lst r s =>
        cases rs with
        | cons r1 t =>
          cases t with
          | cons r2 t =>
            cases t
            have := Paired.length s
            exact ⟨a,_,_,_,rfl,by rw [r1.int gk],r,hl.2.1,hl.2.2,by omega,q _ (.lst zag (zlm s _ r2))⟩
    · cases e
  · cases e
end
noncomputable def zaV : D→Bool
  | .non => true
  | .bl _ => true
  | .int _ => true
  | .str _ => true
  | _ => false
noncomputable def toV : D→V
  | .non => .non
  | .bl b => .bl b
  | .int i => .int i
  | .str x => .str x
  | _ => .non
noncomputable def eqs (a b : D) : Bool := eqV (toV a) (toV b)
@[simp] theorem eqs_int (a b : Int) : eqs (.int a) (.int b) = (a == b) := rfl
@[simp] theorem eqs_str (a b : Str) : eqs (.str a) (.str b) = (a == b) := rfl
@[simp] theorem eqs_non_int (b : Int) : eqs .non (.int b) = false := rfl
@[simp] theorem eqs_int_non (b : Int) : eqs (.int b) .non = false := rfl
section
variable {K : PySem.W.Frag} {G : GH} {H : Hp} {v : V} {d : D}
theorem RB.flat (h : RB K G H v d) (gk : GOk K G H) (hf : zaV d = true) : v = toV d∧zb8 v = true := by
  cases d with
  | non => rw [h.non gk]; exact ⟨rfl,rfl⟩
  | bl b => rw [h.bl gk]; exact ⟨rfl,rfl⟩
  | int i => rw [h.int gk]; exact ⟨rfl,rfl⟩
  | str x => rw [h.str gk]; exact ⟨rfl,rfl⟩
  | _ => cases hf
theorem zlC {xs : List V} {ds : List D} (h : RGs K G xs ds) (gk : GOk K G H) (hf : ds.all zaV = true) : xs = ds.map toV∧xs.all zb8 = true := by
  induction h with
  | nil => exact ⟨rfl,rfl⟩
  | cons r t ih =>
    rw [List.all_cons,Bool.and_eq_true] at hf
    obtain ⟨e1,e2⟩ := RB.flat (H := H) r.rb gk hf.1
    obtain ⟨e3,e4⟩ := ih hf.2
    exact ⟨by rw [List.map_cons,← e3,← e1],by rw [List.all_cons,e2,e4]; rfl⟩
end
noncomputable def keyD : D→Option Key
  | .int i => some (.inl i)
  | .str x => some (.inr x)
  | _ => none
noncomputable def hasK (kvs : List (Key × D)) (k : Key) : Bool := kvs.any fun kv => decide (kv.1 = k)
noncomputable def getK (kvs : List (Key × D)) (k : Key) : Option D := (kvs.find? fun kv => decide (kv.1 = k)).map (·.2)
noncomputable def inB (x c : D) : Option Bool := match c with
  | .lst ds => if zaV x = true∧ds.all zaV = true then some (ds.any fun y => eqs y x) else none
  | .tup ds => if zaV x = true∧ds.all zaV = true then some (ds.any fun y => eqs y x) else none
  | .dic kvs => (keyD x).map (hasK kvs)
  | .str y => match x with
    | .str z => some (!(Builtin.Str.occurrences y z 0 y.length 1).isEmpty)
    | _ => none
  | _ => none
noncomputable def inD (x c : D) : Option D := (inB x c).map .bl
theorem ziE {K : PySem.W.Frag} {G : GH} {k : Key} {ps : List (Key × V)} {kvs : List (Key × D)} (h : RKs K G ps kvs) (d : D) (e : getK kvs k = some d) : ∃ v,valV ps k = some v∧RG K G v d := by
  induction h with
  | nil => cases e
  | @cons p q ps kvs r t ih =>
    obtain ⟨k1,v1⟩ := p
    obtain ⟨k2,d2⟩ := q
    obtain ⟨e1,r1⟩ := r
    have e1' : k1 = k2 := e1
    subst e1'
    by_cases hk : k1 = k
    · subst hk
      have : d2 = d := by simpa [getK,List.find?_cons] using e
      subst this
      exact ⟨v1,zcO rfl,r1⟩
    · have e' : getK kvs k = some d := by simpa [getK,List.find?_cons,hk] using e
      obtain ⟨v,h1,h2⟩ := ih e'
      exact ⟨v,by rw [zcc hk]; exact h1,h2⟩
theorem zgz {K : PySem.W.Frag} {G : GH} {k : Key} {ps : List (Key × V)} {kvs : List (Key × D)} (h : RKs K G ps kvs) (e : getK kvs k = none) : valV ps k = none := by
  induction h with
  | nil => rfl
  | @cons p q ps kvs r t ih =>
    obtain ⟨k1,v1⟩ := p
    obtain ⟨k2,d2⟩ := q
    obtain ⟨e1,r1⟩ := r
    have e1' : k1 = k2 := e1
    subst e1'
    by_cases hk : k1 = k
    · subst hk; simp [getK,List.find?_cons] at e
    · have e' : getK kvs k = none := by simpa [getK,List.find?_cons,hk] using e
      rw [zcc hk]; exact ih e'
theorem zls (kvs : List (Key × D)) (k : Key) : hasK kvs k = (getK kvs k).isSome := by
  induction kvs with
  | nil => rfl
  | cons p r ih =>
    by_cases e : p.1 = k
    · simp [hasK,getK,List.find?_cons,e]
    · have h1 : hasK (p::r) k = hasK r k := by simp [hasK,e]
      have h2 : getK (p::r) k = getK r k := by simp [getK,List.find?_cons,e]
      rw [h1,h2,ih]
theorem zgn {K : PySem.W.Frag} {G : GH} {H : Hp} {v : V} {d : D} {k : Key} (gk : GOk K G H) (h : RB K G H v d) (e : keyD d = some k) : v = kV k := by
  cases d with
  | int i => cases e; exact h.int gk
  | str x => cases e; exact h.str gk
  | _ => cases e
section
variable {X : Cx} {g : GE} {m mb : List Md} {e a b o c : Expr} {f fa fb fc : FE} {pos pos' : Pos}
noncomputable def rInD (neg : Bool) : R2 := fun y x H Q => ∃ a o,x = .ref a∧DGet H a y o∧Q (.bl (if neg then ! o.isSome else o.isSome)) H
theorem zkZ (hu : X.A.units + 1 < cLine) : OpR X (compareOp .In) (rInD false) := by
  intro pins s σ H y x u v Q I ry rx h
  obtain ⟨a,oo,rfl,hg,q⟩ := h
  cases rx
  exact d_in hu I hg ry fun s' I' => ⟨.bl _,H,I',rfl,q⟩
noncomputable def rInA (K : PySem.W.Frag) (neg : Bool) : R2 := fun x y H Q => rIn K neg x y H Q∨rInD neg x y H Q∨∃ i j,x = .str i∧y = .str j∧Q (.bl (if neg then !(!(Builtin.Str.occurrences j i 0 j.length 1).isEmpty) else !(Builtin.Str.occurrences j i 0 j.length 1).isEmpty)) H
theorem zk0 (hu : X.A.units + 1 < cLine) : OpR X (compareOp .In) (rInA X.K false) := OpR.or zf9 (OpR.or (zkZ hu) zf8)
theorem zjC {K : PySem.W.Frag} (neg : Bool) : OpD K (rInA K neg) (fun x c => (inB x c).map fun b => .bl (if neg then ! b else b)) := by
  intro G H v1 v2 d1 d2 d Q gk r1 r2 e q
  have seq : ∀ {xs : List V} {ds : List D} {p : Addr},RGs K G xs ds→v2 = .ref p→(SqL K H p xs∨SqT K H p xs)→zaV d1 = true→ds.all zaV = true→d = .bl (if neg then !(ds.any fun y => eqs y d1) else ds.any fun y => eqs y d1)→rInA K neg v1 v2 H Q := fun {xs ds p} rs e2 hs hf hfs ed => by
    obtain ⟨e1,f1⟩ := RB.flat r1 gk hf
    obtain ⟨e3,f3⟩ := zlC rs gk hfs
    refine .inl ⟨p,xs,e2,hs,f1,f3,q _ G H (Grow.refl gk) ?_⟩
    have : inV v1 xs = ds.any fun y => eqs y d1 := by
      unfold inV
      rw [e3,List.any_map,e1]
      rfl
    rw [this,ed]
    exact .scl (.bl _)
  cases d2 with
  | lst ds =>
    by_cases hc : zaV d1 = true∧ds.all zaV = true
    · simp only [inB,if_pos hc,Option.map_some] at e
      obtain ⟨p,xs,e2,hs,rs⟩ := r2.lst gk
      exact seq rs e2 (.inl hs) hc.1 hc.2 (Option.some.inj e).symm
    · simp only [inB,if_neg hc,Option.map_none] at e
      cases e
  | tup ds =>
    by_cases hc : zaV d1 = true∧ds.all zaV = true
    · simp only [inB,if_pos hc,Option.map_some] at e
      obtain ⟨p,xs,e2,hs,rs⟩ := r2.tup gk
      exact seq rs e2 (.inr hs) hc.1 hc.2 (Option.some.inj e).symm
    · simp only [inB,if_neg hc,Option.map_none] at e
      cases e
  | dic kvs =>
    simp only [inB] at e
    cases ek : keyD d1 with
    | none => rw [ek] at e; cases e
    | some k =>
      rw [ek] at e
      cases e
      obtain ⟨p,ps,rfl,hs,rs⟩ := r2.dic gk
      refine .inr (.inl ⟨p,valV ps k,rfl,by rw [zgn gk r1 ek]; exact .inl ⟨ps,k,hs,rfl,rfl⟩,q _ G H (Grow.refl gk) ?_⟩)
      have : (valV ps k).isSome = hasK kvs k := by
        rw [zls]
        cases eg : getK kvs k with
        | none => rw [zgz rs eg]; rfl
        | some d => obtain ⟨v,h1,_⟩ := ziE rs d eg; rw [h1]; rfl
      rw [this]
      exact .scl (.bl _)
  | str y =>
    cases d1 with
    | str z => cases e; exact .inr (.inr ⟨z,y,r1.str gk,r2.str gk,q _ G H (Grow.refl gk) (.scl (.bl _))⟩)
    | _ => cases e
  | _ => cases e
theorem zmw {K : PySem.W.Frag} : OpD K (rInA K false) inD := by
  have h := zjC (K := K) false
  have e : (fun x c => (inB x c).map fun b => D.bl (if false = true then ! b else b)) = inD := by
    funext x c; unfold inD; cases inB x c <;> rfl
  rw [e] at h; exact h
theorem q_in (hu : X.A.units + 1 < cLine) (ha : SB X g m a fa) (hb : SB X g m b fb) (hm : behindInMarks .In b = false := by rfl) : SQ X g m (.Compare a [.In] [b] pos) (zay (f2 fa fb inD)) := zeB (zk0 hu) zmw ha hb hm
noncomputable def isD : D→D→Option D
  | .non,.non => some (.bl true)
  | _,.non => some (.bl false)
  | _,_ => none
noncomputable def isnD : D→D→Option D
  | .non,.non => some (.bl false)
  | _,.non => some (.bl true)
  | _,_ => none
theorem RB.isnon {K : PySem.W.Frag} {G : GH} {H : Hp} {v : V} {d : D} (gk : GOk K G H) (h : RB K G H v d) : (v = .non↔d = .non) := by
  constructor
  · intro e
    subst e
    rcases h with h | ⟨a,e,_⟩
    · cases h with
      | scl s => cases s; rfl
    · cases e
  · intro e
    subst e
    exact h.non gk
theorem zmv {K : PySem.W.Frag} : OpD K (fun x y H Q => y = .non∧Q (.bl (decide (x = .non))) H) isD := by
  intro G H v1 v2 d1 d2 d Q gk r1 r2 e q
  have hn := r1.isnon gk
  cases d2 with
  | non =>
    refine ⟨r2.non gk,q _ G H (Grow.refl gk) ?_⟩
    cases d1 with
    | non => cases e; rw [decide_eq_true (hn.mpr rfl)]; exact .scl (.bl _)
    | _ => cases e; rw [decide_eq_false (fun z => by have := hn.mp z; cases this)]; exact .scl (.bl _)
  | _ => cases d1 <;> cases e
theorem zll {K : PySem.W.Frag} : OpD K (fun x y H Q => y = .non∧Q (.bl (! decide (x = .non))) H) isnD := by
  intro G H v1 v2 d1 d2 d Q gk r1 r2 e q
  have hn := r1.isnon gk
  cases d2 with
  | non =>
    refine ⟨r2.non gk,q _ G H (Grow.refl gk) ?_⟩
    cases d1 with
    | non => cases e; rw [decide_eq_true (hn.mpr rfl)]; exact .scl (.bl _)
    | _ => cases e; rw [decide_eq_false (fun z => by have := hn.mp z; cases this)]; exact .scl (.bl _)
  | _ => cases d1 <;> cases e
theorem q_is (ha : SB X g m a fa) (hb : SB X g m b fb) : SQ X g m (.Compare a [.Is] [b] pos) (zay (f2 fa fb isD)) := zeB zkY zmv ha hb (zcE _)
theorem zmc (ha : SB X g m a fa) (hb : SB X g m b fb) : SQ X g m (.Compare a [.IsNot] [b] pos) (zay (f2 fa fb isnD)) := zeB zje zll ha hb (zcE _)
end
end DL
end
section
namespace DL
open PySem PySem.Spec PyProof.Rows L2
section
variable {X : Cx} {g : GE} {m mb : List Md} {e a b o c : Expr} {f fa fb fc : FE} {pos pos' p1 p2 : Pos} {ro : Bool} {x : Str}
noncomputable def rIxD : R2 := fun x y H Q => ∃ a v,x = .ref a∧DGet H a y (some v)∧Q v H
theorem zlj (hu : X.A.units + 1 < cLine) : IxR X rIxD := by
  intro value slice pins s σ H x y v u Q I rx ry h hs
  obtain ⟨a,w,rfl,hg,q⟩ := h
  cases rx
  exact tail_any (zeI I hg) PySem.F.slot_dict_getitem.lookup (zgM hu I hg ry fun w' s' I' rw' => ⟨w,H,I',rw',q⟩) hs
noncomputable def ixA : D→D→Option D
  | .dic kvs,k => (keyD k).bind (getK kvs)
  | c,k => ixD c k
theorem zlk {K : PySem.W.Frag} : OpD K (fun x y H Q => rIxD x y H Q∨rIx K x y H Q) ixA := by
  intro G H v1 v2 d1 d2 d Q gk r1 r2 e q
  cases d1 with
  | dic kvs =>
    obtain ⟨a,ps,rfl,hs,rs⟩ := r1.dic gk
    have e' : (keyD d2).bind (getK kvs) = some d := e
    cases ek : keyD d2 with
    | none => rw [ek] at e'; cases e'
    | some k =>
      rw [ek] at e'
      obtain ⟨v,h1,h2⟩ := ziE rs d e'
      refine .inl ⟨a,v,rfl,?_,q v G H (Grow.refl gk) h2⟩
      rw [zgn gk r2 ek,← h1]
      exact .inl ⟨ps,k,hs,rfl,rfl⟩
  | lst ds => exact .inr (zjv G H v1 v2 _ d2 d Q gk r1 r2 e q)
  | tup ds => exact .inr (zjv G H v1 v2 _ d2 d Q gk r1 r2 e q)
  | str ds => exact .inr (zjv G H v1 v2 _ d2 d Q gk r1 r2 e q)
  | _ => cases e
theorem zdW (hu : X.A.units + 1 < cLine) (ha : SB X g m a fa) (hb : SB X g m b fb) (hs : zgZ b := by intro _ _; rfl) : SE X g m (.Subscript a b pos) (f2 fa fb ixA) := ziT zlk (zmi (IxR.or (zlj hu) zli) ha hb hs)
theorem zk6 : SO X g m (.Dict [] [] pos) fun _ => .ok (.dic []) :=
  PE.imp zhs fun σ H Q ⟨r,G,si,q⟩ p hp => q p G _ (Grow.new si.gok hp _) hp ⟨si.gok.isN hp,.dic zag .nil⟩
noncomputable def putD (kvs : List (Key × D)) (k : Key) (d : D) : List (Key × D) := if (kvs.any fun kv => decide (kv.1 = k)) = true then kvs.map fun kv => if kv.1 = k then (kv.1,d) else kv else kvs++[(k,d)]
theorem zh3 {K : PySem.W.Frag} {G : GH} {k : Key} {ps : List (Key × V)} {kvs : List (Key × D)} (h : RKs K G ps kvs) : (ps.any fun kv => decide (kv.1 = k)) = kvs.any fun kv => decide (kv.1 = k) := by
  induction h with
  | nil => rfl
  | cons r t ih => rw [List.any_cons,List.any_cons,ih,r.1]
theorem zme {K : PySem.W.Frag} {G : GH} {ps : List (Key × V)} {kvs : List (Key × D)} {k : Key} {v : V} {d : D} (r : RKs K G ps kvs) (h : RG K G v d) : RKs K G (putK ps k v) (putD kvs k d) := by
  unfold putK putD
  rw [zh3 r]
  by_cases hc : (kvs.any fun kv => decide (kv.1 = k)) = true
  · rw [if_pos hc,if_pos hc]
    clear hc
    induction r with
    | nil => exact .nil
    | @cons p q ps kvs r t ih =>
      refine .cons ?_ ih
      obtain ⟨p1,p2⟩ := p
      obtain ⟨q1,q2⟩ := q
      have e : p1 = q1 := r.1
      subst e
      by_cases hk : p1 = k
      · simp only [hk,if_true,true_and]; exact h
      · simp only [hk,if_false,true_and]; exact r.2
  · rw [if_neg hc,if_neg hc]
    exact Paired.snoc r ⟨rfl,h⟩
noncomputable def stoD : D→D→D→Option D
  | .lst ds,.int k,v => (ixN ds.length k).map fun j => .lst (ds.set j v)
  | .dic kvs,k,v => (keyD k).bind fun k => if kvs.length < sizeLine then some (.dic (putD kvs k v)) else none
  | _,_,_ => none
noncomputable def zkt : V→V→V→Hp→(Hp→Prop)→Prop := fun o i v H Q => ∃ p H',o = .ref p∧DPut H p i v H'∧Q H'
theorem ziS (hu : X.A.units + 1 < cLine) : PSet X zkt := by
  intro pins s σ H o i v ov iv u Q I ro ri rv h
  obtain ⟨p,H',rfl,hp,q⟩ := h
  cases ro
  exact zgL hu I hp ri rv fun s' I' => ⟨H',I',q⟩
theorem PSet.or {t t' : TSet} (h : PSet X t) (h' : PSet X t') : PSet X (fun o i v H Q => t o i v H Q∨t' o i v H Q) := by
  intro pins s σ H o i v ov iv u Q I ro ri rv q
  rcases q with q | q
  · exact h pins s σ H o i v ov iv u Q I ro ri rv q
  · exact h' pins s σ H o i v ov iv u Q I ro ri rv q
theorem zkc {K : PySem.W.Frag} {G : GH} {H : Hp} {a : Addr} {d k v d' : D} {kv vv : V} {Q : Hp→Prop} (gk : GOk K G H) (ow : Own K G H a d) (rk : RB K G H kv k) (rv : RG K G vv v) (e : stoD d k v = some d') (q : ∀ o',OwnO K G (upd H a o') a d'→Q (upd H a o')) :
    zks (.ref a) kv vv H Q∨zkt (.ref a) kv vv H Q := by
  cases ow.ob with
  | @lst xs ds r s =>
    cases k with
    | int k =>
      have e' : (ixN ds.length k).map (fun j => D.lst (ds.set j v)) = some d' := e
      cases ej : ixN ds.length k with
      | none => rw [ej] at e'; cases e'
      | some j =>
        rw [ej] at e'
        cases e'
        exact .inl ⟨a,xs,k,j,rfl,rk.int gk,r,by rw [Paired.length s]; exact ej,q _ (.lst zag (Paired.st rv j s))⟩
    | _ => cases e
  | @dic ps kvs r s =>
    have e' : (keyD k).bind (fun k => if kvs.length < sizeLine then some (D.dic (putD kvs k v)) else none) = some d' := e
    cases ek : keyD k with
    | none => rw [ek] at e'; cases e'
    | some k' =>
      rw [ek] at e'
      have e2 : (if kvs.length < sizeLine then some (D.dic (putD kvs k' v)) else none) = some d' := e'
      by_cases hl : kvs.length < sizeLine
      · rw [if_pos hl] at e2
        cases e2
        have := Paired.length s
        refine .inr ⟨a,_,rfl,?_,q _ (.dic zag (zme s rv))⟩
        rw [zgn gk rk ek]
        exact DPut.k r (by omega)
      · rw [if_neg hl] at e2; cases e2
noncomputable def putF (m : List Md) (i : Nat) (fk fv : FE) : FS := fun r => onE m r (fv r) fun v => match r[i]? with
  | some (some d) => onE m r (fk r) fun k => (match stoD d k v with
    | some d' => .nx (r.set i (some d'))
    | none => .stuck)
  | _ => .stuck
theorem zki (i : Nat) (hu : X.A.units + 1 < cLine) (hm : m[i]? = some .ow) (hN : X.N[i]? = some x) (hv : Vis X.env.scope x) (hk : SB X g m b fb) (he : SE X g m e f)
    (hd : (x == ("__debug__" : Str)) = false := by decide) (hcd : (x == ("__classdict__" : Str)) = false := by decide)
    (ha : ∀ v,assign (.Subscript (.Name x p1) b p2) X.env v = (do
      let ov ← holding [v] (eval (.Name x p1) X.env)
      let iv ← holding [v,ov] (eval b X.env)
      standAt p2
      holding [v,ov,iv] (setItem ov iv v)
      release [v,ov,iv] []) := by intro _; rfl)
    (hs : swapsWithSole [.Subscript (.Name x p1) b p2] e pos.line X.env = pure false := by rfl) (hw : swappedStores [.Subscript (.Name x p1) b p2] e X.env = pure none := by rfl)
    (h1 : (assignEach [.Subscript (.Name x p1) b p2] X.env).map (·.2) = [assign (.Subscript (.Name x p1) b p2) X.env] := by rfl) :
    SS X g ro mb m (.Assign [.Subscript (.Name x p1) b p2] e pos) (putF m i fb f) m := by
  refine ⟨rfl,PS.imp (zkA he (zkH (zb2 hN hv hd hcd) hk (PSet.or zg7 (ziS hu)) ha) hs hw h1) fun D0 σ H ⟨r,G,si,k⟩ => ⟨r,G,si,?_⟩⟩
  refine zac (zbb si rfl k) fun v k1 vv G1 H1 w1 rv => ?_
  cases er : r[i]? with
  | none => simp only [er] at k1; exact (show False from k1).elim
  | some oo =>
    cases oo with
    | none => simp only [er] at k1; exact (show False from k1).elim
    | some d =>
      simp only [er] at k1
      obtain ⟨a,h1,h2,h3⟩ := (si.grow w1).mut hm er
      refine ⟨_,h1,r,G1,si.grow w1,?_⟩
      refine zac (zbb (m := m) (si.grow w1) rfl (oTo.gle k1 w1.ge)) fun kk k2 kv G2 H2 w2 rk => ?_
      cases es : stoD d kk v with
      | none => simp only [es] at k2; exact (show False from k2).elim
      | some d' =>
        simp only [es] at k2
        obtain ⟨a',h1',h2',h3'⟩ := ((si.grow w1).grow w2).mut hm er
        rw [h1] at h1'; cases h1'
        exact zkc w2.ok h2' rk (rv.mono w2.ge) es fun o' ob => k2 σ G2 _ w2.ge (h3' o' d' ob)
end
mutual
noncomputable def toPy : D→PyData
  | .non => .none
  | .bl b => .bool b
  | .int i => .int i
  | .str x => .str x
  | .tup ds => .tuple (zcJ ds)
  | .lst ds => .list (zcJ ds)
  | .dic _ => .none
  | .obj _ _ => .none
noncomputable def zcJ : List D→List PyData
  | [] => []
  | d::ds => toPy d::zcJ ds
end
noncomputable def Shp : Nat→D→Prop
  | _,.non => True
  | _,.bl _ => True
  | _,.int _ => True
  | _,.str x => PyData.strOk x = true
  | 0,.tup _ => False
  | 0,.lst _ => False
  | k + 1,.tup ds => ∀ d∈ds,Shp k d
  | k + 1,.lst ds => ∀ d∈ds,Shp k d
  | _,.dic _ => False
  | _,.obj _ _ => False
theorem zcs {k : Nat} {ds : List D} : Shp (k + 1) (.lst ds)↔∀ d∈ds,Shp k d := by simp only [Shp]
theorem zfO {k : Nat} {ds : List D} : Shp (k + 1) (.tup ds)↔∀ d∈ds,Shp k d := by simp only [Shp]
noncomputable def eqb (a b : D) : Bool := PyData.eqv (toPy a) (toPy b)
section
variable {X : Cx} {pins : List (Addr × Obj)} {σ : L2.St} {H : Hp} {s : Shared} {G : GH}
theorem zdY {k : Nat} (ih : ∀ (d : D) (v : V) (u : Value),Shp k d→RG X.K G v d→L2.RelV v u→∃ as,Reads s.heap u (toPy d) as) (ds : List D) (vs : List V) (us : List Value) (h : ∀ d∈ds,Shp k d) (r : RGs X.K G vs ds) (q : Vals vs us) : ∃ as,ReadsAll s.heap us (zcJ ds) as := by
  induction r generalizing us with
  | nil => cases q; exact ⟨[],.nil⟩
  | cons r t ih' =>
    cases q with
    | cons r' t' =>
      obtain ⟨a1,h1⟩ := ih _ _ _ (h _ List.mem_cons_self) r r'
      obtain ⟨a2,h2⟩ := ih' _ (fun x hx => h x (List.mem_cons_of_mem _ hx)) t'
      exact ⟨a1++a2,.cons h1 h2⟩
theorem zcR (I : Inv X pins σ H s) (gk : GOk X.K G H) : ∀ (k : Nat) (d : D) (v : V) (u : Value),Shp k d→RB X.K G H v d→L2.RelV v u→∃ as,Reads s.heap u (toPy d) as := by
  intro k
  induction k with
  | zero =>
    intro d v u hs r ru
    cases d with
    | non => rw [r.non gk] at ru; cases ru; exact ⟨_,.none⟩
    | bl b => rw [r.bl gk] at ru; cases ru; exact ⟨_,.bool b⟩
    | int i => rw [r.int gk] at ru; obtain ⟨t,rfl⟩ := ru; exact ⟨_,.int i t⟩
    | str x => rw [r.str gk] at ru; obtain ⟨t,rfl⟩ := ru; exact ⟨_,.str x t⟩
    | tup _ => unfold Shp at hs; exact hs.elim
    | lst _ => unfold Shp at hs; exact hs.elim
    | dic _ => unfold Shp at hs; exact hs.elim
    | obj _ _ => unfold Shp at hs; exact hs.elim
  | succ k ih =>
    intro d v u hs r ru
    cases d with
    | non => rw [r.non gk] at ru; cases ru; exact ⟨_,.none⟩
    | bl b => rw [r.bl gk] at ru; cases ru; exact ⟨_,.bool b⟩
    | int i => rw [r.int gk] at ru; obtain ⟨t,rfl⟩ := ru; exact ⟨_,.int i t⟩
    | str x => rw [r.str gk] at ru; obtain ⟨t,rfl⟩ := ru; exact ⟨_,.str x t⟩
    | tup ds =>
      obtain ⟨a,xs,rfl,sq,rs⟩ := r.tup gk
      cases ru
      obtain ⟨its,rv,pl,_⟩ := I.tuple sq
      obtain ⟨o,ho,hc,n,hd⟩ := pl
      obtain ⟨as,h⟩ := zdY (k := k) (fun d v u h1 h2 h3 => ih d v u h1 h2.rb h3) ds xs its (zfO.mp hs) rs rv
      refine ⟨as,?_⟩
      unfold toPy
      exact .tuple ho hc hd (by simpa using h)
    | lst ds =>
      obtain ⟨a,xs,rfl,sq,rs⟩ := r.lst gk
      cases ru
      obtain ⟨its,rv,pl,_⟩ := I.list sq
      obtain ⟨o,ho,hc,n,hd⟩ := pl.isList
      obtain ⟨as,h⟩ := zdY (k := k) (fun d v u h1 h2 h3 => ih d v u h1 h2.rb h3) ds xs its (zcs.mp hs) rs rv
      refine ⟨a::as,?_⟩
      unfold toPy
      exact .list ho hc hd (by simpa using h)
    | dic _ => unfold Shp at hs; exact hs.elim
    | obj _ _ => unfold Shp at hs; exact hs.elim
theorem zep {k : Nat} (ih : ∀ d,Shp k d→PyData.canLay0 (toPy d) = true∧PyData.depth (toPy d)≤k) : ∀ ds : List D,(∀ d∈ds,Shp k d)→PyData.canLayAll0 (zcJ ds) = true∧PyData.depthAll (zcJ ds)≤k
  | [],_ => by unfold zcJ PyData.canLayAll0 PyData.depthAll; exact ⟨rfl,Nat.zero_le _⟩
  | d::ds,h => by
    obtain ⟨a1,a2⟩ := ih d (h d List.mem_cons_self)
    obtain ⟨b1,b2⟩ := zep ih ds fun x hx => h x (List.mem_cons_of_mem _ hx)
    unfold zcJ PyData.canLayAll0 PyData.depthAll
    rw [a1,b1]
    exact ⟨rfl,Nat.max_le.mpr ⟨a2,b2⟩⟩
theorem zkd : ∀ (k : Nat) (d : D),Shp k d→PyData.canLay0 (toPy d) = true∧PyData.depth (toPy d)≤k := by
  intro k
  induction k with
  | zero =>
    intro d hs
    cases d with
    | non => unfold toPy PyData.canLay0 PyData.depth; exact ⟨rfl,Nat.zero_le _⟩
    | bl b => unfold toPy PyData.canLay0 PyData.depth; exact ⟨rfl,Nat.zero_le _⟩
    | int i => unfold toPy PyData.canLay0 PyData.depth; exact ⟨rfl,Nat.zero_le _⟩
    | str x => unfold Shp at hs; unfold toPy PyData.canLay0 PyData.depth; exact ⟨hs,Nat.zero_le _⟩
    | tup _ => unfold Shp at hs; exact hs.elim
    | lst _ => unfold Shp at hs; exact hs.elim
    | dic _ => unfold Shp at hs; exact hs.elim
    | obj _ _ => unfold Shp at hs; exact hs.elim
  | succ k ih =>
    intro d hs
    cases d with
    | non => unfold toPy PyData.canLay0 PyData.depth; exact ⟨rfl,Nat.zero_le _⟩
    | bl b => unfold toPy PyData.canLay0 PyData.depth; exact ⟨rfl,Nat.zero_le _⟩
    | int i => unfold toPy PyData.canLay0 PyData.depth; exact ⟨rfl,Nat.zero_le _⟩
    | str x => unfold Shp at hs; unfold toPy PyData.canLay0 PyData.depth; exact ⟨hs,Nat.zero_le _⟩
    | tup ds =>
      obtain ⟨b1,b2⟩ := zep ih ds (zfO.mp hs)
      unfold toPy PyData.canLay0 PyData.depth
      exact ⟨b1,Nat.succ_le_succ b2⟩
    | lst ds =>
      obtain ⟨b1,b2⟩ := zep ih ds (zcs.mp hs)
      unfold toPy PyData.canLay0 PyData.depth
      exact ⟨b1,Nat.succ_le_succ b2⟩
    | dic _ => unfold Shp at hs; exact hs.elim
    | obj _ _ => unfold Shp at hs; exact hs.elim
theorem zch {d : D} (h : Shp 60 d) : SeqAt.shaped (toPy d) = true := by
  obtain ⟨a,b⟩ := zkd 60 d h
  unfold SeqAt.shaped
  rw [a,decide_eq_true (Nat.le_trans b (by decide))]
  rfl
end
section
variable {X : Cx} {g : GE} {m mb : List Md} {e a b o c : Expr} {f fa fb fc : FE} {pos pos' : Pos}
noncomputable def zft (a b : D) : Bool := zaV a && zaV b && scal (toV a) (toV b)
open Classical in
noncomputable def eqB (a b : D) : Option Bool := if zft a b = true then some (eqs a b) else if Shp 60 a∧Shp 60 b then some (eqb a b) else none
noncomputable def eqD (a b : D) : Option D := (eqB a b).map .bl
noncomputable def neD (a b : D) : Option D := (eqB a b).map fun c => .bl (! c)
theorem zfe {a b : D} (h : zft a b = false) (h1 : Shp 60 a) (h2 : Shp 60 b) : eqB a b = some (eqb a b) := by
  unfold eqB
  rw [if_neg (by rw [h]; exact Bool.false_ne_true),if_pos ⟨h1,h2⟩]
theorem zco {a b : D} (h : zft a b = true) : eqB a b = some (eqs a b) := by
  unfold eqB
  rw [if_pos h]
@[simp] theorem eqB_int (a b : Int) : eqB (.int a) (.int b) = some (a == b) := zco rfl
@[simp] theorem eqB_str (a b : Str) : eqB (.str a) (.str b) = some (a == b) := zco rfl
@[simp] theorem eqB_non_int (b : Int) : eqB .non (.int b) = some false := zco rfl
@[simp] theorem eqB_int_non (b : Int) : eqB (.int b) .non = some false := zco rfl
@[simp] theorem eqB_non_non : eqB .non .non = some true := zco rfl
theorem zeV {a b : D} (h : scal (toV a) (toV b) = true) (fa : zaV a = true) (fb : zaV b = true) : decide (toV a = toV b) = eqs a b := by
  cases a <;> cases b <;> first
    | exact absurd (show false = true from fa) Bool.false_ne_true
    | exact absurd (show false = true from fb) Bool.false_ne_true
    | exact absurd (show false = true from h) Bool.false_ne_true
    | exact zeK
    | exact zgJ
    | exact zeJ
    | rfl
    | simp [toV,eqs,eqV]
noncomputable def zdH (K : PySem.W.Frag) (neg : Bool) : R2 := fun x y H Q => ∃ (G : GH) (d1 d2 : D),GOk K G H∧RB K G H x d1∧RB K G H y d2∧Shp 60 d1∧Shp 60 d2∧Q (.bl (if neg then ! eqb d1 d2 else eqb d1 d2)) H
theorem zd0 (hu : X.A.units + 64 < cLine) : OpR X (compareOp .Eq) (zdH X.K false) := by
  intro pins s σ H x y v u Q I rx ry h
  obtain ⟨G,d1,d2,gk,r1,r2,s1,s2,q⟩ := h
  obtain ⟨as,h1⟩ := zcR I gk 60 d1 x v s1 r1 rx
  obtain ⟨bs,h2⟩ := zcR I gk 60 d2 y u s2 r2 ry
  exact SeqAt.compareEq_shaped h1 h2 (zch s1) (zch s2) hu ⟨.bl _,H,I,rfl,q⟩
theorem zf7 (hu : X.A.units + 64 < cLine) : OpR X (compareOp .NotEq) (zdH X.K true) := by
  intro pins s σ H x y v u Q I rx ry h
  obtain ⟨G,d1,d2,gk,r1,r2,s1,s2,q⟩ := h
  obtain ⟨as,h1⟩ := zcR I gk 60 d1 x v s1 r1 rx
  obtain ⟨bs,h2⟩ := zcR I gk 60 d2 y u s2 r2 ry
  exact SeqAt.compareNe_shaped h1 h2 (zch s1) (zch s2) hu ⟨.bl _,H,I,rfl,q⟩
theorem eq_cases {a b : D} {c : Bool} (h : eqB a b = some c) : (zft a b = true∧c = eqs a b)∨(Shp 60 a∧Shp 60 b∧c = eqb a b) := by
  unfold eqB at h
  split at h
  · rename_i hs; cases h; exact .inl ⟨hs,rfl⟩
  · split at h
    · rename_i hs; cases h; exact .inr ⟨hs.1,hs.2,rfl⟩
    · cases h
theorem zlF {K : PySem.W.Frag} : OpD K (fun x y H Q => rEq x y H Q∨zdH K false x y H Q) eqD := by
  intro G H v1 v2 d1 d2 d Q gk r1 r2 e q
  unfold eqD at e
  cases ec : eqB d1 d2 with
  | none => rw [ec] at e; cases e
  | some c =>
    rw [ec] at e
    cases e
    rcases eq_cases ec with ⟨hs,rfl⟩ | ⟨s1,s2,rfl⟩
    · unfold zft at hs
      rw [Bool.and_eq_true,Bool.and_eq_true] at hs
      obtain ⟨e1,_⟩ := RB.flat r1 gk hs.1.1
      obtain ⟨e2,_⟩ := RB.flat r2 gk hs.1.2
      refine .inl ⟨by rw [e1,e2]; exact hs.2,?_⟩
      rw [e1,e2,zeV hs.2 hs.1.1 hs.1.2]
      exact q _ G H (Grow.refl gk) (.scl (.bl _))
    · exact .inr ⟨G,d1,d2,gk,r1,r2,s1,s2,q _ G H (Grow.refl gk) (.scl (.bl _))⟩
theorem zmo {K : PySem.W.Frag} : OpD K (fun x y H Q => rNe x y H Q∨zdH K true x y H Q) neD := by
  intro G H v1 v2 d1 d2 d Q gk r1 r2 e q
  unfold neD at e
  cases ec : eqB d1 d2 with
  | none => rw [ec] at e; cases e
  | some c =>
    rw [ec] at e
    cases e
    rcases eq_cases ec with ⟨hs,rfl⟩ | ⟨s1,s2,rfl⟩
    · unfold zft at hs
      rw [Bool.and_eq_true,Bool.and_eq_true] at hs
      obtain ⟨e1,_⟩ := RB.flat r1 gk hs.1.1
      obtain ⟨e2,_⟩ := RB.flat r2 gk hs.1.2
      refine .inl ⟨by rw [e1,e2]; exact hs.2,?_⟩
      rw [e1,e2,zeV hs.2 hs.1.1 hs.1.2]
      exact q _ G H (Grow.refl gk) (.scl (.bl _))
    · exact .inr ⟨G,d1,d2,gk,r1,r2,s1,s2,q _ G H (Grow.refl gk) (.scl (.bl _))⟩
theorem s_eq (hu : X.A.units + 64 < cLine) (ha : SB X g m a fa) (hb : SB X g m b fb) : SE X g m (.Compare a [.Eq] [b] pos) (f2 fa fb eqD) := zkm (OpR.or zk1 (zd0 hu)) zlF ha hb (zcE _)
theorem q_eq (hu : X.A.units + 64 < cLine) (ha : SB X g m a fa) (hb : SB X g m b fb) : SQ X g m (.Compare a [.Eq] [b] pos) (zay (f2 fa fb eqD)) := zeB (OpR.or zk1 (zd0 hu)) zlF ha hb (zcE _)
theorem q_ne (hu : X.A.units + 64 < cLine) (ha : SB X g m a fa) (hb : SB X g m b fb) : SQ X g m (.Compare a [.NotEq] [b] pos) (zay (f2 fa fb neD)) := zeB (OpR.or zml (zf7 hu)) zmo ha hb (zcE _)
noncomputable def zb5 (fa fb fc : FE) (k k' : D→D→Option D) : FE := fun r => (fa r).bind fun x => (fb r).bind fun y => (opt (k x y)).bind fun z => (opt (asB z)).bind fun c => if c = true then (fc r).bind fun w => opt (k' y w) else .ok (.bl false)
noncomputable def zkv (K : PySem.W.Frag) : R2 := fun x y H Q => ∃ l b xs zs,x = .ref l∧y = .ref b∧SqL K H l xs∧SqL K H b zs∧xs.length + zs.length≤sizeLine∧∀ p,H p = none→Q (.ref p) (upd H p (.lst (xs++zs)))
theorem zjh : OpR X (binaryOp .Add) (zkv X.K) := by
  intro pins s σ H x y v u Q I rx ry h
  obtain ⟨l,b,xs,zs,rfl,rfl,hH,hB,hz,q⟩ := h
  cases rx
  cases ry
  obtain ⟨its,r,pl,_⟩ := I.list hH
  obtain ⟨its2,r2,pl2,_⟩ := I.list hB
  have l1 := r.length
  have l2 := r2.length
  obtain ⟨⟨cls,dd,data,sl⟩,ho,hc,n,hd⟩ := pl.isList
  obtain ⟨⟨cls2,dd2,data2,sl2⟩,ho2,hc2,n2,hd2⟩ := pl2.isList
  simp only at hc hd hc2 hd2
  subst hc hd hc2 hd2
  have e : its.toArray++its2.toArray = (its++its2).toArray := by simp
  refine concat_meets ⟨_,ho,rfl⟩ ⟨_,ho2,rfl⟩ noFill_list_add seq_list_add PySem.F.slot_list_add PySem.F.entry_list_add (PySem.F.args_list_add_2 _ _) (list_addW _ _ its.toArray its2.toArray n n2 dd dd2 sl sl2 (by simp; omega)) ⟨ho,ho2,?_⟩
  rw [e]
  exact ⟨.ref _,_,I.lnew (t' := s.toks) (r.append r2) (by rw [List.length_append]; omega),rfl,q _ I.fresh⟩
noncomputable def addA : D→D→Option D
  | .int a,.int b => some (.int (a + b))
  | .str a,.str b => if a.length + b.length≤sizeLine then some (.str (a++b)) else none
  | .lst a,.lst b => if a.length + b.length≤sizeLine then some (.lst (a++b)) else none
  | .tup (x::a),.tup b => if (x::a).length + b.length≤sizeLine then some (.tup (x::a++b)) else none
  | _,_ => none
theorem zjS {K : PySem.W.Frag} : OpD K (fun x y H Q => (∃ i j,x = .int i∧y = .int j∧Q (.int (i + j)) H)∨(∃ i j,x = .str i∧y = .str j∧i.length + j.length≤sizeLine∧Q (.str (i++j)) H)∨zkv K x y H Q∨zku K x y H Q) addA := by
  intro G H v1 v2 d1 d2 d Q gk r1 r2 e q
  unfold addA at e
  split at e
  · cases e
    exact .inl ⟨_,_,r1.int gk,r2.int gk,q _ G H (Grow.refl gk) (.scl (.int _))⟩
  · split at e
    · rename_i hl
      cases e
      exact .inr (.inl ⟨_,_,r1.str gk,r2.str gk,hl,q _ G H (Grow.refl gk) (.scl (.str _))⟩)
    · cases e
  · split at e
    · rename_i hl
      cases e
      obtain ⟨a,xs,rfl,s1,t1⟩ := r1.lst gk
      obtain ⟨b,ys,rfl,s2,t2⟩ := r2.lst gk
      have l1 := Paired.length t1
      have l2 := Paired.length t2
      exact .inr (.inr (.inl ⟨a,b,xs,ys,rfl,rfl,s1,s2,by omega,fun p hp => q _ _ _ (Grow.newF gk hp (.lst (.inl zag) (Paired.app t1 t2))) (.ref zao)⟩))
    · cases e
  · split at e
    · rename_i x0 a0 b0 hl
      cases e
      rcases r1 with r1 | ⟨a',_,oo⟩
      · obtain ⟨a,xs,rfl,s1,t1⟩ := r1.tup gk
        obtain ⟨b,ys,rfl,s2,t2⟩ := r2.tup gk
        have l1 := Paired.length t1
        have l2 := Paired.length t2
        refine .inr (.inr (.inr ⟨a,b,xs,ys,rfl,rfl,s1,s2,?_,by omega,fun hy => ?_,fun _ p hp => q _ _ _ (Grow.newF gk hp (.tup (.inl zag) (Paired.app t1 t2))) (.ref zao)⟩))
        · rintro rfl
          cases t1
        · subst hy
          cases t2
          refine q _ G H (Grow.refl gk) ?_
          rw [List.append_nil]
          exact r1
      · cases oo.ob
    · cases e
  · cases e
theorem zci (ha : SB X g m a fa) (hb : SB X g m b fb) : SE X g m (.BinOp a .Add b pos) (f2 fa fb addA) := zfu (OpR.or zk2 (OpR.or zfw (OpR.or zjh zjg))) zjS ha hb
end
end DL
end
section
namespace DL
open PySem PySem.Spec PyProof.Rows L2
structure DefAt (K : PySem.W.Frag) (mg : Str→Option Value) (x : Str) (st : Stmt) : Prop where
  ex : ∃ f fd,mg x = some (.ref f)∧Fun K x x st f fd
structure Callee (P : Program) (w : World) (K : PySem.W.Frag) (mg : Str→Option Value) (base : Heap) (x : Str) (ps : List Str) (ds : List Value) (k : Nat) (ro : Bool) (ms : List Md) (F : List D→Res D) : Prop where
  ex : ∃ f fd,mg x = some (.ref f)∧PySem.W.keepIn K (.ref f) = true∧zcr K fd ps ds∧FnOk P w K mg base CX0 k f fd ps (spM K ro ms F)
section
variable {P : Program} {w : World} {K : PySem.W.Frag} {mg : Str → Option Value} {base : Heap}
theorem zbx {x : Str} {st : Stmt} {N ps : List Str} {k : Nat} {ro : Bool} {ms : List Md} {fs : FS} {m' : List Md} (A : DefAt K mg x st) (S : FnScope N ps (defScope st)) (hms : ms.length = ps.length)
    (hb : ∀ (kV doc pm : Value) (an : Option Addr) (cdv ct : Value) (us : List Value),us.length = ps.length→bindArgs (PySem.W.fnOf x x (defArgs st) (defBody st) (defScope st) .none kV doc pm an cdv ct) ⟨us,[]⟩ = pure (ps.zip us))
    (hbody : ∀ (f : Addr) (cdv : Value) (A : Around) (outer : List Env) (s : Shared) (H : Hp) (g : GE) (E : XK),Room k (A.deeper (envOfC x (defScope st) s.heap.objs.size f cdv)) →
      SSs (cxOf CX0 P w K mg base N x (defScope st) f cdv A outer s H E).nox g ro [] (zcd N.length ms) (defBody st) fs m') :
    Callee P w K mg base x ps [] (k + 1) ro ms fun ds => outR ro (fs (zak N.length ds)) := by
  obtain ⟨f,fd,h1,F⟩ := A.ex
  exact ⟨f,fd,h1,F.kp,F.binds hb,ziD F S hms (hbody f)⟩
structure DefAtD (K : PySem.W.Frag) (mg : Str→Option Value) (x : Str) (st : Stmt) (dds : List Value) : Prop where
  ex : ∃ (f T : Addr) (o : Obj) (n : Nat) (oc : Value) (od : Option Addr) (kV doc pm : Value) (an : Option Addr) (cdv ct : Value) (osl : Array (Option Value)),
    mg x = some (.ref f)∧K.lookup T = some o∧o.data = .seq dds.toArray n∧K.lookup f = some ⟨oc,od,.func (PySem.W.fnOf x x (defArgs st) (defBody st) (defScope st) (.ref T) kV doc pm an cdv ct),osl⟩∧PySem.W.codeIn K cdv x = true∧PySem.W.keepIn K (.ref f) = true
theorem zgf {x : Str} {st : Stmt} {N ps : List Str} {k : Nat} {ro : Bool} {ms : List Md} {fs : FS} {m' : List Md} {dds ds : List Value} (A : DefAtD K mg x st dds) (S : FnScope N ps (defScope st)) (hms : ms.length = ps.length) (nn : Nat) (hn : nn + ds.length = ps.length)
    (hb : ∀ (T : Addr) (kV doc pm : Value) (an : Option Addr) (cdv ct : Value) (us : List Value),us.length = nn→∃ kk : Option (Array Value)→Sem (List (Str × Value)),bindArgs (PySem.W.fnOf x x (defArgs st) (defBody st) (defScope st) (.ref T) kV doc pm an cdv ct) ⟨us,[]⟩ = seqItems? (.ref T) >>= kk∧kk (some dds.toArray) = pure (ps.zip (us++ds)))
    (hbody : ∀ (f : Addr) (cdv : Value) (A : Around) (outer : List Env) (s : Shared) (H : Hp) (g : GE) (E : XK),Room k (A.deeper (envOfC x (defScope st) s.heap.objs.size f cdv)) →
      SSs (cxOf CX0 P w K mg base N x (defScope st) f cdv A outer s H E).nox g ro [] (zcd N.length ms) (defBody st) fs m') :
    Callee P w K mg base x ps ds (k + 1) ro ms fun zs => outR ro (fs (zak N.length zs)) := by
  obtain ⟨f,T,o,n,oc,od,kV,doc,pm,an,cdv,ct,osl,h1,hT,hd,lk,hcd,kp⟩ := A.ex
  refine ⟨f,PySem.W.fnOf x x (defArgs st) (defBody st) (defScope st) (.ref T) kV doc pm an cdv ct,h1,kp,fun s us KX hl => ?_,?_⟩
  · obtain ⟨kk,e1,e2⟩ := hb T kV doc pm an cdv ct us (by rw [List.length_append] at hl; omega)
    exact BindsTo.of_defaults rfl (KX _ _ hT) hd e1 e2
  · have hpl : ps.length≤N.length := by have := congrArg List.length S.pre; rw [List.length_take] at this; omega
    refine zjG lk hcd S (fun vs H Q E ⟨G,ds,gk,rs,q⟩ => rs.len.1.trans hms) fun A outer s H vs Q E hr ⟨G,ds,gk,rs,q⟩ => ?_
    exact ⟨_,(hbody f cdv A outer s H ⟨G,H,fun _ => none⟩ E hr).2.nox,zak N.length ds,G,zdC gk rs (by omega),zfj q⟩
end
section
variable {X : Cx} {g : GE} {m : List Md} {e : Expr} {es : List Expr} {fl : Rho → Res (List D)} {k : Nat} {ps : List Str} {F : List D → Res D} {dvs : List V} {ds : List Value} {dds : List D} {x : Str} {p pos : Pos} {i : Nat} {ms ms' : List Md}
theorem zaN (c : Callee X.prog X.w X.K X.mg X.base x ps ds k false ms' F) (hr : Room k X.A) (ha : SAM X g m (e::es) ms fl) (hms : ms' = ms++List.replicate dds.length .sh := by rfl) (hg : Gl X x := by rfl) (hd : Vals dvs ds := by exact .nil) (hsc : Paired Scl dvs dds := by exact .nil)
    (hdb : (x == ("__debug__" : Str)) = false := by decide) (he : starEach (e::es) X.env = (false,eval e X.env)::starEach es X.env := by rfl) (hpl : (backTo pos (starEach es X.env)).any (·.1) = false := by rfl) :
    SE X g m (.Call (.Name x p) (e::es) [] pos) (zaz fl dds F) := by
  subst hms
  obtain ⟨f,fd,h1,h2,h3,h4⟩ := c.ex
  exact zkn h4 hr hg h1 h2 h3 hd hsc ha hdb he hpl
theorem zeL (c : Callee X.prog X.w X.K X.mg X.base x ps ds k true ms' F) (hr : Room k X.A) (ha : SAM X g m (e::es) ms fl) (hms : ms' = ms++List.replicate dds.length .sh := by rfl) (hg : Gl X x := by rfl) (hd : Vals dvs ds := by exact .nil) (hsc : Paired Scl dvs dds := by exact .nil)
    (hdb : (x == ("__debug__" : Str)) = false := by decide) (he : starEach (e::es) X.env = (false,eval e X.env)::starEach es X.env := by rfl) (hpl : (backTo pos (starEach es X.env)).any (·.1) = false := by rfl) :
    SE X g m (.Call (.Name x p) (e::es) [] pos) (zaz fl dds F) := by
  subst hms
  obtain ⟨f,fd,h1,h2,h3,h4⟩ := c.ex
  exact ziV h4 hr hg h1 h2 h3 hd hsc ha hdb he hpl
theorem v_ (i : Nat) (hm : m[i]? = some .sh := by rfl) (hN : X.N[i]? = some x := by rfl) (hv : Vis X.env.scope x := by first | exact Or.inl rfl | exact Or.inr (Or.inl rfl) | exact Or.inr (Or.inr rfl)) (hd : (x == ("__debug__" : Str)) = false := by decide) (hcd : (x == ("__classdict__" : Str)) = false := by decide) :
    SE X g m (.Name x p) fun r => getV r i := zl4 i hm hN hv hd hcd
theorem vb_ (i : Nat) (hm : i < m.length := by decide) (hN : X.N[i]? = some x := by rfl) (hv : Vis X.env.scope x := by first | exact Or.inl rfl | exact Or.inr (Or.inl rfl) | exact Or.inr (Or.inr rfl)) (hd : (x == ("__debug__" : Str)) = false := by decide) (hcd : (x == ("__classdict__" : Str)) = false := by decide) :
    SB X g m (.Name x p) fun r => getV r i := zkf i hm hN hv hd hcd
end
end DL
end
section
namespace DL
open PySem PySem.Spec PyProof.Rows L2
noncomputable def zgP (osc : Scope) (ON : List Str) (sc : Scope) (N' : List Str) (nl : Nat) (cap : List Nat) : Bool :=
  decide (sc.kind = .function) && sc.names.all (fun y => decide (y.2≠.cell)) && sc.names.all (fun y => decide (y.2≠.local) || decide (sc.names.lookup y.1 = some .local)) &&
  sc.names.all (fun y => decide (y.2≠.free) || (decide (osc.names.lookup y.1 = some .cell) || decide (osc.names.lookup y.1 = some .free))) && decide (N'.length = nl + cap.length) &&
  (List.range cap.length).all fun j => match N'[nl + j]?,ON[cap.getD j 0]? with
    | some x,some y => decide (x = y) && decide (sc.names.lookup x = some .free)
    | _,_ => false
theorem zed {X : Cx} {osc : Scope} {ON : List Str} {sc : Scope} {N' : List Str} {nl : Nat} {cap : List Nat} (h1 : X.env.scope = osc) (h2 : X.N = ON) (h : zgP osc ON sc N' nl cap = true) : CompSc X sc N' nl cap := by
  subst h1 h2
  unfold zgP at h
  simp only [Bool.and_eq_true,List.all_eq_true,decide_eq_true_eq,Bool.or_eq_true] at h
  obtain ⟨⟨⟨⟨⟨a1,a2⟩,a3⟩,a4⟩,a5⟩,a6⟩ := h
  refine ⟨a1,a2,fun y hy hl => (a3 y hy).resolve_left fun z => z hl,fun y hy hf => (a4 y hy).resolve_left fun z => z hf,a5,fun j hj => ?_⟩
  have h6 := a6 j (List.mem_range.mpr hj)
  cases e1 : N'[nl + j]? with
  | none => rw [e1] at h6; cases h6
  | some x =>
    cases e2 : X.N[cap.getD j 0]? with
    | none => rw [e1,e2] at h6; cases h6
    | some y =>
      rw [e1,e2] at h6
      simp only [Bool.and_eq_true,decide_eq_true_eq] at h6
      exact ⟨x,rfl,by rw [h6.1],h6.2⟩
section
variable {X : Cx} {g : GE} {m mb : List Md} {e a b c : Expr} {f fa fb fc : FE} {pos pos' : Pos}
theorem zdu {R R' : R2} {k k' : D→D→Option D} (ho : OpD X.K R k) (ho' : OpD X.K R' k') {σ : L2.St} {H : Hp} {Q : VK} (h : tE X g m (zb5 fa fb fc k k') σ H Q) : zfM R R' (tB X g m fa) (tB X g m fb) (tB X g m fc) σ H Q := by
  obtain ⟨r,G,si,q⟩ := h
  refine seq2 si q fun d1 d2 v1 v2 G2 H2 w r1 r2 q2 => ?_
  obtain ⟨z,ez,q3⟩ := zat (zad q2)
  obtain ⟨cc,ec,q4⟩ := zat (zad q3)
  refine ho G2 H2 v1 v2 d1 d2 z _ w.ok r1 r2 ez fun v G3 H3 w3 rv => ?_
  cases z with
  | bl b' =>
    cases ec
    refine ⟨_,rv.bl w3.ok,?_⟩
    cases cc with
    | false => rw [if_neg Bool.false_ne_true] at q4 ⊢; exact q4 _ G3 H3 (w.trans w3) (.scl (.bl _))
    | true =>
      rw [if_pos rfl] at q4 ⊢
      refine ⟨r,G3,(si.grow w).grow w3,zaW (zad q4) (w.trans w3) fun d3 q5 v3 G4 H4 w4 r3 => ?_⟩
      obtain ⟨d,e,q6⟩ := zat q5
      exact ho' G4 H4 v2 v3 d2 d3 d Q w4.ok ((r2.mono w3).mono w4) r3 e fun v G' H' w' z => q6 v G' H' (((w.trans w3).trans w4).trans w') z
  | _ => cases ec
theorem ziO {σ : L2.St} {H : Hp} {Q : Bool→Hp→Prop} (h : tQ X g m (zay f) σ H Q) : tE X g m f σ H fun x H' => ∃ k,x = .bl k∧Q k H' := by
  obtain ⟨r,G,si,q⟩ := h
  refine ⟨r,G,si,zac (zad q) fun d q1 v G' H' w rv => ?_⟩
  obtain ⟨b,e,q2⟩ := zat q1
  cases d with
  | bl b' => cases e; exact ⟨_,rv.bl w.ok,q2 G' H' w⟩
  | _ => cases e
theorem zha {op op' : CmpOp} {R R' : R2} {k k' : D→D→Option D} (hr : OpR X (compareOp op) R) (hr' : OpR X (compareOp op') R') (ho : OpD X.K R k) (ho' : OpD X.K R' k') (ha : SB X g m a fa) (hb : SB X g m b fb) (hc : SB X g m c fc)
    (hm : lastMarks [op,op'] [b,c] = false := by with_unfolding_all rfl) : SE X g m (.Compare a [op,op'] [b,c] pos) (zb5 fa fb fc k k') := PE.imp (zht hr hr' ha hb hc hm) fun σ H Q h => zdu ho ho' h
theorem zhh {op op' : CmpOp} {R R' : R2} {k k' : D→D→Option D} (hr : OpR X (compareOp op) R) (hr' : OpR X (compareOp op') R') (ho : OpD X.K R k) (ho' : OpD X.K R' k') (ha : SB X g m a fa) (hb : SB X g m b fb) (hc : SB X g m c fc)
    (hm : lastMarks [op,op'] [b,c] = false := by with_unfolding_all rfl) : SQ X g m (.Compare a [op,op'] [b,c] pos) (zay (zb5 fa fb fc k k')) := PT.imp (zhl hr hr' ha hb hc hm) fun σ H Q h => zdu ho ho' (ziO h)
theorem zk3 {K : PySem.W.Frag} : OpD K (rI0 fun i j => V.bl (decide (i < j))) ltI := zct fun _ _ => .bl _
theorem zk4 {K : PySem.W.Frag} : OpD K (rI0 fun i j => V.bl (decide (i≤j))) leI := zct fun _ _ => .bl _
end
end DL
end
section
namespace DL
open PySem PySem.Spec PyProof.Rows L2
theorem zmM {K : PySem.W.Frag} {h : Heap} {mg : Str→Option Value} {x : Str} {st : Stmt} (KX : K.In h) (G : h.Ns mainGlobals mg) {f : Addr} {oc : Value} {od an : Option Addr} {osl : Array (Option Value)} {kV doc pm cdv ct : Value} (a : PySem.W.nsIn K mainGlobals x = some (some (.ref f)))
    (l : K.lookup f = some ⟨oc,od,.func (PySem.W.fnOf x x (defArgs st) (defBody st) (defScope st) .none kV doc pm an cdv ct),osl⟩) (c : PySem.W.codeIn K cdv x = true) (k : PySem.W.keepIn K (.ref f) = true) : DefAt K mg x st :=
  ⟨f,_,PySem.W.mg_of KX G a,fun_mk l c k⟩
theorem zmD {K : PySem.W.Frag} {h : Heap} {mg : Str→Option Value} {x : Str} {st : Stmt} {dds : List Value} (KX : K.In h) (G : h.Ns mainGlobals mg) {f T : Addr} {oc tc : Value} {od an td : Option Addr} {osl tsl : Array (Option Value)} {n : Nat} {kV doc pm cdv ct : Value} (a : PySem.W.nsIn K mainGlobals x = some (some (.ref f)))
    (l : K.lookup f = some ⟨oc,od,.func (PySem.W.fnOf x x (defArgs st) (defBody st) (defScope st) (.ref T) kV doc pm an cdv ct),osl⟩) (t : K.lookup T = some ⟨tc,td,.seq dds.toArray n,tsl⟩) (c : PySem.W.codeIn K cdv x = true) (k : PySem.W.keepIn K (.ref f) = true) : DefAtD K mg x st dds :=
  ⟨f,T,_,n,oc,od,kV,doc,pm,an,cdv,ct,osl,PySem.W.mg_of KX G a,t,rfl,l,c,k⟩
theorem zmJ {P : Program} {w : World} {K : PySem.W.Frag} {mg : Str→Option Value} {x p : Str} {st : Stmt} {k : Nat} {F : List D→Res D} {fa : Addr} (hfa : mg x = some (.ref fa)) (A : DefAt K mg x st)
    (hb : ∀ (kV doc pm : Value) (an : Option Addr) (cdv ct : Value) (us : List Value),us.length = [p].length→bindArgs (PySem.W.fnOf x x (defArgs st) (defBody st) (defScope st) .none kV doc pm an cdv ct) ⟨us,[]⟩ = pure ([p].zip us))
    (C : ∀ (f : Addr) (fd : FuncData),Fun K x x st f fd→∀ base : Heap,FnOk P w K mg base CX0 k f fd [p] (spM K false [.sh] F)) :
    ∃ fd : FuncData,(∀ (s : Shared) (u : Value),BindsTo s fd ⟨[u],[]⟩ [(p,u)])∧∀ base : Heap,K.In base→base.Ns mainGlobals mg→FnOk P w K mg base CX0 k fa fd [p] (spM K false [.sh] F) := by
  obtain ⟨f,fd,h1,Fn⟩ := A.ex
  rw [hfa] at h1
  cases h1
  refine ⟨fd,fun s u => ?_,fun base _ _ => C fa fd Fn base⟩
  obtain ⟨oc,od,kV,doc,pm,an,cdv,ct,osl,rfl,lk,hcd⟩ := Fn.ex
  exact .of_eq (hb kV doc pm an cdv ct [u] rfl)
theorem zmP {l : PySem.W.OpenLaw} {k : Nat} {q : Program} {loose : List Str} {XP : (Str→Option Value)→Heap→Prop} {YP : World→Heap→Prop} {d : DefRec} {K : Params→PySem.W.Frag} {x : Str} {F : List D→Res D} (hn : l.most = some 63) (hdf : d.params.defaults = []) (hr : Room k callerA)
    (hY : ∀ (w : World) (h : Heap),YP w h→(K w.params).In h) (hF : ∀ ns : List Int,ns.length≤63→F [.lst (ns.map .int)] = .ok (.bl true))
    (C : ∀ (w : World) (mg : Str→Option Value) (fa : Addr) (h : Heap),(K w.params).In h→h.Ns mainGlobals mg→mg d.name = some (.ref fa) →
      ∃ fd : FuncData,(∀ (s : Shared) (u : Value),BindsTo s fd ⟨[u],[]⟩ [(x,u)])∧∀ base : Heap,(K w.params).In base→base.Ns mainGlobals mg→FnOk l.prog w (K w.params) mg base CX0 k fa fd [x] (spM (K w.params) false [.sh] F)) :
    PySem.W.WalkO q loose XP YP l.row.toRowW d [] (fun f vs => PySem.call f vs) := by
  refine L2.walk_of (n := 63) (k := k) (x := x) (CX := fun _ => CX0) (sp := fun w => spM (K w.params) false [.sh] F) hn (by decide) hdf hr hY C (fun w H a ns hl hO hS => ?_) fun _ _ _ _ _ z => z
  have intsP : ∀ (l : List Int),Paired Scl (l.map V.int) (l.map D.int) := fun l => by
    induction l with
    | nil => exact .nil
    | cons i l ih => exact .cons (.int i) ih
  rcases hS with hS | hS
  · refine ⟨fun b => if b = a then some (.lst (ns.map D.int)) else none,[.lst (ns.map .int)],fun b d' hb => ?_,.sh (.ref (if_pos rfl)) .nil,?_⟩
    · by_cases e : b = a
      · subst e
        have hb' : some (D.lst (ns.map D.int)) = some d' := (if_pos rfl).symm.trans hb
        cases hb'
        exact .lst hS (Paired.mono (fun _ _ z => .scl z) (intsP ns))
      · have hb' : (none : Option D) = some d' := (if_neg e).symm.trans hb
        cases hb'
    · rw [hF ns hl]
      intro v G' H' w' rv
      exact rv.bl w'.ok
  · refine ⟨fun _ => none,[.lst (ns.map .int)],fun b d' hb => (by cases hb),.sh (.kc (.lst (.inr hS) (intsP ns))) .nil,?_⟩
    rw [hF ns hl]
    intro v G' H' w' rv
    exact rv.bl w'.ok
end DL
end
section
namespace DL
open PySem PySem.Spec PyProof.Rows L2
open AutoSeq1 (wpAny_loadPart')
section
variable {prog : Program} {w : World} {A : Around} {E : Value → Shared → Prop} {s : Shared}
theorem zcu {it t : Addr} {i : Nat} {items} {x : Value} {Q : Value→Shared→Prop} (hit : s.heap.IsTupleIter it t i) (ht : s.heap.IsTuple t items) (hx : items[i]? = some x)
    (hQ : ∀ h',h'.IsTupleIter it t (i + 1)→Heap.SameBut it s.heap h'→Q x { s with heap := h' }) : wpAny (model prog w) A (Builtin.SmallTypes.nextOf (.ref it)) Q E s := by
  obtain ⟨o,ho,hc,hd⟩ := id hit
  obtain ⟨ol,hol,_,nl,hdl⟩ := ht
  unfold Builtin.SmallTypes.nextOf
  refine wpAny_bind (wpAny_callSpecial?_slot (name := Str.ofString "__next__") hit.typeIs F.slot_tuple_iterator_next
    (wpAny_call_entry F.slot_tuple_iterator_next hit.typeIs F.entry_tuple_iterator_next ?_ (F.args_tuple_iterator_next_1 _)))
  show wpAny _ _ (field (.ref it) 0 >>= _) _ _ s
  refine wpAny_bind (wpAny_field ho hd (x := .ref t) rfl ?_)
  show wpAny _ _ (if (Value.ref t == Value.none) = true then _ else _) _ _ s
  rw [if_neg (show ¬ ((Value.ref t == Value.none) = true) from Bool.false_ne_true)]
  show wpAny _ _ (field (.ref it) 1 >>= _) _ _ s
  refine wpAny_bind (wpAny_field ho hd (x := .int i 0) rfl ?_)
  show wpAny _ _ (seqItems? (.ref t) >>= _) _ _ s
  refine wpAny_bind (wpAny_seqItems hol hdl ?_)
  simp only [Int.toNat_natCast,hx]
  refine wpAny_bind (wpAny_setField ho hd (by simp) (wpAny_pure ⟨x,rfl,wpAny_pure (hQ _ ?_ (Heap.SameBut.update ..))⟩))
  exact ⟨_,Heap.get?_update_self _ ho (Obj.isFreed_of_fields (Obj.data_mapFields hd _)),(Obj.cls_mapFields ..).trans hc,by
    rw [Obj.data_mapFields hd]; simp [rawInt]⟩
theorem zcL {it t : Addr} {i : Nat} {items} {Q : Value→Shared→Prop} (hh : A.handled = none) (hit : s.heap.IsTupleIter it t i) (ht : s.heap.IsTuple t items) (hx : items[i]? = none)
    (hE : ∀ h' e,Heap.ExtBut it s.heap h'→(∃ o,h'.get? e = some o∧o.cls = .type "StopIteration")→E (.ref e) { s with heap := h' }) : wpAny (model prog w) A (Builtin.SmallTypes.nextOf (.ref it)) Q E s := by
  obtain ⟨o,ho,hc,hd⟩ := id hit
  obtain ⟨ol,hol,_,nl,hdl⟩ := ht
  unfold Builtin.SmallTypes.nextOf
  refine wpAny_bind (wpAny_callSpecial?_slot (name := Str.ofString "__next__") hit.typeIs F.slot_tuple_iterator_next
    (wpAny_call_entry F.slot_tuple_iterator_next hit.typeIs F.entry_tuple_iterator_next ?_ (F.args_tuple_iterator_next_1 _)))
  show wpAny _ _ (field (.ref it) 0 >>= _) _ _ s
  refine wpAny_bind (wpAny_field ho hd (x := .ref t) rfl ?_)
  show wpAny _ _ (if (Value.ref t == Value.none) = true then _ else _) _ _ s
  rw [if_neg (show ¬ ((Value.ref t == Value.none) = true) from Bool.false_ne_true)]
  show wpAny _ _ (field (.ref it) 1 >>= _) _ _ s
  refine wpAny_bind (wpAny_field ho hd (x := .int i 0) rfl ?_)
  show wpAny _ _ (seqItems? (.ref t) >>= _) _ _ s
  refine wpAny_bind (wpAny_seqItems hol hdl ?_)
  simp only [Int.toNat_natCast,hx]
  refine wpAny_bind (wpAny_rule (wpAny_bind (wpAny_setField ho hd (by simp) ?_)))
  show wpAny _ _ (newExc (.type "StopIteration") [] >>= _) _ _ _
  refine wpAny_bind ?_
  simp only [newExc,newTuple]
  refine wpAny_bind (wpAny_newObj_type ?_ (by size_fits))
  refine wpAny_bind (m := firstArgMember _ _) (wpAny_of_eq (a := Value.none) (by first | rfl | (simp only [firstArgMember]; rfl)) ?_)
  refine wpAny_newObj_type ?_ (by size_fits)
  simp only [raiseNew]
  refine wpAny_bind (wpAny_handled ?_)
  first | rw [show A.in1.handled = none from hh] | rw [hh]
  refine wpAny_bind (wpAny_pure (wpAny_throw ?_))
  exact hE _ _ (((Heap.SameBut.update ..).extBut.push _).push _) ⟨_,Heap.get?_push_size _ rfl,rfl⟩
end
theorem ziF {prog : Program} {w : World} {A : Around} (hh : A.handled = none) (it l : Addr) (hne : l≠it) (items : Array Value) :
    Draws prog w A it [it,l] items.size (fun i v => items[i]? = some v) (fun i h => h.IsTupleIter it l i∧h.IsTuple l items) where
  live := fun _ _ st => let ⟨o,ho,_⟩ := st.1; ⟨o,ho⟩
  frame := fun _ _ _ st hk => ⟨let ⟨o,ho,r⟩ := st.1; ⟨o,hk it (by simp) o ho,r⟩,let ⟨o,ho,r⟩ := st.2; ⟨o,hk l (by simp) o ho,r⟩⟩
  item := fun i s Q E hi st hQ => by
    refine zcu st.1 st.2 (x := items[i]) (by simp [hi]) fun h' hit' hs' => ?_
    exact hQ _ h' s.toks (by simp [hi]) ⟨hit',st.2.extBut hs'.extBut hne⟩ hs'
  done := fun s Q E st hE => zcL hh st.1 st.2 (by simp) hE
theorem zc6 (l : Addr) (items : Array Value) (n : Nat) (dct : Option Addr) (sl : Array (Option Value)) :
    Meets (Builtin.«enumerate.__new__» ⟨[.type "enumerate",.ref l],[]⟩) (fun _ R s => s.heap.get? l = some { cls := .type "tuple",dict := dct,data := .seq items n,slots := sl } ∧
      R (.ok (.ret (.ref (s.heap.push { cls := .type "tuple_iterator",data := .fields #[.ref l,.int 0 0] }).objs.size)))
        { s with heap := (s.heap.push { cls := .type "tuple_iterator",data := .fields #[.ref l,.int 0 0] }).push { cls := .type "enumerate",data := .fields #[.none,.bool false,.ref s.heap.objs.size,rawInt 0,.none,.none] } }) :=
  .of_wp fun prog w A R s h => by
    obtain ⟨hp,g,d,tk,os⟩ := s; obtain ⟨hl,h⟩ := h
    have hsub := sub_enumerate
    have hL : Heap.IsTuple (Shared.heap ⟨hp,g,d,tk,os⟩) l items := ⟨_,hl,rfl,n,rfl⟩
    wp_walk using wpAny_loadPart' hl
    refine wpAny_stack_any fun st => wpAny_pure ?_
    split
    · rename_i c _ _ _ _ _
      cases (c == Value.type "enumerate")
      · wp_walk using wpAny_loadPart' hl,wpAny_pyIter_tuple hL
        exact ⟨_,rfl,h⟩
      · wp_walk using wpAny_loadPart' hl,wpAny_pyIter_tuple hL
        exact ⟨_,rfl,h⟩
    · wp_walk using wpAny_loadPart' hl,wpAny_pyIter_tuple hL
      exact ⟨_,rfl,h⟩
section
variable {prog : Program} {w : World} {A : Around} {E : Value → Shared → Prop} {s : Shared}
theorem zdg {l : Addr} {items : Array Value} {Q : Value→Shared→Prop} (hL : s.heap.IsTuple l items)
    (h : ∀ h',IsEnum h' (s.heap.objs.size + 1) s.heap.objs.size 0 .none→h'.IsTupleIter s.heap.objs.size l 0→h'.objs.size = s.heap.objs.size + 2 →
      (∀ b o,s.heap.get? b = some o→h'.get? b = some o)→Q (.ref (s.heap.objs.size + 1)) { s with heap := h' }) :
    wpAny (model prog w) A (call (.type "enumerate") [.ref l]) Q E s := by
  obtain ⟨⟨c,dct,dt,sl⟩,hl,hc,n,hd⟩ := hL
  replace hc : c = .type "tuple" := hc
  replace hd : dt = .seq items n := hd
  subst hc hd
  refine callType_new F.called_enumerate (by decide) (F.typeCall_enumerate_1 _) (F.newCall_enumerate_1 _) (fun obj => F.args_object_init_2 obj _) F.entry_enumerate_new
    (zc6 l items n dct sl) ⟨hl,?_⟩
  have hz : (s.heap.push { cls := .type "tuple_iterator",data := .fields #[.ref l,.int 0 0] }).objs.size = s.heap.objs.size + 1 := Heap.size_push ..
  show _∧_
  rw [hz]
  have he : IsEnum ((s.heap.push { cls := .type "tuple_iterator",data := .fields #[.ref l,.int 0 0] }).push
      { cls := .type "enumerate",data := .fields #[.none,.bool false,.ref s.heap.objs.size,rawInt 0,.none,.none] }) (s.heap.objs.size + 1) s.heap.objs.size 0 .none := by
    have := Heap.get?_push_size (s.heap.push { cls := .type "tuple_iterator",data := .fields #[.ref l,.int 0 0] })
      (o := { cls := .type "enumerate",data := .fields #[.none,.bool false,.ref s.heap.objs.size,rawInt 0,.none,.none] }) rfl
    rw [hz] at this; exact this
  refine ⟨⟨_,he,rfl⟩,h _ he ⟨_,Heap.get?_push_of_some _ (Heap.get?_push_size _ rfl),rfl,rfl⟩ (by rw [Heap.size_push,hz]) fun b o x => Heap.get?_push_of_some _ (Heap.get?_push_of_some _ x)⟩
end
theorem ze6 {X : Cx} {pins : List (Addr × Obj)} {σ : L2.St} {H : Hp} {s : Shared} {h' : Heap} {ch : List Addr} {T : Addr} {o : HO} {t' : Nat} (I : Inv X pins σ H s)
    (hch : ∀ b∈ch,FpOk X pins H b) (k : ∀ b ob,b∉ch→s.heap.get? b = some ob→h'.get? b = some ob) (hT : s.heap.objs.size≤T) (new : zaP X.prog X.w (upd H T o) h' T o) : Inv X pins σ (upd H T o) { s with heap := h',toks := t' } := by
  have hTn : H T = none := I.hok.fresh hT
  have trk : ∀ b u,H b = some u→b∉ch := fun b u e hb => by rw [(hch b hb).1] at e; cases e
  have neT : ∀ b ob,s.heap.get? b = some ob→b≠T := fun b ob e => Nat.ne_of_lt (Nat.lt_of_lt_of_le (Heap.lt_size e) hT)
  have keepU : ∀ b u,H b = some u→upd H T o b = some u := fun b u e => by rw [zae (za0 e hTn)]; exact e
  refine I.step (g' := s.gens) (d' := s.drawn) (ch := ch) (fun b hb => ?_) (fun b ob _ _ hc e _ => k b ob hc e) (fun b ob _ _ hc e _ => ⟨ob.slots,k b ob hc e⟩) (fun b ob hc e n => by rw [zae (neT b ob e)]; exact n)
    (fun b ob hc e => ⟨ob,k b ob hc e⟩) (fun b xs e => keepU b _ e) (fun b ob u e => keepU b _ e) (fun b ps e => ⟨#[],by rw [keepU b _ e]; simp⟩) (fun m hm => ?_) (fun b u e => ?_) I.bare
  · obtain ⟨z0,z1,z2,z3,z4,z5⟩ := hch b hb
    exact ⟨z3,z1,z4,z5⟩
  · obtain ⟨ob,es,ep,ho,r⟩ := hm
    exact ⟨ob,es,ep,k _ ob (fun hb => (hch _ hb).2.1 rfl) ho,r⟩
  · by_cases hb : b = T
    · subst hb
      rw [zag] at e
      cases e
      exact new
    · rw [zae hb] at e
      refine (I.hok b u e).stay (fun c v hc q => k c v ?_ q) (fun c q => keepU c _ q) fun c xs q => keepU c _ q
      rcases hc with z | z
      · rw [z]; exact trk b u e
      · exact trk c _ z
noncomputable def Ien (sq : Hp→List V→Prop) : It :=
  ⟨fun i H => ∃ xs x,sq H xs∧xs[i]? = some x,fun i H x H' => ∃ p v,H p = none∧x = .ref p∧H' = upd H p (.tup [.int i,v])∧∀ xs,sq H xs→xs[i]? = some v,fun i H => ∃ xs,sq H xs∧xs.length = i⟩
theorem zf6 {P : Program} {w : World} {H : Hp} {h : Heap} {T : Addr} {i : Nat} {tk : Tok} {x : Value} {v : V} (hT : h.get? T = some { cls := .type "tuple",data := .seq #[.int i tk,x] }) (r : L2.RelV v x) : zaP P w H h T (.tup [.int i,v]) :=
  ⟨by show 2≤sizeLine; decide,[.int i tk,x],.cons ⟨tk,rfl⟩ (.cons r .nil),⟨_,hT,rfl,0,rfl⟩,_,hT,rfl⟩
theorem zfr {P : Program} {w : World} {K : PySem.W.Frag} {elts : List Expr} {k : Nat} {pos : Pos} (a it e : Addr) (hei : e≠it) : Turn P w K (.Tuple elts k pos) (Ien fun H xs => SqL K H a xs) [e,it] e (fun i h => (∃ old,IsEnum h e it i old)∧h.IsListIter it a i) where
  mem := by simp
  obj := fun i h st b hb => by
    obtain ⟨⟨old,he⟩,o,ho,hc,hd⟩ := st
    rcases List.mem_cons.mp hb with rfl | hb
    · exact ⟨_,he,fun v z => by have z' : Data.fields _ = Data.cell v := z; cases z'⟩
    · rw [List.mem_singleton.mp hb]
      exact ⟨o,ho,fun v z => by rw [hd] at z; cases z⟩
  keep := fun i h h' st kk => by
    obtain ⟨⟨old,he⟩,hi⟩ := st
    exact ⟨⟨old,kk e (by simp) _ he⟩,hi.at fun o q => kk it (by simp) o q⟩
  item := by
    intro X hP hw hK hc i pins s σ H E I hf st hg
    subst hP hw hK
    obtain ⟨xs,x,hq,hx⟩ := hg
    obtain ⟨its,rv,p,hz⟩ := I.list hq
    obtain ⟨⟨old,he⟩,hi⟩ := st
    obtain ⟨o1,ho1,hc1,hd1⟩ := id hi
    obtain ⟨o2,ho2,hc2,_⟩ := id p.isList
    have hai : a≠it := by rintro rfl; rw [ho1] at ho2; cases ho2; rw [hc1] at hc2; exact absurd hc2 (by decide)
    have hea : e≠a := by rintro rfl; rw [he] at ho2; cases ho2; exact absurd (show Value.type "enumerate" = _ from hc2) (by decide)
    have hlt : i < its.toArray.size := by
      have := (List.getElem?_eq_some_iff.mp hx).1
      rw [List.size_toArray,← rv.length]; exact this
    refine wpAny_pyNext_enum_itemD (Draws.list (A := X.A.in1) (show X.A.in1.handled = none from I.ok.hd hc) it a hai its.toArray) he ⟨hi,p.isList⟩ hlt hei (by simp [hei,hea]) fun y h' tk hP ho hs' hT hsz hk => ?_
    refine ⟨_,rfl,wpAny_letOwnedTupleGo_enum ho fun h'' he'' hs'' => ?_⟩
    obtain ⟨u,hu,ru⟩ := rv.get hx
    have hy : y = u := by
      have : its[i]? = some y := by simpa using hP
      rw [hu] at this; exact (Option.some.inj this).symm
    subst hy
    have hTe : s.heap.objs.size≠e := Nat.ne_of_gt (Heap.lt_size he)
    have hT'' : h''.get? s.heap.objs.size = some { cls := .type "tuple",data := .seq #[.int i tk,y] } := (hs''.2 _ hTe).trans hT
    refine ⟨.ref s.heap.objs.size,upd H s.heap.objs.size (.tup [.int i,x]),ze6 (s := s) (h' := h'') (t' := tk + 1) (ch := [e,it]) I hf (fun b ob hb q => ?_) (Nat.le_refl _) (zf6 hT'' ru),rfl,⟨_,x,I.hok.fresh (Nat.le_refl _),rfl,rfl,fun ys hy => by rw [I.list_inj hy hq]; exact hx⟩,⟨⟨_,by simpa using he''⟩,hs'.1.extBut hs''.extBut (Ne.symm hei)⟩,fun b hb => ?_⟩
    · have hbe : b≠e := fun z => hb (by simp [z])
      exact (hs''.2 b hbe).trans (hk b ob hbe (fun z => hb (by simp [z])) q)
    · rw [zae ?_]
      · exact (hf b hb).1
      · rcases List.mem_cons.mp hb with rfl | hb
        · exact Nat.ne_of_lt (Heap.lt_size he)
        · rw [List.mem_singleton.mp hb]; exact Nat.ne_of_lt (Heap.lt_size ho1)
  done := by
    intro X hP hw hK hc i pins s σ H E I hf st hg
    subst hP hw hK
    obtain ⟨xs,hq,hx⟩ := hg
    obtain ⟨its,rv,p,hz⟩ := I.list hq
    obtain ⟨⟨old,he⟩,hi⟩ := st
    obtain ⟨o1,ho1,hc1,hd1⟩ := id hi
    obtain ⟨o2,ho2,hc2,_⟩ := id p.isList
    have hai : a≠it := by rintro rfl; rw [ho1] at ho2; cases ho2; rw [hc1] at hc2; exact absurd hc2 (by decide)
    obtain ⟨f0,f1,f2,f3,f4,f5⟩ := hf it (by simp)
    have hn : its.toArray.size = i := by rw [List.size_toArray,← rv.length]; exact hx
    refine wpAny_pyNext_enum_endD (Draws.list (A := X.A.in1) (show X.A.in1.handled = none from I.ok.hd hc) it a hai its.toArray) he ⟨by rw [hn]; exact hi,p.isList⟩ fun h' eb => ⟨rfl,I.turned (t' := s.toks) (fun b o hb q => eb b o hb q) f0 f1 f3 f4 f5⟩
  self := fun _ _ _ _ _ st h => let ⟨⟨_,he⟩,_⟩ := st; wpAny_pyIter_enum he h
theorem IsTupleIter.at' {h h' : Heap} {a t : Addr} {i : Nat} (x : h.IsTupleIter a t i) (hs : ∀ o,h.get? a = some o→h'.get? a = some o) : h'.IsTupleIter a t i := let ⟨o,ho,r⟩ := x; ⟨o,hs o ho,r⟩
theorem zfq {P : Program} {w : World} {K : PySem.W.Frag} {elts : List Expr} {k : Nat} {pos : Pos} (a it e : Addr) (hei : e≠it) : Turn P w K (.Tuple elts k pos) (Ien fun H xs => SqT K H a xs) [e,it] e (fun i h => (∃ old,IsEnum h e it i old)∧h.IsTupleIter it a i) where
  mem := by simp
  obj := fun i h st b hb => by
    obtain ⟨⟨old,he⟩,o,ho,hc,hd⟩ := st
    rcases List.mem_cons.mp hb with rfl | hb
    · exact ⟨_,he,fun v z => by have z' : Data.fields _ = Data.cell v := z; cases z'⟩
    · rw [List.mem_singleton.mp hb]
      exact ⟨o,ho,fun v z => by rw [hd] at z; cases z⟩
  keep := fun i h h' st kk => by
    obtain ⟨⟨old,he⟩,hi⟩ := st
    exact ⟨⟨old,kk e (by simp) _ he⟩,IsTupleIter.at' hi fun o q => kk it (by simp) o q⟩
  item := by
    intro X hP hw hK hc i pins s σ H E I hf st hg
    subst hP hw hK
    obtain ⟨xs,x,hq,hx⟩ := hg
    obtain ⟨its,rv,p,hz⟩ := I.tuple hq
    obtain ⟨⟨old,he⟩,hi⟩ := st
    obtain ⟨o1,ho1,hc1,hd1⟩ := id hi
    obtain ⟨o2,ho2,hc2,_⟩ := id p
    have hai : a≠it := by rintro rfl; rw [ho1] at ho2; cases ho2; rw [hc1] at hc2; exact absurd hc2 (by decide)
    have hea : e≠a := by rintro rfl; rw [he] at ho2; cases ho2; exact absurd (show Value.type "enumerate" = _ from hc2) (by decide)
    have hlt : i < its.toArray.size := by
      have := (List.getElem?_eq_some_iff.mp hx).1
      rw [List.size_toArray,← rv.length]; exact this
    refine wpAny_pyNext_enum_itemD (ziF (A := X.A.in1) (show X.A.in1.handled = none from I.ok.hd hc) it a hai its.toArray) he ⟨hi,p⟩ hlt hei (by simp [hei,hea]) fun y h' tk hP ho hs' hT hsz hk => ?_
    refine ⟨_,rfl,wpAny_letOwnedTupleGo_enum ho fun h'' he'' hs'' => ?_⟩
    obtain ⟨u,hu,ru⟩ := rv.get hx
    have hy : y = u := by
      have : its[i]? = some y := by simpa using hP
      rw [hu] at this; exact (Option.some.inj this).symm
    subst hy
    have hTe : s.heap.objs.size≠e := Nat.ne_of_gt (Heap.lt_size he)
    have hT'' : h''.get? s.heap.objs.size = some { cls := .type "tuple",data := .seq #[.int i tk,y] } := (hs''.2 _ hTe).trans hT
    refine ⟨.ref s.heap.objs.size,upd H s.heap.objs.size (.tup [.int i,x]),ze6 (s := s) (h' := h'') (t' := tk + 1) (ch := [e,it]) I hf (fun b ob hb q => ?_) (Nat.le_refl _) (zf6 hT'' ru),rfl,⟨_,x,I.hok.fresh (Nat.le_refl _),rfl,rfl,fun ys hy => by rw [I.tuple_inj hy hq]; exact hx⟩,⟨⟨_,by simpa using he''⟩,hs'.1.extBut hs''.extBut (Ne.symm hei)⟩,fun b hb => ?_⟩
    · have hbe : b≠e := fun z => hb (by simp [z])
      exact (hs''.2 b hbe).trans (hk b ob hbe (fun z => hb (by simp [z])) q)
    · rw [zae ?_]
      · exact (hf b hb).1
      · rcases List.mem_cons.mp hb with rfl | hb
        · exact Nat.ne_of_lt (Heap.lt_size he)
        · rw [List.mem_singleton.mp hb]; exact Nat.ne_of_lt (Heap.lt_size ho1)
  done := by
    intro X hP hw hK hc i pins s σ H E I hf st hg
    subst hP hw hK
    obtain ⟨xs,hq,hx⟩ := hg
    obtain ⟨its,rv,p,hz⟩ := I.tuple hq
    obtain ⟨⟨old,he⟩,hi⟩ := st
    obtain ⟨o1,ho1,hc1,hd1⟩ := id hi
    obtain ⟨o2,ho2,hc2,_⟩ := id p
    have hai : a≠it := by rintro rfl; rw [ho1] at ho2; cases ho2; rw [hc1] at hc2; exact absurd hc2 (by decide)
    obtain ⟨f0,f1,f2,f3,f4,f5⟩ := hf it (by simp)
    have hn : its.toArray.size = i := by rw [List.size_toArray,← rv.length]; exact hx
    refine wpAny_pyNext_enum_endD (ziF (A := X.A.in1) (show X.A.in1.handled = none from I.ok.hd hc) it a hai its.toArray) he ⟨by rw [hn]; exact hi,p⟩ fun h' eb => ⟨rfl,I.turned (t' := s.toks) (fun b o hb q => eb b o hb q) f0 f1 f3 f4 f5⟩
  self := fun _ _ _ _ _ st h => let ⟨⟨_,he⟩,_⟩ := st; wpAny_pyIter_enum he h
end DL
end
section
namespace DL
open PySem PySem.Spec PyProof.Rows L2
noncomputable def tyN : D→Option String
  | .non => some "NoneType"
  | .bl _ => some "bool"
  | .int _ => some "int"
  | .str _ => some "str"
  | .tup _ => some "tuple"
  | .lst _ => some "list"
  | .dic _ => some "dict"
  | .obj _ _ => none
noncomputable def subT (t T : String) : Bool := t == T || (t == "bool" && T == "int")
noncomputable def isiD (T : String) (d : D) : Option D := (tyN d).map fun t => .bl (subT t T)
noncomputable def TyD (K : PySem.W.Frag) (x : V) (H : Hp) (t : String) : Prop := match x with
  | .non => t = "NoneType"
  | .bl _ => t = "bool"
  | .int _ => t = "int"
  | .str _ => t = "str"
  | .ref p => (t = "list"∧∃ xs,SqL K H p xs)∨(t = "tuple"∧∃ xs,SqT K H p xs)∨(t = "dict"∧∃ kvs,Rd H p (.dK kvs))
  | _ => False
theorem zj3 {K : PySem.W.Frag} {G : GH} {H : Hp} {v : V} {d : D} {t : String} (gk : GOk K G H) (h : RB K G H v d) (e : tyN d = some t) : TyD K v H t := by
  cases d with
  | non => cases e; rw [h.non gk]; rfl
  | bl b => cases e; rw [h.bl gk]; rfl
  | int i => cases e; rw [h.int gk]; rfl
  | str x => cases e; rw [h.str gk]; rfl
  | tup ds => cases e; obtain ⟨a,xs,rfl,s,r⟩ := h.tup gk; exact .inr (.inl ⟨rfl,xs,s⟩)
  | lst ds => cases e; obtain ⟨a,xs,rfl,s,r⟩ := h.lst gk; exact .inl ⟨rfl,xs,s⟩
  | dic ds => cases e; obtain ⟨a,xs,rfl,s,r⟩ := h.dic gk; exact .inr (.inr ⟨rfl,xs,s⟩)
  | obj _ _ => cases e
section
variable {X : Cx} {g : GE} {m : List Md} {e a : Expr} {f : FE} {pos p p2 : Pos}
theorem zh0 : zbR X (.builtin "isinstance") (fun xs H Q => ∃ x t T b,xs = [x,.ty T]∧TyD X.K x H t∧PySem.W.kitOne X.K (.type t) (.type T) = some b∧Q (.bl b) H) := by
  intro pins s σ H xs us Q I r h
  obtain ⟨x,t,T,b,rfl,ty,e,q⟩ := h
  obtain ⟨u,w',rfl,rx,ry⟩ := zfJ r
  cases ry
  have fin : ∀ tk,EP X pins σ Q (.bool b) { s with toks := tk } := fun tk => ⟨.bl b,H,I.tok tk,rfl,q⟩
  cases x with
  | non => cases rx; cases (show t = "NoneType" from ty); exact PySem.W.kia_one PySem.W.kitx_none I.kIn True.intro e (fun z => nomatch z) fin
  | bl y => cases rx; cases (show t = "bool" from ty); exact PySem.W.kia_one PySem.W.kitx_bool I.kIn True.intro e (fun z => nomatch z) fin
  | int i => obtain ⟨t,rfl⟩ := rx; cases ty; exact PySem.W.kia_one PySem.W.kitx_int I.kIn True.intro e (fun z => nomatch z) fin
  | str i => obtain ⟨t,rfl⟩ := rx; cases ty; exact PySem.W.kia_one PySem.W.kitx_str I.kIn True.intro e (fun z => nomatch z) fin
  | ref p =>
    cases rx
    rcases ty with ⟨rfl,xs,hq⟩ | ⟨rfl,xs,hq⟩ | ⟨rfl,kvs,hq⟩
    · obtain ⟨its,_,pl,_⟩ := I.list hq
      obtain ⟨o,ho,hc,_⟩ := pl.isList
      exact PySem.W.kia_one PySem.W.kitx_list I.kIn ⟨o,ho,hc⟩ e (fun z => nomatch z) fin
    · obtain ⟨its,_,pl,_⟩ := I.tuple hq
      obtain ⟨o,ho,hc,_⟩ := pl
      exact PySem.W.kia_one PySem.W.kitx_tuple I.kIn ⟨o,ho,hc⟩ e (fun z => nomatch z) fin
    · obtain ⟨_,_,vs,_,pp⟩ := (show zaP X.prog X.w H s.heap p (.dK kvs) from hq.ok I.hok)
      obtain ⟨o,es,ep,h1,h2,_⟩ := pp
      exact PySem.W.kia_one PySem.W.kitx_dict I.kIn ⟨o,h1,h2.1⟩ e (fun z => nomatch z) fin
  | _ => exact (show False from ty).elim
theorem zew (x : Str) (T : String) (hv : bootBuiltins x = some (.type T)) (hk : ∀ (d : D) (t : String),tyN d = some t→PySem.W.kitOne X.K (.type t) (.type T) = some (subT t T)) (hg : Gl X "isinstance") (hm : X.mg "isinstance" = none) (hgT : Gl X x) (hmT : X.mg x = none) (he : SB X g m e f)
    (hn : x≠"__name__" := by decide) (hd : (x == ("__debug__" : Str)) = false := by decide) (hs1 : starEach [e,.Name x p2] X.env = (false,eval e X.env)::starEach [.Name x p2] X.env := by rfl) (hs2 : starEach [.Name x p2] X.env = (false,eval (.Name x p2) X.env)::starEach [] X.env := by rfl)
    (hpl : (backTo pos (starEach [.Name x p2] X.env)).any (·.1) = false := by rfl) :
    SE X g m (.Call (.Name "isinstance" p) [e,.Name x p2] [] pos) (f1 f (isiD T)) := by
  refine PE.imp (zck zh0 hg hm (by first | exact PyProof.Rows.boot_isinstance | rfl) (zaO he (zaO (zf4 (v := .ty T) hgT hmT hv rfl hn hd) zb3 hs2) hs1) (by decide) (by decide) hs1 hpl) fun σ H Q ⟨r,G,si,q⟩ => ⟨r,G,si,zac (zad q) fun d q1 v G1 H1 w1 r1 => ?_⟩
  obtain ⟨d',e',q2⟩ := zat q1
  unfold isiD at e'
  cases et : tyN d with
  | none => rw [et] at e'; cases e'
  | some t =>
    rw [et] at e'
    cases e'
    exact ⟨v,t,T,_,rfl,zj3 w1.ok r1 et,hk d t et,q2 _ G1 H1 w1 (.scl (.bl _))⟩
end
theorem zcX {d : D} {t : String} (h : tyN d = some t) {P : String→Prop} (h1 : P "NoneType") (h2 : P "bool") (h3 : P "int") (h4 : P "str") (h5 : P "tuple") (h6 : P "list") (h7 : P "dict") : P t := by
  cases d <;> cases h <;> assumption
theorem zgk (K : PySem.W.Frag) (d : D) (t : String) (h : tyN d = some t) : PySem.W.kitOne K (.type t) (.type "int") = some (subT t "int") := zcX (P := fun t => PySem.W.kitOne K (.type t) (.type "int") = some (subT t "int")) h (by kernel_rfl) (by kernel_rfl) (by kernel_rfl) (by kernel_rfl) (by kernel_rfl) (by kernel_rfl) (by kernel_rfl)
theorem zcV (K : PySem.W.Frag) (d : D) (t : String) (h : tyN d = some t) : PySem.W.kitOne K (.type t) (.type "bool") = some (subT t "bool") := zcX (P := fun t => PySem.W.kitOne K (.type t) (.type "bool") = some (subT t "bool")) h (by kernel_rfl) (by kernel_rfl) (by kernel_rfl) (by kernel_rfl) (by kernel_rfl) (by kernel_rfl) (by kernel_rfl)
theorem zhG (K : PySem.W.Frag) (d : D) (t : String) (h : tyN d = some t) : PySem.W.kitOne K (.type t) (.type "list") = some (subT t "list") := zcX (P := fun t => PySem.W.kitOne K (.type t) (.type "list") = some (subT t "list")) h (by kernel_rfl) (by kernel_rfl) (by kernel_rfl) (by kernel_rfl) (by kernel_rfl) (by kernel_rfl) (by kernel_rfl)
section
variable {X : Cx} {g : GE} {m : List Md} {e a b : Expr} {f fa : FE} {pos p pos2 p2 : Pos} {es : List Expr} {fl : Rho → Res (List D)}
noncomputable def rngV (lo : Int) (n : Nat) : List V := (List.range n).map fun (i : Nat) => V.int (lo + (i : Int))
theorem zkp {K : PySem.W.Frag} {G : GH} (lo : Int) (n : Nat) : RGs K G (rngV lo n) (rngD lo n) := by
  unfold rngV rngD
  induction (List.range n) with
  | nil => exact .nil
  | cons i l ih => exact .cons (.scl (.int _)) ih
theorem zcb : ∀ {xs : List V} {us : List Value},xs.length = us.length→(∀ (j : Nat) v u,xs[j]? = some v→us[j]? = some u→L2.RelV v u)→Vals xs us
  | [],[],_,_ => .nil
  | v::xs,u::us,hl,h => .cons (h 0 v u rfl rfl) (zcb (by simpa using hl) fun j a b e1 e2 => h (j + 1) a b (by simpa using e1) (by simpa using e2))
  | [],_::_,hl,_ => by simp at hl
  | _::_,[],hl,_ => by simp at hl
theorem zhd {lo : Int} {n : Nat} {acc : Array Value} (h : ItemsOf (fun i v => ∃ t,v = .int (lo + i * 1) t) acc n) : Vals (rngV lo n) acc.toList := by
  refine zcb (by simp [rngV,h.1]) fun j v u e1 e2 => ?_
  have hj : j < n := by
    have := (List.getElem?_eq_some_iff.mp e1).1
    simpa [rngV] using this
  unfold rngV at e1
  rw [List.getElem?_map,List.getElem?_range hj] at e1
  cases e1
  obtain ⟨t,rfl⟩ := h.2 j u (by rw [← Array.getElem?_toList]; exact e2)
  exact ⟨t,by simp⟩
theorem zgS : zbR X (.type "range") (fun xs H Q => ∃ j,xs = [.int j]∧∀ p,H p = none→Q (.ref p) (upd H p (.rng 0 j))) := by
  intro pins s σ H xs us Q I r h
  obtain ⟨j,rfl,q⟩ := h
  obtain ⟨u,rfl,t,rfl⟩ := zdU r
  refine call_range_1 ⟨.ref s.heap.objs.size,_,I.laid (o := .rng 0 j) (fun b o e => Heap.get?_push_of_some _ e) (Nat.le_refl _) ⟨_,_,_,Heap.get?_push_size _ rfl⟩,rfl,q _ (I.hok.fresh (Nat.le_refl _))⟩
theorem zdO (hc : X.calm = true) : zbR X (.type "list") (fun xs H Q => ∃ p lo hi,xs = [.ref p]∧H p = some (.rng lo hi)∧(-(2 ^ 62)≤lo∧lo < 2 ^ 62∧-(2 ^ 62)≤hi∧hi < 2 ^ 62)∧(hi - lo).toNat≤sizeLine∧∀ l,H l = none→Q (.ref l) (upd H l (.lst (rngV lo (hi - lo).toNat)))) := by
  intro pins s σ H xs us Q I r h
  obtain ⟨p,lo,hi,rfl,hp,⟨h1,h2,h3,h4⟩,hz,q⟩ := h
  obtain ⟨u,rfl,rx⟩ := zdU r
  cases rx
  obtain ⟨t,u,v,ho⟩ := (show zaP X.prog X.w H s.heap p (.rng lo hi) from I.hok p _ hp)
  have e2 : Builtin.Range.rangeSize lo hi 1 = (((hi - lo).toNat : Nat) : Int) := by rw [rangeSize_one]; split <;> omega
  refine call_list_range (I.ok.hd hc) (r := p) (a := lo) (b := hi) (c := 1) ho (small_one h1 h2 h3 h4) e2 (by rw [sizeLine_eq] at hz; omega) fun h' tk acc c' kp hS hacc => ?_
  refine ⟨.ref s.heap.objs.size,_,I.laid (t' := tk) kp (Nat.le_refl _) (show zaP X.prog X.w _ h' _ (.lst (rngV lo (hi - lo).toNat)) from ⟨by unfold rngV; rw [List.length_map,List.length_range]; exact hz,acc.toList,c',zhd hacc,by rw [Array.toArray_toList]; exact hS⟩),rfl,q _ (I.hok.fresh (Nat.le_refl _))⟩
noncomputable def zdI : List D→Option D
  | [.int j] => if -(2 ^ 62)≤j∧j < 2 ^ 62∧j.toNat≤sizeLine then some (.lst (rngD 0 j.toNat)) else none
  | _ => none
theorem zlB {H : Hp} {p l : Addr} {o : HO} (h : upd H p o l = none) : H l = none∧l≠p := by
  by_cases e : l = p
  · subst e; rw [zag] at h; cases h
  · rw [zae e] at h; exact ⟨h,e⟩
theorem zc4 (hc : X.calm = true) (hgl : Gl X "list") (hml : X.mg "list" = none) (hg : Gl X "range") (hm : X.mg "range" = none) (ha : SAB X g m [a] fl)
    (hs : starEach [a] X.env = (false,eval a X.env)::starEach [] X.env := by rfl)
    (hs2 : starEach [.Call (.Name "range" p2) [a] [] pos2] X.env = (false,eval (.Call (.Name "range" p2) [a] [] pos2) X.env)::starEach [] X.env := by rfl) :
    SO X g m (.Call (.Name "list" p) [.Call (.Name "range" p2) [a] [] pos2] [] pos) (fC fl zdI) := by
  refine PE.imp (zcj (zdO hc) hgl hml rfl (zaO (zcj zgS hg hm boot_range ha (by decide) (by decide) hs rfl) zb3 hs2) (by decide) (by decide) hs2 rfl) fun σ H Q ⟨r,G,si,q⟩ => ⟨r,G,si,zac (zad q) fun ds q1 vs G1 H1 w1 rs => ?_⟩
  obtain ⟨d,e,q2⟩ := zat q1
  unfold zdI at e
  split at e
  · split at e
    · rename_i j hj
      cases e
      cases rs with
      | cons r1 t =>
        cases t
        refine ⟨j,by rw [r1.int w1.ok],fun p hp => ⟨p,0,j,rfl,zag,⟨by decide,by decide,hj.1,hj.2.1⟩,by simpa using hj.2.2,fun l hl => ?_⟩⟩
        obtain ⟨hl1,hl2⟩ := zlB hl
        have w2 := Grow.new w1.ok hp (.rng 0 j)
        have w3 := Grow.new w2.ok hl (.lst (rngV 0 (j - 0).toNat))
        refine q2 l G1 _ (w1.trans (w2.trans w3)) (w1.back hl1) ⟨w1.ok.isN hl1,.lst zag ?_⟩
        rw [show j - 0 = j by omega]
        exact zkp 0 _
    · cases e
  · cases e
end
end DL
end
section
namespace DL
open PySem PySem.Spec PyProof.Rows L2
noncomputable def MtD (K : PySem.W.Frag) (r : V→List V→Hp→VK→Prop) (k : D→List D→Option D) : Prop := ∀ (G : GH) (H : Hp) (v : V) (d : D) (vs : List V) (ds : List D) (d' : D) (Q : VK),GOk K G H→RB K G H v d→Paired (RB K G H) vs ds→k d ds = some d' →
  (∀ v' G' H',Grow K G H G' H'→RG K G' v' d'→Q v' H')→r v vs H Q
noncomputable def tyM (T : String) : D→Bool
  | .lst _ => T == "list"
  | .tup _ => T == "tuple"
  | .dic _ => T == "dict"
  | .str _ => T == "str"
  | .int _ => T == "int"
  | _ => false
theorem zj2 {K : PySem.W.Frag} {G : GH} {H : Hp} {v : V} {d : D} {T : String} (gk : GOk K G H) (h : RB K G H v d) (t : tyM T d = true) : tyV K T v H := by
  cases d with
  | lst ds => obtain ⟨a,xs,rfl,s,r⟩ := h.lst gk; exact .inl ⟨eq_of_beq t,xs,s⟩
  | tup ds =>
    have e : T = "tuple" := eq_of_beq t
    rcases h with h | ⟨a,rfl,o⟩
    · cases h with
      | scl s => cases s
      | ref q =>
        cases gk _ _ q with
        | tup r s => exact .inr (.inl ⟨e,.inr ⟨_,r⟩⟩)
      | kc k =>
        cases k with
        | tup r s z => exact .inr (.inl ⟨e,.inl z⟩)
    · cases o.ob
  | dic ds => obtain ⟨a,xs,rfl,s,r⟩ := h.dic gk; exact .inr (.inr (.inl ⟨eq_of_beq t,.inl ⟨xs,s⟩⟩))
  | str x => rw [h.str gk]; exact eq_of_beq t
  | int x => rw [h.int gk]; exact eq_of_beq t
  | _ => cases t
noncomputable def fM (T : String) (fo : FE) (fl : Rho→Res (List D)) (k : D→List D→Option D) : FE := fun r => (fo r).bind fun d => if tyM T d = true then (fl r).bind fun ds => opt (k d ds) else .stuck
section
variable {X : Cx} {g : GE} {m mb : List Md} {e a b o : Expr} {es : List Expr} {f fa fb fo : FE} {fl : Rho → Res (List D)} {pos pos' apos cpos : Pos} {ro : Bool} {x name : Str} {T id : String} {R : V → List V → Hp → VK → Prop} {k : D → List D → Option D}
theorem s_bm (pa : PlainAttrs T) (slot : Slot T name id) (hty : typeOf (.builtin id) = pure (.type "method_descriptor")) (hmt : MtR X id R) (hk : MtD X.K R k) (ho : SB X g m o fo) (ha : SAB X g m (e::es) fl)
    (hbase : attributeBase o name X.env (eval o X.env) = eval o X.env := by rfl)
    (hfew : ((backTo cpos (starEach (e::es) X.env)).all (fun x => ! x.1) && (backToKw cpos (keywordEach [] X.env)).all (fun x => x.1.isSome) && decide ((e::es).length + ([] : List Keyword).length + (if ([] : List Keyword).isEmpty then 0 else 1) < 30)) = true := by rfl)
    (hline : (apos.endLine == cpos.line) = true := by rfl) (hst : starEach (e::es) X.env = (false,eval e X.env)::starEach es X.env := by rfl) (hplain : (backTo cpos (starEach es X.env)).any (·.1) = false := by rfl) :
    SE X g m (.Call (.Attribute o name apos) (e::es) [] cpos) (fM T fo fl k) := by
  refine PE.imp (zja pa slot hty hmt ho ha hbase hfew hline hst hplain) fun σ H Q ⟨r,G,si,q⟩ => ⟨r,G,si,zac (zad q) fun d q1 v G1 H1 w1 r1 => ?_⟩
  by_cases ht : tyM T d = true
  · rw [if_pos ht] at q1
    refine ⟨zj2 w1.ok r1 ht,r,G1,si.grow w1,zaW (zad q1) w1 fun ds q2 vs G2 H2 w2 rs => ?_⟩
    obtain ⟨d',e',q3⟩ := zat q2
    exact hk G2 H2 v d vs ds d' Q w2.ok (r1.mono w2) rs e' fun v' G' H' w' z => q3 v' G' H' ((w1.trans w2).trans w') z
  · rw [if_neg ht] at q1; exact q1.elim
noncomputable def zd9 (x : V) : List V→Option Nat
  | [] => none
  | y::xs => if eqV y x = true then some 0 else (zd9 x xs).map (· + 1)
noncomputable def zdn (x : D) : List D→Option Nat
  | [] => none
  | y::xs => if eqs y x = true then some 0 else (zdn x xs).map (· + 1)
theorem zfb (x : D) : ∀ ds : List D,zd9 (toV x) (ds.map toV) = zdn x ds
  | [] => rfl
  | y::ds => by
    show (if eqV (toV y) (toV x) = true then some 0 else (zd9 (toV x) (ds.map toV)).map (· + 1)) = if eqs y x = true then some 0 else (zdn x ds).map (· + 1)
    rw [zfb x ds]; rfl
theorem zhN {x : V} {xs : List V} {us : List Value} {j : Nat} (h0 : Vals xs us) (f : xs.all zb8 = true) (h : zd9 x xs = some j) : ∃ hj : j < us.length,eqU x us[j] = true∧∀ i (hi : i < us.length),i < j→eqU x us[i] = false := by
  induction h0 generalizing j with
  | nil => cases h
  | @cons y u xs us r t ih =>
    rw [List.all_cons,Bool.and_eq_true] at f
    unfold zd9 at h
    by_cases hy : eqV y x = true
    · rw [if_pos hy] at h
      cases h
      exact ⟨Nat.zero_lt_succ _,by show eqU x u = true; rw [zfd r f.1]; exact hy,fun i _ hlt => absurd hlt (Nat.not_lt_zero _)⟩
    · rw [if_neg hy] at h
      cases e : zd9 x xs with
      | none => rw [e] at h; cases h
      | some z =>
        rw [e] at h
        cases h
        obtain ⟨a,b,c⟩ := ih f.2 e
        refine ⟨Nat.succ_lt_succ a,b,fun i hi hlt => ?_⟩
        cases i with
        | zero => show eqU x u = false; rw [zfd r f.1]; simpa using hy
        | succ i => exact c i (Nat.lt_of_succ_lt_succ hi) (Nat.lt_of_succ_lt_succ hlt)
noncomputable def zfX (K : PySem.W.Frag) : V→List V→Hp→VK→Prop := fun x vs H Q => ∃ p xs y j,x = .ref p∧vs = [y]∧SqT K H p xs∧zb8 y = true∧xs.all zb8 = true∧zd9 y xs = some j∧Q (.int j) H
theorem zcl : MtR X "tuple.index" (zfX X.K) := by
  intro pins s σ H x vs v us Q I rx rv h
  obtain ⟨p,xs,y,j,rfl,rfl,hq,fy,fx,e,q⟩ := h
  cases rx
  obtain ⟨u,rfl,ru⟩ := zdU rv
  obtain ⟨its,r,pl,hz⟩ := I.tuple hq
  obtain ⟨o,ho,hc,n,hs⟩ := pl
  obtain ⟨a,b,c⟩ := zhN r fx e
  have hl := r.length
  obtain ⟨ocls,odict,odata,oslots⟩ := o
  simp only at hc hs
  subst hc hs
  refine call_meets PySem.F.slot_tuple_index ⟨_,ho,rfl⟩ PySem.F.entry_tuple_index (PySem.F.args_tuple_index_2 _ _)
    (zdB p its.toArray n odict oslots u (eqU y) j (by simpa using a) (by simpa using b) (fun i hi hlt => by simpa using c i (by simpa using hi) hlt)) ⟨ho,fun w hw => zcU ru fy r fx w (by simpa using hw),⟨.int j,H,I.tok _,⟨_,rfl⟩,q⟩⟩
noncomputable def zln : D→List D→Option D
  | .lst ds,[x] => if zaV x = true∧ds.all zaV = true then (zdn x ds).map fun j => .int j else none
  | .tup ds,[x] => if zaV x = true∧ds.all zaV = true then (zdn x ds).map fun j => .int j else none
  | _,_ => none
theorem zfC {K : PySem.W.Frag} {G : GH} {H : Hp} {ds : List D} {xs : List V} {x d' : D} {v : V} (gk : GOk K G H) (rs : RGs K G xs ds) (rx : RB K G H v x) (e : (if zaV x = true∧ds.all zaV = true then (zdn x ds).map fun j => D.int j else none) = some d') :
    ∃ j : Nat,d' = .int j∧zb8 v = true∧xs.all zb8 = true∧zd9 v xs = some j := by
  by_cases hc : zaV x = true∧ds.all zaV = true
  · rw [if_pos hc] at e
    obtain ⟨e1,f1⟩ := RB.flat rx gk hc.1
    obtain ⟨e3,f3⟩ := zlC rs gk hc.2
    cases ef : zdn x ds with
    | none => rw [ef] at e; cases e
    | some j =>
      rw [ef] at e
      cases e
      exact ⟨j,rfl,f1,f3,by rw [e1,e3,zfb]; exact ef⟩
  · rw [if_neg hc] at e; cases e
noncomputable def zcx (d : D) (ds : List D) : Option D := match d with
  | .tup _ => zln d ds
  | _ => none
theorem zcn {K : PySem.W.Frag} : MtD K (zfX K) zcx := by
  intro G H v d vs ds d' Q gk rv rs e q
  cases d with
  | tup zs =>
    cases ds with
    | nil => cases e
    | cons x t =>
      cases t with
      | nil =>
        cases rs with
        | cons r1 rt =>
          cases rt
          obtain ⟨a,xs,rfl,s,r⟩ := rv.tup gk
          obtain ⟨j,rfl,h1,h2,h3⟩ := zfC gk r r1 e
          exact ⟨a,xs,_,j,rfl,rfl,s,h1,h2,h3,q _ G H (Grow.refl gk) (.scl (.int _))⟩
      | cons _ _ => cases e
  | _ => cases e
noncomputable def isInt : D→Bool
  | .int _ => true
  | _ => false
noncomputable def zlX : D→Option D
  | .dic kvs => some (.lst (kvs.map (·.2)))
  | _ => none
end
end DL
end
section
namespace DL
open PySem PySem.Spec PyProof.Rows L2
noncomputable def enuD : Nat→List D→List D
  | _,[] => []
  | i,d::ds => .tup [.int i,d]::enuD (i + 1) ds
theorem zdM : ∀ (i : Nat) (ds : List D),(enuD i ds).length = ds.length
  | _,[] => rfl
  | i,d::ds => congrArg (· + 1) (zdM (i + 1) ds)
theorem zff : ∀ (i j : Nat) (ds : List D),(enuD i ds)[j]? = (ds[j]?).map fun d => D.tup [.int ((i + j : Nat) : Int),d]
  | _,_,[] => by simp [enuD]
  | i,0,d::ds => by simp [enuD]
  | i,j + 1,d::ds => by
    show (enuD (i + 1) ds)[j]? = _
    rw [zff (i + 1) j ds]
    simp only [List.getElem?_cons_succ]
    rw [show i + 1 + j = i + (j + 1) by omega]
noncomputable def fEnu (f : FE) : FI := fun r => (f r).bind fun d => (opt (zeO d)).bind fun ds => .ok (enuD 0 ds)
section
variable {X : Cx} {g : GE} {m : List Md} {e a : Expr} {f : FE} {pos p pos2 : Pos} {elts : List Expr} {kk : Nat}
theorem zi5 {te : TE} (hg : Gl X "enumerate") (hm : X.mg "enumerate" = none) (he : PE X e te) (hs : starEach [e] X.env = (false,eval e X.env)::starEach [] X.env := by rfl) : PI X (.Tuple elts kk pos2) (.Call (.Name "enumerate" p) [e] [] pos) (fun σ H R => te σ H fun x H1 =>
      (∃ a,x = .ref a∧(∃ xs,SqL X.K H1 a xs)∧R (Ien fun H xs => SqL X.K H a xs) H1)∨∃ a,x = .ref a∧(∃ xs,SqT X.K H1 a xs)∧R (Ien fun H xs => SqT X.K H a xs) H1) := by
  intro pins s σ H R I h
  refine Call_ (zd6 I hg hm boot_enumerate (PyProof.Rows.callWith_type1 (thn (zaO he zb3 hs pos pins s σ H (fun vs H1 => match vs with
    | [x] => (∃ a,x = .ref a∧(∃ xs,SqL X.K H1 a xs)∧R (Ien fun H xs => SqL X.K H a xs) H1)∨∃ a,x = .ref a∧(∃ xs,SqT X.K H1 a xs)∧R (Ien fun H xs => SqT X.K H a xs) H1
    | _ => False) I h) fun us s1 ⟨vs,H1,I1,r1,q1⟩ => ?_) hs rfl))
  · cases r1 with
    | nil => exact q1.elim
    | @cons x u xs us rx rt =>
    cases rt with
    | cons _ _ => exact q1.elim
    | nil =>
    have fin : ∀ {h' : Heap},h'.objs.size = s1.heap.objs.size + 2→(∀ b o,s1.heap.get? b = some o→h'.get? b = some o)→∀ b∈[s1.heap.objs.size + 1,s1.heap.objs.size],FpOk X pins H1 b := fun hz kp b hb => by
      have hge : s1.heap.objs.size≤b := by
        rcases List.mem_cons.mp hb with rfl | hb
        · exact Nat.le_succ _
        · rw [List.mem_singleton.mp hb]; exact Nat.le_refl _
      exact I1.fpOk hge (I1.hok.fresh hge)
    rcases q1 with ⟨a,rfl,⟨xs,hq⟩,q⟩ | ⟨a,rfl,⟨xs,hq⟩,q⟩
    · cases rx
      obtain ⟨its,rv,pl,hz⟩ := I1.list hq
      refine call_enumerate_list pl.isList fun h' he hi hsz kp => wpAny_pyIter_enum he ?_
      exact ⟨_,[s1.heap.objs.size + 1,s1.heap.objs.size],_,_,H1,rfl,I1.kept (t' := s1.toks) kp,zfr a _ _ (Nat.ne_of_gt (Nat.lt_succ_self _)),⟨⟨_,he⟩,hi⟩,fin hsz kp,q⟩
    · cases rx
      obtain ⟨its,rv,pl,hz⟩ := I1.tuple hq
      refine zdg (show s1.heap.IsTuple a its.toArray from pl) fun h' he hi hsz kp => wpAny_pyIter_enum he ?_
      exact ⟨_,[s1.heap.objs.size + 1,s1.heap.objs.size],_,_,H1,rfl,I1.kept (t' := s1.toks) kp,zfq a _ _ (Nat.ne_of_gt (Nat.lt_succ_self _)),⟨⟨_,he⟩,hi⟩,fin hsz kp,q⟩
end
end DL
end
section
namespace DL
open PySem PySem.Spec PyProof.Rows L2
inductive TupI (h : Heap) : Value→List Int→Prop where
  | mk {a : Addr} {items : Array Value} {ns : List Int} : IsTup h a items→IntsAre items.toList ns→TupI h (.ref a) ns
inductive TupsI (h : Heap) : List Value→List (List Int)→Prop where
  | nil : TupsI h [] []
  | cons {p : Value} {k : List Int} {ps : List Value} {ks : List (List Int)} : TupI h p k→TupsI h ps ks→TupsI h (p::ps) (k::ks)
theorem TupsI.length {h : Heap} : ∀ {ps : List Value} {ks : List (List Int)},TupsI h ps ks→ps.length = ks.length
  | _,_,.nil => rfl
  | _,_,.cons _ t => congrArg (· + 1) t.length
section
variable {prog : Program} {w : World} {A : Around} {s : Shared}
inductive TupR (h : Heap) : Value→List (List Int)→Prop where
  | mk {a : Addr} {items : List Value} {ks : List (List Int)} : IsTup h a items.toArray→TupsI h items ks→ks≠[]→TupR h (.ref a) ks
end
end DL
end
section
namespace DL
open PySem PySem.Spec PyProof.Rows L2
section
variable {X : Cx} {g : GE} {m : List Md} {e a : Expr} {f : FE} {pos p pos2 p2 : Pos}
end
end DL
end
section
namespace DL
open PySem PySem.Spec PyProof.Rows L2
theorem zaP.isS {P : Program} {w : World} {H : Hp} {h : Heap} {a : Addr} {o : HO} (x : zaP P w H h a o) : h.get? a≠none := by
  have s : ∀ {u : Obj},h.get? a = some u→h.get? a≠none := fun e z => by rw [z] at e; cases e
  cases o with
  | lst xs => obtain ⟨_,_,_,_,e⟩ := x; exact s e
  | tup xs => obtain ⟨_,_,_,⟨_,e,_⟩,_⟩ := x; exact s e
  | dK kvs => obtain ⟨_,_,_,_,o,_,_,e,_⟩ := x; exact s e
  | dT kvs => obtain ⟨_,_,_,_,o,_,_,e,_⟩ := x; exact s e
  | set S n => obtain ⟨o,_,_,_,e,_⟩ := x; exact s e
  | ins C dx fs => obtain ⟨_,_,_,e,_⟩ := x; exact s e
  | own y => obtain ⟨_,e⟩ := x; exact s e
  | xd fs => obtain ⟨_,⟨_,_,_,e,_⟩,_⟩ := x; exact s e
  | rng lo hi => obtain ⟨_,_,_,e⟩ := x; exact s e
  | frz ob u => obtain ⟨e,_⟩ := x; exact s e
  | tbl ps => exact s (show h.get? a = some _ from x)
  | met f y => exact s (show h.get? a = some _ from x)
  | ext φ => obtain ⟨_,⟨_,e⟩,_⟩ := x; exact s e
section
variable {X : Cx} {pins : List (Addr × Obj)} {σ : L2.St} {H : Hp} {s : Shared}
theorem TupI.stay {h h' : Heap} {L : Addr} {mm : Str→Option Value} (hL : h.Ns L mm) (k : ∀ b o,b≠L→h.get? b = some o→h'.get? b = some o) {p : Value} {ns : List Int} (x : TupI h p ns) : TupI h' p ns := by
  cases x with
  | mk ht hi =>
    obtain ⟨o,h1,h2,n,h3⟩ := ht
    refine .mk ⟨o,k _ _ ?_ h1,h2,n,h3⟩ hi
    rintro rfl
    obtain ⟨o',es,ep,e,d,_⟩ := hL
    rw [h1] at e; cases e
    rw [h3] at d; cases d
theorem TupsI.stay {h h' : Heap} {L : Addr} {mm : Str→Option Value} (hL : h.Ns L mm) (k : ∀ b o,b≠L→h.get? b = some o→h'.get? b = some o) : ∀ {ps : List Value} {ks : List (List Int)},TupsI h ps ks→TupsI h' ps ks
  | _,_,.nil => .nil
  | _,_,.cons x t => .cons (x.stay hL k) (t.stay hL k)
theorem TupR.stay {h h' : Heap} {L : Addr} {mm : Str→Option Value} (hL : h.Ns L mm) (k : ∀ b o,b≠L→h.get? b = some o→h'.get? b = some o) {p : Value} {ks : List (List Int)} (x : TupR h p ks) : TupR h' p ks := by
  cases x with
  | mk ht hi hn =>
    obtain ⟨o,h1,h2,n,h3⟩ := ht
    refine .mk ⟨o,k _ _ ?_ h1,h2,n,h3⟩ (hi.stay hL k) hn
    rintro rfl
    obtain ⟨o',es,ep,e,d,_⟩ := hL
    rw [h1] at e; cases e
    rw [h3] at d; cases d
end
end DL
end
section
namespace DL
open PySem PySem.Spec PyProof.Rows L2
section
variable {K : PySem.W.Frag} {G : GH} {H : Hp}
end
section
variable {X : Cx} {g : GE} {m : List Md} {a : Expr} {fl : Rho → Res (List D)} {pos p : Pos} {k : Nat}
end
end DL
end
section
namespace DL
open PySem PyProof.Rows PySem.SeqAt PySem.MeetsSeq PySem.MeetsSeq2 PySem.MeetsSeq3 L2
open PySem.AutoSeq1 (wpAny_loadPart')
end DL
end
section
namespace DL
open PySem PyProof.Rows L2
section
variable {prog : Program} {w : World} {A : Around} {E : Value → Shared → Prop} {s : Shared}
noncomputable def LisI (h : Heap) (u : Value) (ns : List Int) : Prop := ∃ a its,u = .ref a∧h.IsList a its∧IntsAre its.toList ns
end
end DL
end
section
namespace DL
open PySem PySem.Spec PyProof.Rows L2
section
variable {X : Cx} {pins : List (Addr × Obj)} {σ : L2.St} {H : Hp} {s : Shared}
theorem LisI.stay {h h' : Heap} {L : Addr} {mm : Str→Option Value} (hL : h.Ns L mm) (k : ∀ b o,b≠L→h.get? b = some o→h'.get? b = some o) {p : Value} {ns : List Int} (x : LisI h p ns) : LisI h' p ns := by
  obtain ⟨a,its,rfl,⟨o,h1,h2,n,h3⟩,hi⟩ := x
  refine ⟨a,its,rfl,⟨o,k _ _ ?_ h1,h2,n,h3⟩,hi⟩
  rintro rfl
  obtain ⟨o',es,ep,e,d,_⟩ := hL
  rw [h1] at e; cases e
  rw [h3] at d; cases d
end
section
variable {K : PySem.W.Frag} {G : GH} {H : Hp}
end
section
variable {X : Cx} {g : GE} {m : List Md} {a : Expr} {fl : Rho → Res (List D)} {pos p : Pos} {k : Nat}
end
end DL
end
section
namespace DL
open PySem PySem.Spec PyProof.Rows L2
section
variable {X : Cx} {pins : List (Addr × Obj)} {σ : L2.St} {H : Hp} {s : Shared}
theorem Inv.keptN {h' : Heap} (I : Inv X pins σ H s) (k : ∀ b o,b≠X.env.locals→s.heap.get? b = some o→h'.get? b = some o)
    (hns : ∀ m,s.heap.Ns X.env.locals m→h'.Ns X.env.locals m) (t' : Nat) : Inv X pins σ H { s with heap := h',toks := t' } := by
  have trkL : ∀ b u,H b = some u→b≠X.env.locals := fun b u e z => by rw [z,I.free] at e; cases e
  refine I.step (g' := s.gens) (d' := s.drawn) (ch := []) (fun b hb => absurd hb (by simp)) (fun b ob hL _ _ e _ => k b ob hL e) (fun b ob hL _ _ e _ => ⟨ob.slots,k b ob hL e⟩) (fun b ob _ e n => n)
    (fun b ob _ e => ?_) (fun b xs e => e) (fun b ob u e => e) (fun b ps e => ⟨#[],by rw [e]; simp⟩) hns (fun b u e => ?_) I.bare
  · by_cases hb : b = X.env.locals
    · subst hb
      obtain ⟨m,hn,_⟩ := I.loc
      obtain ⟨o,_,_,ho',_⟩ := hns m hn
      exact ⟨o,ho'⟩
    · exact ⟨ob,k b ob hb e⟩
  · refine (I.hok b u e).stay (fun cc v hc q => k cc v ?_ q) (fun cc q => q) fun cc xs q => q
    rcases hc with z | z
    · rw [z]; exact trkL b u e
    · exact trkL cc _ z
end
section
variable {X : Cx} {g : GE} {m : List Md} {e a b : Expr} {es : List Expr} {fl : Rho → Res (List D)} {fa fb : FE} {pos p : Pos}
end
end DL
end
section
namespace DL
open PySem PyProof.Rows L2
open PySem.AutoSeq1 (wpAny_loadPart')
section
variable {X : Cx}
end
end DL
end
section
namespace DL
open PySem PyProof.Rows PySem.W
noncomputable abbrev at0 (p : Array Nat) (i : Nat) : Nat := p.getD i 0
section
variable {n : Nat} {c : Nat → Nat → Bool} (as : ∀ i j, c i j = true → c j i = false) (tr : ∀ i j k, c j i = false → c k j = false → c k i = false)
noncomputable def Le (c : Nat→Nat→Bool) (i j : Nat) : Prop := c j i = false
noncomputable def Dn (c : Nat→Nat→Bool) (p : Array Nat) (k : Nat) : Prop := ∀ i,i + 1 < k→Le c (at0 p (i + 1)) (at0 p i)
noncomputable def Eqv (c : Nat→Nat→Bool) (i j : Nat) : Prop := Le c i j∧Le c j i
include tr in
theorem Eqv.trans {i j k : Nat} (h1 : Eqv c i j) (h2 : Eqv c j k) : Eqv c i k := ⟨tr _ _ _ h1.1 h2.1,tr _ _ _ h2.2 h1.2⟩
theorem Eqv.symm {i j : Nat} (h : Eqv c i j) : Eqv c j i := ⟨h.2,h.1⟩
include as tr in
include tr in
theorem Dn.eqv {p p' : Array Nat} {k : Nat} (h : Dn c p k) (e : ∀ i,Eqv c (at0 p' i) (at0 p i)) : Dn c p' k := fun i hi => tr _ _ _ (e (i + 1)).1 (tr _ _ _ (h i hi) (e i).2)
include as tr in
include as tr in
include as tr in
include as tr in
include as tr in
include as tr in
include as tr in
include as tr in
include as tr in
end
end DL
end
section
namespace DL
section
variable {α : Type} {lt : α → α → Bool} {d : α}
end
end DL
end
section
namespace DL
open PySem PySem.Spec PyProof.Rows L2
section
variable {X : Cx} {pins : List (Addr × Obj)} {σ : L2.St} {H : Hp} {s : Shared}
end
section
variable {X : Cx} {g : GE} {m : List Md} {a : Expr} {fl : Rho → Res (List D)} {pos p : Pos} {k : Nat}
end
end DL
end
section
namespace DL
open PySem PySem.Spec PyProof.Rows L2
section
variable {X : Cx} {pins : List (Addr × Obj)} {σ : L2.St} {H : Hp} {s : Shared}
theorem zgY (bs : List Bool) : ((List.range bs.length).any fun i => bs.getD i true) = bs.any id := by
  rw [Bool.eq_iff_iff,List.any_eq_true,List.any_eq_true]
  constructor
  · rintro ⟨i,hi,h⟩
    have hi := List.mem_range.mp hi
    exact ⟨bs[i],List.getElem_mem _,by simpa [List.getD_eq_getElem?_getD,hi] using h⟩
  · rintro ⟨b,hb,h⟩
    obtain ⟨i,hi,rfl⟩ := List.getElem_of_mem hb
    exact ⟨i,List.mem_range.mpr hi,by simpa [List.getD_eq_getElem?_getD,hi] using h⟩
theorem zfn (hc : X.calm = true) (I : Inv X pins σ H s) {p : Addr} {bs : List Bool} (hq : SqL X.K H p (bs.map V.bl)) {A : Around} (hA : A.handled = none) {E : Value→Shared→Prop} {Q : Value→Shared→Prop}
    (h : ∀ I fp wr n P St tr it s₂,it = Value.ref I→Walks X.prog X.w A I fp wr n P St→St 0 s₂.heap→TruthOf X.prog X.w A P tr→n = bs.length→(∀ i,tr i = bs.getD i true) →
      (∀ (h' : Heap) (tk : Nat),(∀ (b : Addr) (o : Obj),¬b∈wr→s₂.heap.get? b = some o→h'.get? b = some o)→Inv X pins σ H { heap := h',gens := s₂.gens,drawn := s₂.drawn,toks := tk,os := s₂.os })→Q it s₂) :
    wpAny (model X.prog X.w) A (pyIter (.ref p)) Q E s := by
  obtain ⟨its,rv,pl,hz⟩ := I.list hq
  have hl := rv.length
  rw [List.length_map] at hl
  refine PySem.Flt.iter_list_ pl.isList fun s₂ e2 hi hlt hne => ?_
  refine h s.heap.objs.size [s.heap.objs.size,p] [s.heap.objs.size] its.toArray.size _ _ (fun i => bs.getD i true) _ s₂ rfl (Walks.list hA _ p hne its.toArray) hi ?_ (by rw [List.size_toArray,hl]) (fun i => rfl) fun h' tk k => ?_
  · intro i v s' Q' E' hv hq'
    have hv' : its[i]? = some v := by simpa using hv
    have hi : i < its.length := (List.getElem?_eq_some_iff.mp hv').1
    have hki : i < (bs.map V.bl).length := by rw [List.length_map]; omega
    obtain ⟨u,h1,h3⟩ := rv.get (i := i) (x := (bs.map V.bl)[i]) (List.getElem?_eq_getElem hki)
    rw [hv'] at h1
    cases h1
    rw [List.getElem_map] at h3
    have h3' : v = Value.bool bs[i] := h3
    subst h3'
    have e : bs.getD i true = bs[i] := by
      have hb : i < bs.length := by omega
      simp [List.getD_eq_getElem?_getD,hb]
    have hq2 : Q' (bs.getD i true) s' := hq'
    rw [e] at hq2
    exact wpAny_pure hq2
  · subst e2
    have ne : ∀ b o,s.heap.get? b = some o→¬ b∈[s.heap.objs.size] := fun b o e z => by
      have := List.mem_singleton.mp z
      subst this
      exact absurd (Heap.lt_size e) (Nat.lt_irrefl _)
    exact Inv.keptN I (fun b o _ e => k b o (ne b o e) (Heap.get?_push_of_some _ e)) (fun m ⟨o,es,ep,e,z⟩ => ⟨o,es,ep,k _ _ (ne _ _ e) (Heap.get?_push_of_some _ e),z⟩) tk
theorem zh1 (hc : X.calm = true) : zbR X (.builtin "any") (fun xs H Q => ∃ (p : Addr) (bs : List Bool),xs = [.ref p]∧SqL X.K H p (bs.map V.bl)∧Q (.bl (bs.any id)) H) := by
  intro pins s σ H xs us Q I r h
  obtain ⟨p,bs,rfl,hq,q⟩ := h
  obtain ⟨u,rfl,rx⟩ := zdU r
  cases rx
  refine call_any_walk (zfn hc I hq (show X.A.in1.handled = none from I.ok.hd hc) fun J fp wr n P St tr it s₂ e1 e2 e3 e4 e5 e6 e7 => ⟨J,fp,wr,n,P,St,tr,e1,e2,e3,e4,fun h' tk k => ?_⟩)
  have et : tr = fun i => bs.getD i true := funext e6
  rw [e5,et,zgY]
  exact ⟨.bl (bs.any id),H,e7 h' tk k,rfl,q⟩
end
noncomputable def zdP : List D→Option (List Bool)
  | [] => some []
  | .bl b::ds => (zdP ds).map (b::·)
  | _ => none
theorem zjO {K : PySem.W.Frag} {G : GH} {H : Hp} (gk : GOk K G H) {ds : List D} {xs : List V} {bs : List Bool} (h : RGs K G xs ds) (e : zdP ds = some bs) : xs = bs.map V.bl := by
  induction h generalizing bs with
  | nil => cases e; rfl
  | @cons x d xs ds r t ih =>
    cases d with
    | bl b =>
      have e' : (zdP ds).map (b::·) = some bs := e
      cases e1 : zdP ds with
      | none => rw [e1] at e'; cases e'
      | some bs' =>
        rw [e1] at e'; cases e'
        rw [ih e1,List.map_cons,(RG.rb (H := H) r).bl gk]
    | _ => cases e
noncomputable def anyD : List D→Option D
  | [.lst ds] => (zdP ds).map fun bs => .bl (bs.any id)
  | _ => none
theorem zlP {K : PySem.W.Frag} : zh6 K (fun xs H Q => ∃ (p : Addr) (bs : List Bool),xs = [.ref p]∧SqL K H p (bs.map V.bl)∧Q (.bl (bs.any id)) H) anyD := by
  intro G H vs ds d Q gk rs e q
  unfold anyD at e
  split at e
  · rename_i zs
    cases ek : zdP zs with
    | none => rw [ek] at e; cases e
    | some bs =>
      rw [ek] at e; cases e
      cases rs with
      | cons r1 t =>
        cases t
        obtain ⟨b,xs,rfl,s,r⟩ := r1.lst gk
        have ex := zjO gk r ek
        subst ex
        exact ⟨b,bs,rfl,s,q _ G H (Grow.refl gk) (.scl (.bl _))⟩
  · cases e
section
variable {X : Cx} {g : GE} {m : List Md} {e : Expr} {es : List Expr} {fl : Rho → Res (List D)} {pos p : Pos}
theorem zmb (hc : X.calm = true) (hg : Gl X "any") (hm : X.mg "any" = none) (ha : SAB X g m (e::es) fl) (he : starEach (e::es) X.env = (false,eval e X.env)::starEach es X.env := by rfl) (hpl : (backTo pos (starEach es X.env)).any (·.1) = false := by rfl) :
    SE X g m (.Call (.Name "any" p) (e::es) [] pos) (fC fl anyD) := s_cb zlP (zck (zh1 hc) hg hm PyProof.Rows.boot_any ha (by decide) (by decide) he hpl)
end
end DL
end
section
namespace DL
open PySem PySem.Spec PyProof.Rows L2
section
variable {X : Cx} {pins : List (Addr × Obj)} {σ : L2.St} {H : Hp} {s : Shared}
end
section
variable {X : Cx} {g : GE} {m : List Md} {e : Expr} {es : List Expr} {fl : Rho → Res (List D)} {pos p : Pos}
end
end DL
end
section
namespace DL
open PySem PySem.Spec PyProof.Rows L2
noncomputable def zeR (h0 H : Hp) : Prop := ∀ a o,h0 a = some o→H a = some o
structure YieldsB (K : PySem.W.Frag) (h0 : Hp) (J : It) (ds : List D) (G0 : GH) : Prop where
  go : ∀ G H (i : Nat),Gle G0 G→GOk K G H→zeR h0 H→i < ds.length→J.go i H
  yld : ∀ G H (i : Nat) x H' d,Gle G0 G→GOk K G H→zeR h0 H→J.yld i H x H'→ds[i]? = some d→∃ G',Grow K G H G' H'∧RG K G' x d
  stop : ∀ G H,Gle G0 G→GOk K G H→zeR h0 H→J.stop ds.length H
theorem Yields.toH {K : PySem.W.Frag} {h0 : Hp} {J : It} {ds : List D} {G0 : GH} (y : Yields K J ds G0) : YieldsB K h0 J ds G0 :=
  ⟨fun G H i w gk _ hi => y.go G H i w gk hi,fun G H i x H' d w gk _ q e => y.yld G H i x H' d w gk q e,fun G H w gk _ => y.stop G H w gk⟩
noncomputable def tIB (X : Cx) (g : GE) (m : List Md) (f : FI) : TI := fun σ H R => ∃ r G,SI X g m r G σ H∧fin (f r) (fun ds => ∀ J G' H',Grow X.K G H G' H'→YieldsB X.K g.h0 J ds G'→R J H') (XW X σ G H)
noncomputable def SItB (X : Cx) (g : GE) (m : List Md) (tg iter : Expr) (f : FI) : Prop := PI X tg iter (tIB X g m f)
noncomputable def tBw (X : Cx) (g : GE) (m : List Md) (f : FE) : TE := fun σ H Q => ∃ r G,SI X g m r G σ H∧fin (f r) (fun d => ∀ v G' H',Grow X.K G H G' H'→Bw X.K g.h0 G' H' v d→Q v H') (XW X σ G H)
noncomputable def SBw (X : Cx) (g : GE) (m : List Md) (e : Expr) (f : FE) : Prop := PE X e (tBw X g m f)
section
variable {X : Cx} {g : GE} {m m' mb : List Md} {tg e a iter : Expr} {f : FE} {pos p pos2 : Pos} {ro : Bool} {sts : List Stmt} {s1 : FS} {elts : List Expr} {kk : Nat}
theorem SIt.toH {fi : FI} (h : SIt X g m tg iter fi) : SItB X g m tg iter fi := PI.imp h fun σ H R ⟨r,G,si,q⟩ => ⟨r,G,si,zac q fun ds k J G' H' w y => k J G' H' w y.toH⟩
theorem vw_ (i : Nat) {x : Str} (hm : m[i]? = some .bw := by rfl) (hN : X.N[i]? = some x := by rfl) (hv : Vis X.env.scope x := by first | exact Or.inl rfl | exact Or.inr (Or.inl rfl) | exact Or.inr (Or.inr rfl)) (hd : (x == ("__debug__" : Str)) = false := by decide) (hcd : (x == ("__classdict__" : Str)) = false := by decide) :
    SBw X g m (.Name x pos) fun r => getV r i := by
  refine PE.imp (zb2 hN hv hd hcd) fun σ H Q ⟨r,G,si,q⟩ => ?_
  obtain ⟨d,e,k⟩ := zdL q
  obtain ⟨v,e1,e2⟩ := si.bw i d e hm
  exact ⟨v,e1,k _ G H (Grow.refl si.gok) e2⟩
theorem zjb {K : PySem.W.Frag} {h0 : Hp} {G0 G : GH} {H0 H : Hp} {a : Addr} {ds : List D} (o : Own K G0 H0 a (.lst ds)) (h : h0 a≠none) (o0 : zeR h0 H0) (le : Gle G0 G) (o1 : zeR h0 H) : ∃ xs,SqL K H a xs∧RGs K G xs ds := by
  cases e : h0 a with
  | none => exact absurd e h
  | some u =>
    have h1 := o0 a u e
    have h2 := o1 a u e
    cases o.ob with
    | lst r s =>
      rw [h1] at r
      cases r
      exact ⟨_,SqL.of h2,RGs.mono s le⟩
theorem SI.oldIn {r : Rho} {G : GH} {st : L2.St} {H : Hp} (s : SI X g m r G st H) : zeR g.h0 H := s.old
theorem zeo {K : PySem.W.Frag} {h0 : Hp} {ds : List D} {G0 : GH} {sq : Hp→List V→Prop} (h : ∀ G H,Gle G0 G→GOk K G H→zeR h0 H→∃ xs,sq H xs∧RGs K G xs ds) : YieldsB K h0 (Ien sq) (enuD 0 ds) G0 := by
  refine ⟨fun G H i w gk o hi => ?_,fun G H i x H' d w gk o y e => ?_,fun G H w gk o => ?_⟩
  · obtain ⟨xs,s,r⟩ := h G H w gk o
    rw [zdM] at hi
    have hl := Paired.length r
    exact ⟨xs,xs[i],s,List.getElem?_eq_getElem (by omega)⟩
  · obtain ⟨xs,s,r⟩ := h G H w gk o
    obtain ⟨p,v,hp,rfl,rfl,hv⟩ := y
    rw [zff] at e
    cases ed : ds[i]? with
    | none => rw [ed] at e; cases e
    | some d0 =>
      rw [ed] at e
      simp only [Option.map_some,Option.some.injEq,Nat.zero_add] at e
      subst e
      obtain ⟨v',e1,rv⟩ := Paired.get r ed
      have := hv xs s
      rw [e1] at this; cases this
      exact ⟨_,Grow.newF gk hp (.tup (.inl zag) (.cons (.scl (.int _)) (.cons rv .nil))),.ref zao⟩
  · obtain ⟨xs,s,r⟩ := h G H w gk o
    rw [zdM]
    exact ⟨xs,s,Paired.length r⟩
theorem zgu (hg : Gl X "enumerate") (hm : X.mg "enumerate" = none) (he : SBw X g m e f) (hs : starEach [e] X.env = (false,eval e X.env)::starEach [] X.env := by rfl) : SItB X g m (.Tuple elts kk pos2) (.Call (.Name "enumerate" p) [e] [] pos) (fEnu f) := by
  refine PI.imp (zi5 hg hm he hs) fun σ H R ⟨r,G,si,q⟩ => ⟨r,G,si,zac (zad q) fun d q v G' H' w rv => ?_⟩
  obtain ⟨ds,e,q⟩ := zat (zad q)
  cases d with
  | lst ds' =>
    cases e
    rcases rv with rv | ⟨a,rfl,o,ho⟩
    · obtain ⟨a,xs,rfl,s,rs⟩ := rv.lst w.ok
      refine .inl ⟨a,rfl,⟨xs,s⟩,q _ G' H' w (zeo fun G H le gk _ => ?_)⟩
      obtain ⟨b,ys,e,s',r'⟩ := (rv.mono le).lst gk
      cases e
      exact ⟨ys,s',r'⟩
    · cases o.ob with
      | lst r s => exact .inl ⟨a,rfl,⟨_,SqL.of r⟩,q _ G' H' w (zeo fun G2 H2 le _ o2 => zjb o ho (si.grow w).oldIn le o2)⟩
  | tup ds' =>
    cases e
    rcases rv with rv | ⟨a,rfl,o,ho⟩
    · obtain ⟨a,xs,rfl,s,rs⟩ := rv.tup w.ok
      refine .inr ⟨a,rfl,⟨xs,s⟩,q _ G' H' w (zeo fun G H le gk _ => ?_)⟩
      obtain ⟨b,ys,e,s',r'⟩ := (rv.mono le).tup gk
      cases e
      exact ⟨ys,s',r'⟩
    · cases o.ob
  | _ => cases e
theorem zie (hp : PassesOwn (model X.prog X.w) X.A X.env X.xe) (hc : X.calm = true) {ft : FT} {fi : FI} (hi : SItB X g m tg iter fi) (hg : SG X g m tg ft m) (hb : SSs X g ro m m sts s1 m)
    (hs : ∀ x,foldedSetIterable iter X.env x = pure x := by intro _; rfl) : SS X g ro mb m (.For tg iter sts [] pos) (zd4 m fi ft s1) m := by
  refine ⟨rfl,PS.imp (zio hp hc hi hg.2 hb.2 hs) fun D σ H ⟨r,G,si,q⟩ => ⟨r,G,si,zac (zbb si rfl q) fun ds q J G0 H0 w0 Y => ?_⟩⟩
  refine ⟨fun i n σ H => ∃ r G,SI X g m r G σ H∧Gle G0 G∧i≤ds.length∧n = ds.length - i∧oTo X g ro m mb G D (forF ft s1 (ds.drop i) r),⟨ds.length,r,G0,si.grow w0,Gle.refl G0,Nat.zero_le _,rfl,oTo.gle q w0.ge⟩,?_⟩
  rintro i n σ1 H1 ⟨r1,G1,si1,le1,hi,rfl,q1⟩
  by_cases hlt : i < ds.length
  · have hd : ds.drop i = ds[i]::ds.drop (i + 1) := List.drop_eq_getElem_cons hlt
    rw [hd] at q1
    unfold forF at q1
    refine .inr ⟨Y.go G1 H1 i le1 si1.gok si1.oldIn hlt,fun σ' H' => ∃ r G,SI X g m r G σ' H'∧Gle G0 G∧oTo X g ro m mb G D (forF ft s1 (ds.drop (i + 1)) r),fun σ' H' ⟨r',G',si',le',q'⟩ => ⟨ds.length - (i + 1),by omega,r',G',si',le',hlt,rfl,q'⟩,fun x H' y => ?_⟩
    obtain ⟨G',w',rv⟩ := Y.yld G1 H1 i x H' ds[i] le1 si1.gok si1.oldIn y (List.getElem?_eq_getElem hlt)
    have le' : Gle G0 G' := le1.trans w'.ge
    cases eft : ft ds[i] r1 with
    | none => simp only [eft] at q1; exact q1.elim
    | some r2 =>
      simp only [eft] at q1
      refine ⟨r1,G',ds[i],si1.grow w',rv,r2,eft,fun σ2 si2 => ⟨r2,G',si2,?_⟩⟩
      cases eb : s1 r2 with
      | nx r' => simp only [eb] at q1; exact fun σ3 G3 H3 le3 si3 => ⟨r',G3,si3,le'.trans le3,oTo.gle q1 (Gle.trans w'.ge le3)⟩
      | ct r' => simp only [eb] at q1; exact fun σ3 G3 H3 le3 si3 => ⟨r',G3,si3,le'.trans le3,oTo.gle q1 (Gle.trans w'.ge le3)⟩
      | bk r' => simp only [eb] at q1; exact fun σ3 G3 H3 le3 si3 => q1 σ3 G3 H3 (Gle.trans w'.ge le3) si3
      | rt d => simp only [eb] at q1; exact q1
      | exc x r' => simp only [eb] at q1; exact fun pins e s' σ3 G3 H3 le3 => q1 pins e s' σ3 G3 H3 (Gle.trans w'.ge le3)
      | stuck => simp only [eb] at q1; exact q1
  · have e : i = ds.length := by omega
    subst e
    rw [List.drop_length] at q1
    exact .inl ⟨Y.stop G1 H1 le1 si1.gok si1.oldIn,q1 σ1 G1 H1 (Gle.refl _) si1⟩
end
end DL
end
section
namespace DL
open PySem PySem.Spec PyProof.Rows L2
open HT (sIx)
section
variable {prog : Program} {w : World} {A : Around} {E : Value → Shared → Prop} {s : Shared}
end
section
variable {X : Cx} {g : GE} {m : List Md} {e : Expr} {f fa : FE} {pos p2 : Pos}
end
end DL
end
section
namespace DL
open PySem PySem.Spec PyProof.Rows L2
noncomputable def zbK (g : GE) (H : Hp) (fp : List Addr) (i : Nat) (p : Addr) : GE :=
  ⟨g.gh,fun b => if b∈fp then H b else g.h0 b,fun j => if j = i then some (some (V.ref p),none) else g.hd j⟩
theorem ze9 {g : GE} {H H' : Hp} {fp : List Addr} {i : Nat} {p : Addr} (h : ∀ b∈fp,H' b = H b) : zbK g H' fp i p = zbK g H fp i p := by
  unfold zbK
  congr 1
  funext b
  by_cases hb : b∈fp
  · rw [if_pos hb,if_pos hb,h b hb]
  · rw [if_neg hb,if_neg hb]
noncomputable def RowR (K : PySem.W.Frag) (G : GH) (H : Hp) (b : Addr) (ds : List D) : Prop := ∃ xs,H b = some (.lst xs)∧RGs K G xs ds
structure LRw (K : PySem.W.Frag) (G : GH) (H : Hp) (p : Addr) (as : List Addr) (w : List (List D)) : Prop where
  out : H p = some (.lst (as.map V.ref))
  nd : (p::as).Nodup
  un : ∀ b∈p::as,G b = none
  rw : Paired (RowR K G H) as w
theorem RowR.mono {K : PySem.W.Frag} {G G' : GH} {H H' : Hp} {b : Addr} {ds : List D} (h : RowR K G H b ds) (ge : Gle G G') (he : H' b = H b) : RowR K G' H' b ds := by
  obtain ⟨xs,h1,h2⟩ := h
  exact ⟨xs,by rw [he]; exact h1,h2.mono ge⟩
theorem ze1 {α β : Type} {F F' : α→β→Prop} {l : List α} {r : List β} (h : Paired F l r) (f : ∀ a∈l,∀ b,F a b→F' a b) : Paired F' l r := by
  induction h with
  | nil => exact .nil
  | cons h _ ih => exact .cons (f _ List.mem_cons_self _ h) (ih fun a ha => f a (List.mem_cons_of_mem _ ha))
theorem LRw.isS {K : PySem.W.Frag} {G : GH} {H : Hp} {p : Addr} {as : List Addr} {w : List (List D)} (h : LRw K G H p as w) {b : Addr} (hb : b∈p::as) : H b≠none := by
  rcases List.mem_cons.mp hb with rfl | hb
  · rw [h.out]; simp
  · have : ∀ {as : List Addr} {w : List (List D)},Paired (RowR K G H) as w→b∈as→H b≠none := fun {as w} q hb => by
      induction q with
      | nil => cases hb
      | cons r _ ih =>
        rcases List.mem_cons.mp hb with rfl | hb
        · obtain ⟨xs,e,_⟩ := r; rw [e]; simp
        · exact ih hb
    exact this h.rw hb
theorem LRw.mono {K : PySem.W.Frag} {G G' : GH} {H H' : Hp} {p : Addr} {as : List Addr} {w : List (List D)} (h : LRw K G H p as w) (ge : Gle G G') (he : ∀ b∈p::as,H' b = H b) (un : ∀ b∈p::as,G' b = none) : LRw K G' H' p as w :=
  ⟨by rw [he p List.mem_cons_self]; exact h.out,h.nd,un,ze1 h.rw fun b hb ds r => r.mono ge (he b (List.mem_cons_of_mem _ hb))⟩
noncomputable def SI2 (X : Cx) (g : GE) (i : Nat) (m : List Md) (r : Rho) (w : List (List D)) (G : GH) (st : L2.St) (H : Hp) : Prop :=
  ∃ p as,LRw X.K G H p as w∧(∀ b∈p::as,g.h0 b = none)∧SI X (zbK g H (p::as) i p) m r G st H∧m[i]? = some .bw
section
variable {X : Cx} {g : GE} {i : Nat} {m m' m1 : List Md} {r r' : Rho} {w : List (List D)} {G G' : GH} {σ σ' : L2.St} {H H' : Hp}
theorem zfD {p : Addr} {as : List Addr} (R : LRw X.K G H p as w) (h0 : ∀ b∈p::as,g.h0 b = none) (si : SI X (zbK g H (p::as) i p) m r G σ H) (le : Gle G G') (si' : SI X (zbK g H (p::as) i p) m' r' G' σ' H') (hm : m'[i]? = some .bw) : SI2 X g i m' r' w G' σ' H' := by
  have he : ∀ b∈p::as,H' b = H b := fun b hb => by
    have hs := R.isS hb
    cases e : H b with
    | none => exact absurd e hs
    | some o =>
      have : (zbK g H (p::as) i p).h0 b = some o := by show (if b∈p::as then H b else g.h0 b) = _; rw [if_pos hb]; exact e
      rw [si'.old b o this]
  have un : ∀ b∈p::as,G' b = none := fun b hb => by
    have h : (zbK g H (p::as) i p).h0 b≠none := by show (if b∈p::as then H b else g.h0 b)≠_; rw [if_pos hb]; exact R.isS hb
    have e1 := si'.gf b h
    have e2 := si.gf b h
    rw [e1,← e2]; exact R.un b hb
  exact ⟨p,as,R.mono le he un,h0,by rw [ze9 he]; exact si',hm⟩
noncomputable abbrev FS2 := Rho→List (List D)→Option (Rho × List (List D))
variable {st : Stmt} {sts : List Stmt} {ro : Bool} {mb : List Md} {s1 : FS} {f1 f2 : FS2} {tg iter : Expr} {pos : Pos}
theorem zjE {K : PySem.W.Frag} {H : Hp} : ∀ {as : List Addr} {w : List (List D)} {G : GH},GOk K G H→Paired (RowR K G H) as w→as.Nodup→(∀ b∈as,G b = none)→∃ G',Gle G G'∧(∀ b,b∉as→G' b = G b)∧GOk K G' H∧Paired (fun b ds => G' b = some (.lst ds)) as w := by
  intro as
  induction as with
  | nil =>
    intro w G gk h _ _
    cases h
    exact ⟨G,Gle.refl G,fun _ _ => rfl,gk,.nil⟩
  | cons b as ih =>
    intro w G gk h nd un
    cases h with
    | @cons _ ds _ w r t =>
      rw [List.nodup_cons] at nd
      have hb := un b List.mem_cons_self
      obtain ⟨xs,e,rs⟩ := r
      have g1 : GOk K (gset G b (.lst ds)) H := gk.gset hb (.lst (.inl e) rs)
      obtain ⟨G',l,o,g,q⟩ := ih g1 (ze1 t fun c hc ds r => r.mono (zaF hb) rfl) nd.2 fun c hc => by
        rw [zaC (by rintro rfl; exact nd.1 hc)]; exact un c (List.mem_cons_of_mem _ hc)
      refine ⟨G',Gle.trans (zaF hb) l,fun c hc => ?_,g,.cons (l _ _ zao) q⟩
      rw [o c fun z => hc (List.mem_cons_of_mem _ z),zaC (by rintro rfl; exact hc List.mem_cons_self)]
theorem zf5 {G : GH} {as : List Addr} {w : List (List D)} {b : Addr} (hb : b∈as) (q : Paired (fun b ds => G b = some (.lst ds)) as w) : ∃ ds,G b = some (.lst ds) := by
  induction q with
  | nil => cases hb
  | cons h _ ih =>
    rcases List.mem_cons.mp hb with rfl | hb
    · exact ⟨_,h⟩
    · exact ih hb
theorem ze8 {fp : List Addr} {p : Addr} {d0 : D} (si : SI X (zbK g H fp i p) m r G σ H) (hm : m[i]? = some .bw) (h0 : ∀ b∈fp,g.h0 b = none) (hS : ∀ b∈fp,H b≠none) (hb : ∀ j,j≠i→m[j]?≠some .bw) (le : Gle G G') (g2 : GOk X.K G' H) (out : ∀ b,b∉fp→G' b = G b) (hd : G' p = some d0) :
    SI X g (m.set i .sh) (r.set i (some d0)) G' σ H := by
  have hlt : i < m.length := (List.getElem?_eq_some_iff.mp hm).1
  have hst : σ[i]? = some (some (V.ref p)) := (si.lk i (some (V.ref p),none) (by show (if i = i then _ else _) = _; rw [if_pos rfl]) hm).1
  have h0' : ∀ b,b∉fp→(zbK g H (fp) i p).h0 b = g.h0 b := fun b hb => by show (if b∈fp then H b else g.h0 b) = _; rw [if_neg hb]
  have h0i : ∀ b,b∈fp→(zbK g H (fp) i p).h0 b≠none := fun b hb => by show (if b∈fp then H b else g.h0 b)≠_; rw [if_pos hb]; exact hS b hb
  have nin : ∀ b,g.h0 b≠none→b∉fp := fun b h z => h (h0 b z)
  have mne : ∀ {j x},i≠j→(m.set i .sh)[j]? = some x→m[j]? = some x := fun hij h => by rw [List.getElem?_set_ne hij] at h; exact h
  refine ⟨g2,fun a o e => ?_,fun a d e => le a d (si.ge a d e),fun a h => ?_,by simpa using si.lm,by simpa using si.lr,fun j d h1 h2 => ?_,fun j d h1 h2 => ?_,fun j d h1 h2 => ?_,fun j k a d e hjk h1 h2 m1 m2 z1 z2 => ?_,fun j o hj hm' => ?_⟩
  · exact si.old a o (by rw [h0' a (nin a (by rw [e]; simp))]; exact e)
  · have hn := nin a h
    rw [out a hn]
    exact si.gf a (by rw [h0' a hn]; exact h)
  · by_cases hij : i = j
    · subst hij
      rw [List.getElem?_set_self (by rw [si.lr,← si.lm]; exact hlt)] at h1
      cases h1
      exact ⟨_,hst,.ref hd⟩
    · rw [List.getElem?_set_ne hij] at h1
      obtain ⟨v,y1,y2⟩ := si.sh j d h1 (mne hij h2)
      exact ⟨v,y1,y2.mono le⟩
  · by_cases hij : i = j
    · subst hij; rw [List.getElem?_set_self hlt] at h2; cases h2
    · rw [List.getElem?_set_ne hij] at h1
      obtain ⟨a,y1,y2,y3⟩ := si.ow j d h1 (mne hij h2)
      have hn : a∉fp := fun z => h0i a z y3
      exact ⟨a,y1,⟨by rw [out a hn]; exact y2.un,y2.ob.mono le fun _ z => z⟩,by rw [← h0' a hn]; exact y3⟩
  · by_cases hij : i = j
    · subst hij; rw [List.getElem?_set_self hlt] at h2; cases h2
    · exact absurd (mne hij h2) (hb j (Ne.symm hij))
  · have hij : i≠j := by rintro rfl; rw [List.getElem?_set_self hlt] at m1; cases m1
    have hik : i≠k := by rintro rfl; rw [List.getElem?_set_self hlt] at m2; cases m2
    rw [List.getElem?_set_ne hij] at h1
    rw [List.getElem?_set_ne hik] at h2
    exact si.dis j k a d e hjk h1 h2 (mne hij m1) (mne hik m2) z1 z2
  · by_cases hij : i = j
    · subst hij; rw [List.getElem?_set_self hlt] at hm'; cases hm'
    · exact absurd (mne hij hm') (hb j (Ne.symm hij))
theorem SI2.frz (s : SI2 X g i m r w G σ H) (hb : ∀ j,j≠i→m[j]?≠some .bw) : ∃ G',Gle G G'∧(∀ b d,G b = none→G' b = some d→∃ ds,d = .lst ds)∧SI X g (m.set i .sh) (r.set i (some (.lst (w.map D.lst)))) G' σ H := by
  obtain ⟨p,as,R,h0,si,hm⟩ := s
  have nd := List.nodup_cons.mp R.nd
  obtain ⟨G1,l1,o1,g1,q1⟩ := zjE si.gok R.rw nd.2 fun b hb => R.un b (List.mem_cons_of_mem _ hb)
  have hp1 : G1 p = none := by rw [o1 p nd.1]; exact R.un p List.mem_cons_self
  have rs : RGs X.K G1 (as.map V.ref) (w.map D.lst) := by
    have : ∀ {as : List Addr} {w : List (List D)},Paired (fun b ds => G1 b = some (.lst ds)) as w→RGs X.K G1 (as.map V.ref) (w.map D.lst) := fun {as w} q => by
      induction q with
      | nil => exact .nil
      | cons h _ ih => exact .cons (.ref h) ih
    exact this q1
  have g2 : GOk X.K (gset G1 p (.lst (w.map D.lst))) H := g1.gset hp1 (.lst (.inl R.out) rs)
  have le : Gle G (gset G1 p (.lst (w.map D.lst))) := Gle.trans l1 (zaF hp1)
  have out : ∀ b,b∉p::as→gset G1 p (.lst (w.map D.lst)) b = G b := fun b hb => by
    rw [zaC (by rintro rfl; exact hb List.mem_cons_self),o1 b fun z => hb (List.mem_cons_of_mem _ z)]
  refine ⟨_,le,fun b d hn e => ?_,ze8 si hm h0 (fun b hb => R.isS hb) hb le g2 out zao⟩
  by_cases hbp : b = p
  · subst hbp; rw [zao] at e; cases e; exact ⟨_,rfl⟩
  · rw [zaC hbp] at e
    by_cases hba : b∈as
    · obtain ⟨ds,e1⟩ := zf5 hba q1
      rw [e1] at e; cases e; exact ⟨_,rfl⟩
    · rw [o1 b hba,hn] at e; cases e
end
end DL
end
section
namespace DL
open PySem PySem.Spec PyProof.Rows L2
noncomputable def RO (K : PySem.W.Frag) (H2 : Hp) (p : Addr) (G : GH) (H : Hp) (ws : List V) (ds : List D) : Prop := Paired (fun v d => ∃ b,v = V.ref b∧H2 b = none∧b≠p∧Own K G H b d) ws ds∧ws.Nodup
section
variable {K : PySem.W.Frag} {H2 : Hp} {p : Addr} {G G' : GH} {H H' : Hp} {ws : List V} {ds : List D}
theorem RO.grow (h : RO K H2 p G H ws ds) (w : Grow K G H G' H') : RO K H2 p G' H' ws ds :=
  ⟨Paired.mono (fun v d ⟨b,e,h1,h2,h3⟩ => ⟨b,e,h1,h2,h3.mono w⟩) h.1,h.2⟩
theorem RO.upd {o : HO} (h : RO K H2 p G H ws ds) : RO K H2 p G (L2.upd H p o) ws ds :=
  ⟨Paired.mono (fun v d ⟨b,e,h1,h2,h3⟩ => ⟨b,e,h1,h2,h3.un,h3.ob.mono (fun _ _ z => z) fun _ z => by rw [zae h2]; exact z⟩) h.1,h.2⟩
end
section
variable {X : Cx} {pins : List (Addr × Obj)} {σ : L2.St} {H2 : Hp} {s2 : Shared} {scope : Scope} {N' : List Str} {nl : Nat} {cap : List Nat} {cl : List (Str × Addr)} {fp : List Addr} {g : GE} {G2 : GH} {m : List Md} {r : Rho} {elt tg iter : Expr} {ifs : List Expr} {pos : Pos}
end
end DL
end
section
namespace DL
open PySem PySem.Spec PyProof.Rows L2
section
variable {X : Cx} {g : GE} {m mb : List Md} {scope : Scope} {N' : List Str} {nl : Nat} {cap : List Nat} {elt tg iter : Expr} {ifs : List Expr} {pos pos' spos : Pos} {fi : FI} {ft : FT} {q : FQ} {fe : FE} {ro : Bool}
end
end DL
end
section
namespace DL
open PySem PySem.Spec PyProof.Rows L2
section
variable {X : Cx} {g : GE} {i : Nat} {m m' m1 : List Md} {r r' : Rho} {w : List (List D)} {G G' : GH} {σ σ' : L2.St} {H H' : Hp}
theorem SI.row {p : Addr} {as : List Addr} (R : LRw X.K G H p as w) (si : SI X (zbK g H (p::as) i p) m r G σ H) (hm : m[i]? = some .bw) (hb : ∀ j,j≠i→m[j]?≠some .bw) {b : Addr} (hbm : b∈p::as) (o : HO) : SI X (zbK g (upd H b o) (p::as) i p) m r G σ (upd H b o) := by
  have un := R.un b hbm
  have h0' : ∀ c,c∉p::as→(zbK g H (p::as) i p).h0 c = g.h0 c := fun c hc => by show (if c∈p::as then H c else g.h0 c) = _; rw [if_neg hc]
  have h0i : ∀ c,c∈p::as→(zbK g H (p::as) i p).h0 c = H c := fun c hc => by show (if c∈p::as then H c else g.h0 c) = _; rw [if_pos hc]
  have k0' : ∀ c,c∉p::as→(zbK g (upd H b o) (p::as) i p).h0 c = g.h0 c := fun c hc => by show (if c∈p::as then _ else g.h0 c) = _; rw [if_neg hc]
  have k0i : ∀ c,c∈p::as→(zbK g (upd H b o) (p::as) i p).h0 c = upd H b o c := fun c hc => by show (if c∈p::as then upd H b o c else g.h0 c) = _; rw [if_pos hc]
  refine ⟨fun c d e => ?_,fun c u e => ?_,si.ge,fun c h => ?_,si.lm,si.lr,si.sh,fun j d h1 h2 => ?_,fun j d h1 h2 => ?_,si.dis,si.lk⟩
  · have hc : c≠b := by rintro rfl; rw [un] at e; cases e
    exact (si.gok c d e).mono (fun _ _ z => z) fun u z => by rw [zae hc]; exact z
  · by_cases hc : c∈p::as
    · rw [k0i c hc] at e; exact e
    · rw [k0' c hc] at e
      have hcb : c≠b := by rintro rfl; exact hc hbm
      rw [zae hcb]
      exact si.old c u (by rw [h0' c hc]; exact e)
  · by_cases hc : c∈p::as
    · exact si.gf c (by rw [h0i c hc]; exact R.isS hc)
    · rw [k0' c hc] at h
      exact si.gf c (by rw [h0' c hc]; exact h)
  · obtain ⟨a,q1,q2,q3⟩ := si.ow j d h1 h2
    have ha : a∉p::as := fun z => by rw [h0i a z] at q3; exact R.isS z q3
    have hab : a≠b := by rintro rfl; exact ha hbm
    rw [h0' a ha] at q3
    exact ⟨a,q1,⟨q2.un,q2.ob.mono (fun _ _ z => z) fun u z => by rw [zae hab]; exact z⟩,by rw [k0' a ha]; exact q3⟩
  · by_cases hj : j = i
    · subst hj
      have := (si.lk j (some (V.ref p),none) (by show (if j = j then _ else _) = _; rw [if_pos rfl]) hm).2 d h1
      cases this
    · exact absurd h2 (hb j hj)
variable {ro : Bool} {mb : List Md} {pos p1 p2 p3 p4 p5 p6 p7 p8 p9 p10 p11 : Pos} {x xa xb : Str} {jc : Nat}
end
end DL
end
section
namespace DL
open PySem PySem.Spec PyProof.Rows L2
noncomputable def lessA (H : Hp) (a : Addr) : Hp := fun b => if b = a then none else H b
theorem zhD {H : Hp} {a b : Addr} (h : b≠a) : lessA H a b = H b := if_neg h
theorem Grow.lessA {K : PySem.W.Frag} {G G' G2 : GH} {H H' H2 : Hp} {a : Addr} (w : Grow K G H G' H') (ha : H a = none) (w2 : Grow K G' (lessA H' a) G2 H2) : Grow K G H G2 H2 := by
  have ne : ∀ b,H b≠none→b≠a := fun b h => by rintro rfl; exact h ha
  have he : ∀ b o,H b = some o→DL.lessA H' a b = some o := fun b o e => by rw [zhD (ne b (by rw [e]; simp))]; exact w.he b o e
  refine ⟨w2.ok,fun b o e => w2.he b o (he b o e),fun b d e => w2.ge b d (w.ge b d e),fun b h => ?_⟩
  rw [w2.gf b ?_,w.gf b h]
  cases e : H b with
  | none => exact absurd e h
  | some o => rw [he b o e]; simp
noncomputable def spV (K : PySem.W.Frag) (ro : Bool) (ms : List Md) (F : List D→Res D) : Sp := fun vs H Q _ => ∃ G us a ds d,GOk K G H∧vs = us++[V.ref a]∧ArgsOk K G H ms us ds∧Own K G H a d ∧
  fin (F (ds++[d])) (fun d' => ∀ v G' H',Grow K G (lessA H a) G' H'→RV ro K (lessA H a) G' H' v d'→Q v H') fun _ => False
section
variable {K : PySem.W.Frag} {G : GH} {H : Hp}
theorem ArgsOk.snoc {ms : List Md} {us : List V} {ds : List D} {v : V} {d : D} (h : ArgsOk K G H ms us ds) (r : RB K G H v d) : ArgsOk K G H (ms++[.bw]) (us++[v]) (ds++[d]) := by
  induction h with
  | nil => exact .bw r .nil
  | sh h _ ih => exact .sh h ih
  | bw h _ ih => exact .bw h ih
end
section
variable {P : Program} {w : World} {K : PySem.W.Frag} {mg : Str → Option Value} {base : Heap}
structure CalleeV (P : Program) (w : World) (K : PySem.W.Frag) (mg : Str→Option Value) (base : Heap) (x : Str) (ps : List Str) (k : Nat) (ro : Bool) (ms : List Md) (F : List D→Res D) : Prop where
  ex : ∃ f fd,mg x = some (.ref f)∧PySem.W.keepIn K (.ref f) = true∧zcr K fd ps []∧FnOk P w K mg base CX0 k f fd ps (spV K ro ms F)
end
section
variable {X : Cx} {g : GE} {m ms : List Md} {e : Expr} {es : List Expr} {f : FE} {fl : Rho → Res (List D × D)} {x : Str} {ps : List Str} {k : Nat} {F : List D → Res D} {p pos : Pos}
end
end DL
end
section
namespace DL
open PySem PySem.Spec PyProof.Rows L2
theorem LRw.grow {K : PySem.W.Frag} {G G' : GH} {H H' : Hp} {p : Addr} {as : List Addr} {w : List (List D)} (R : LRw K G H p as w) (wg : Grow K G H G' H') : LRw K G' H' p as w := by
  refine R.mono wg.ge (fun b hb => ?_) fun b hb => by rw [wg.gf b (R.isS hb)]; exact R.un b hb
  cases e : H b with
  | none => exact absurd e (R.isS hb)
  | some o => rw [wg.he b o e]
section
variable {X : Cx} {g : GE} {i : Nat} {m m' m1 : List Md} {r r' : Rho} {w : List (List D)} {G G' : GH} {σ σ' : L2.St} {H H' : Hp} {st : Stmt} {sts sts' : List Stmt} {f1 f2 : FS2} {c e ie : Expr} {es : List Expr} {q : FQ} {f fi : FE} {fl : Rho → Res (List D)} {pos p1 p2 p3 apos cpos spos : Pos} {x y : Str}
end
end DL
end
section
namespace DL
open PySem PySem.Spec PyProof.Rows L2
end DL
end
section
namespace DL
open PySem PySem.Spec PyProof.Rows L2
section
variable {X : Cx} {pins : List (Addr × Obj)} {σ : L2.St} {H : Hp} {s : Shared}
end
section
variable {X : Cx} {g : GE} {m : List Md} {a b : Expr} {fl : Rho → Res (List D)} {fa fb : FE} {pos p : Pos}
end
end DL
end
section
namespace DL
open PySem PySem.Spec PyProof.Rows L2
inductive Cln : D→Prop where
  | non : Cln .non
  | bl (b : Bool) : Cln (.bl b)
  | int (i : Int) : Cln (.int i)
  | str (x : Str) : Cln (.str x)
  | tup {ds : List D} : (∀ d∈ds,Cln d)→Cln (.tup ds)
theorem Cln.lst {ds : List D} (h : Cln (.lst ds)) : False := nomatch h
theorem Cln.dic {ds : List (Key × D)} (h : Cln (.dic ds)) : False := nomatch h
theorem Cln.get {ds : List D} (h : Cln (.tup ds)) : ∀ d∈ds,Cln d := by
  cases h with
  | tup h => exact h
section
variable {X : Cx} {g : GE} {i : Nat} {m m' m1 : List Md} {r r' : Rho} {w : List (List D)} {G G' : GH} {σ σ' : L2.St} {H H' : Hp} {e : Expr} {f : FE} {st : Stmt} {pos p1 p2 p3 p4 p5 p6 p7 p8 p9 p10 : Pos} {x xa xb y : Str}
theorem SI2.after (s : SI2 X g i m r w G σ H) (wg : Grow X.K G H G' H') : SI2 X g i m r w G' σ H' := by
  obtain ⟨p,as,R,h0,si,hm⟩ := s
  exact zfD R h0 si wg.ge (si.grow wg) hm
end
end DL
end
section
namespace DL
open PySem PySem.Spec PyProof.Rows L2
structure TL (K : PySem.W.Frag) (G : GH) (H : Hp) (p a : Addr) (d1 : D) (ds : List D) : Prop where
  tp : ∃ x xs,H p = some (.tup [x,.ref a])∧RG K G x d1∧H a = some (.lst xs)∧RGs K G xs ds
  un : ∀ b∈[p,a],G b = none
  ne : p≠a
theorem TL.isS {K : PySem.W.Frag} {G : GH} {H : Hp} {p a : Addr} {d1 : D} {ds : List D} (t : TL K G H p a d1 ds) : ∀ b∈[p,a],H b≠none := fun b hb => by
  obtain ⟨x,xs,h1,_,h2,_⟩ := t.tp
  rcases List.mem_cons.mp hb with rfl | hb
  · rw [h1]; simp
  · rw [List.mem_singleton.mp hb,h2]; simp
theorem TL.grow {K : PySem.W.Frag} {G G' : GH} {H H' : Hp} {p a : Addr} {d1 : D} {ds : List D} (t : TL K G H p a d1 ds) (w : Grow K G H G' H') : TL K G' H' p a d1 ds := by
  obtain ⟨x,xs,h1,h2,h3,h4⟩ := t.tp
  exact ⟨⟨x,xs,w.he _ _ h1,h2.mono w.ge,w.he _ _ h3,h4.mono w.ge⟩,fun b hb => by rw [w.gf b (t.isS b hb)]; exact t.un b hb,t.ne⟩
noncomputable def RW (K : PySem.W.Frag) (H0 : Hp) (G : GH) (H : Hp) (v : V) (d : D) : Prop := ∃ p a d1 ds,v = .ref p∧d = .tup [d1,.lst ds]∧(∀ b∈[p,a],H0 b = none)∧TL K G H p a d1 ds
noncomputable def spW (K : PySem.W.Frag) (ms : List Md) (F : List D→Res D) : Sp := fun vs H Q _ => ∃ G ds,GOk K G H∧ArgsOk K G H ms vs ds∧fin (F ds) (fun d => ∀ v G' H',Grow K G H G' H'→RW K H G' H' v d→Q v H') fun _ => False
noncomputable abbrev FW := Rho→Res D
section
variable {X : Cx} {g : GE} {ro : Bool} {i : Nat} {m m' m1 mb : List Md} {r r' : Rho} {G G' : GH} {σ σ' : L2.St} {H H' : Hp} {e e1 e2 c : Expr} {f f1 f2 : FE} {q : FQ} {st : Stmt} {sts sts1 : List Stmt} {s1 : FS} {fs : FW} {pos p1 p2 p3 p4 apos cpos : Pos} {x y : Str}
end
section
variable {P : Program} {w : World} {K : PySem.W.Frag} {mg : Str → Option Value} {base : Heap}
structure CalleeW (P : Program) (w : World) (K : PySem.W.Frag) (mg : Str→Option Value) (base : Heap) (x : Str) (ps : List Str) (k : Nat) (ms : List Md) (F : List D→Res D) : Prop where
  ex : ∃ f fd,mg x = some (.ref f)∧PySem.W.keepIn K (.ref f) = true∧zcr K fd ps []∧FnOk P w K mg base CX0 k f fd ps (spW K ms F)
end
section
variable {X : Cx} {g : GE} {ro : Bool} {i : Nat} {m m' m1 mb ms : List Md} {r r' : Rho} {G G' : GH} {σ σ' : L2.St} {H H' : Hp} {e c : Expr} {es : List Expr} {q : FQ} {st : Stmt} {sts sts1 : List Stmt} {fl : Rho → Res (List D)} {F : List D → Res D} {k : Nat} {ps : List Str} {pos p1 p2 p3 p4 apos cpos : Pos} {x y : Str} {d1 : D} {ds : List D}
noncomputable def SI3 (X : Cx) (g : GE) (i : Nat) (m : List Md) (r : Rho) (d1 : D) (ds : List D) (G : GH) (st : L2.St) (H : Hp) : Prop :=
  ∃ p a,TL X.K G H p a d1 ds∧(∀ b∈[p,a],g.h0 b = none)∧SI X (zbK g H [p,a] i p) m r G st H∧m[i]? = some .bw
theorem SI3.after (s : SI3 X g i m r d1 ds G σ H) (wg : Grow X.K G H G' H') : SI3 X g i m r d1 ds G' σ H' := by
  obtain ⟨p,a,t,h0,si,hm⟩ := s
  refine ⟨p,a,t.grow wg,h0,?_,hm⟩
  rw [ze9 (H := H) fun b hb => ?_]
  · exact si.grow wg
  · cases e : H b with
    | none => exact absurd e (t.isS b hb)
    | some o => rw [wg.he b o e]
theorem SI3.frz (s : SI3 X g i m r d1 ds G σ H) (hb : ∀ j,j≠i→m[j]?≠some .bw) : ∃ G',Gle G G'∧(∀ b d,G b = none→G' b = some d→¬ Cln d)∧SI X g (m.set i .sh) (r.set i (some (.tup [d1,.lst ds]))) G' σ H := by
  obtain ⟨p,a,t,h0,si,hm⟩ := s
  obtain ⟨x,xs,h1,h2,h3,h4⟩ := t.tp
  have ua := t.un a (List.mem_cons_of_mem _ List.mem_cons_self)
  have up := t.un p List.mem_cons_self
  have g1 : GOk X.K (gset G a (.lst ds)) H := si.gok.gset ua (.lst (.inl h3) h4)
  have up1 : gset G a (.lst ds) p = none := by rw [zaC t.ne]; exact up
  have g2 : GOk X.K (gset (gset G a (.lst ds)) p (.tup [d1,.lst ds])) H := g1.gset up1 (.tup (.inl h1) (.cons (h2.mono (zaF ua)) (.cons (.ref zao) .nil)))
  refine ⟨_,Gle.trans (zaF ua) (zaF up1),fun b d hn e hc => ?_,ze8 si hm h0 t.isS hb (Gle.trans (zaF ua) (zaF up1)) g2 (fun b hb => ?_) zao⟩
  · by_cases hbp : b = p
    · subst hbp; rw [zao] at e; cases e
      exact (hc.get _ (List.mem_cons_of_mem _ List.mem_cons_self)).lst
    · rw [zaC hbp] at e
      by_cases hba : b = a
      · subst hba; rw [zao] at e; cases e; exact hc.lst
      · rw [zaC hba,hn] at e; cases e
  · rw [zaC (by rintro rfl; exact hb List.mem_cons_self),zaC (by rintro rfl; exact hb (List.mem_cons_of_mem _ List.mem_cons_self))]
end
end DL
end
section
namespace DL
section
open PySem PyProof.Rows PySem.W PySem.Calls
variable {prog : Program} {w : World} {A : Around} {E : Value → Shared → Prop} {s : Shared} {l : Addr} {vs : List Value} {ns : List Int}
end
open PySem PySem.Spec PyProof.Rows L2
section
variable {X : Cx} {pins : List (Addr × Obj)} {σ : L2.St} {H : Hp} {s : Shared}
end
section
variable {X : Cx} {g : GE} {m : List Md} {a b : Expr} {fl : Rho → Res (List D)} {fa fb : FE} {pos p : Pos}
end
end DL
end
section
namespace DL
section
open PySem PyProof.Rows
variable {prog : Program} {w : World} {A : Around} {R : Result → Shared → Prop} {I S : Addr} {fp wr : List Addr} {n : Nat} {P : Nat → Value → Prop} {St : Nat → Heap → Prop} {TP : Heap → Prop} {bt : Nat → Nat → Bool}
noncomputable def zfm (wr : List Addr) (S : Addr) (h h' : Heap) : Prop := ∀ b o,b∉wr→b≠S→h.get? b = some o→h'.get? b = some o
theorem zfm.trans {h h1 h2 : Heap} (a : zfm wr S h h1) (b : zfm wr S h1 h2) : zfm wr S h h2 := fun c o hc hs e => b c o hc hs (a c o hc hs e)
end
end DL
end
section
namespace DL
open PySem PySem.Spec PyProof.Rows L2
section
variable {X : Cx} {pins : List (Addr × Obj)} {σ : L2.St} {H : Hp} {s : Shared}
end
section
variable {X : Cx} {g : GE} {m : List Md} {e : Expr} {es : List Expr} {fl : Rho → Res (List D)} {pos p : Pos}
end
section
variable {X : Cx}
end
end DL
end
section
namespace DL
open PySem PySem.Spec PyProof.Rows L2 PySem.W PySem.Calls
noncomputable def spX (K : PySem.W.Frag) (ro : Bool) (ms : List Md) (F : List D→Res D) : Sp := fun vs H Q E => ∃ G ds,GOk K G H∧ArgsOk K G H ms vs ds ∧
  fin (F ds) (fun d => ∀ v G' H',Grow K G H G' H'→RV ro K H G' H' v d→Q v H') fun x => ∀ C od nm fs G' H',x = xD nm fs→XN K nm C→XF G' od fs→Grow K G H G' H'→E (.ref C) od H'
section
variable {X : Cx} {k : Nat} {f : Addr} {fd : FuncData} {ps : List Str} {sp : Sp} {dvs : List V} {ds : List Value} {x : Str} {p pos : Pos} {e : Expr} {es : List Expr} {t : TA}
noncomputable def zlR (X : Cx) (σ : L2.St) (H : Hp) (E : XK) : Prop := ∀ pins s a cls od H' s',Inv X pins σ H s→Fly X.prog X.w X.stack H s H' a cls od s'→E cls od H'→X.xe (.ref a) s'
theorem ziW {pins : List (Addr × Obj)} {σ : L2.St} {H : Hp} {s : Shared} {Q : VK} {E : XK} {us : List Value} {vs : List V} (F : FnOk X.prog X.w X.K X.mg X.base (CXR X.prog X.w) k f fd ps sp) (hr : Room k X.A) (hb : zcr X.K fd ps ds) (hd : Vals dvs ds)
    (I : Inv X pins σ H s) (hx : zlR X σ H E) (r : Vals vs us) (h : sp (vs++dvs) H Q E) : wpAny (model X.prog X.w) X.A (call (.ref f) us) (EP X pins σ Q) X.xe s := by
  have r2 : Vals (vs++dvs) (us++ds) := r.append hd
  have hl : (us++ds).length = ps.length := by rw [← r2.length]; exact F.len _ _ _ _ h
  refine wpAny_call (codeAny_mono (F.run X.A X.stack s H ⟨us,[]⟩ (us++ds) (vs++dvs) Q E hr I.env0 (hb s us I.kIn hl) r2 h) fun r s' hq => ?_)
  cases r with
  | error e =>
    obtain ⟨a,cls,H',od,rfl,fl,q⟩ := hq
    exact hx pins s a cls od H' s' I fl q
  | ok fl =>
    cases fl with
    | ret u => exact I.after hq
    | next => exact False.elim hq
    | brk => exact False.elim hq
    | cont => exact False.elim hq
theorem zhu (F : FnOk X.prog X.w X.K X.mg X.base (CXR X.prog X.w) k f fd ps sp) (hr : Room k X.A) (hg : Gl X x) (hm : X.mg x = some (.ref f)) (hk : PySem.W.keepIn X.K (.ref f) = true) (hb : zcr X.K fd ps ds) (hd : Vals dvs ds)
    (ha : PA X (e::es) t) (hdb : (x == ("__debug__" : Str)) = false := by decide) (he : starEach (e::es) X.env = (false,eval e X.env)::starEach es X.env := by rfl) (hpl : (backTo pos (starEach es X.env)).any (·.1) = false := by rfl) :
    PE X (.Call (.Name x p) (e::es) [] pos) (fun σ H Q => t σ H fun vs H1 => ∃ E,sp (vs++dvs) H1 Q E∧zlR X σ H1 E) := by
  intro pins s σ H Q I h
  refine wpAny_Call_Name_kw (zcv I hg hm ?_ hdb)
  refine PySem.W.callWith_K (h₀ := X.base) I.ok.mod.kin hk (thn (ha pos pins s σ H _ I h) fun us s1 ⟨vs,H1,I1,r,E,q,px⟩ => ⟨I1.kIn,?_⟩) he hpl
  exact ziW F hr hb hd I1 px r q
end
section
variable {P : Program} {w : World} {K : PySem.W.Frag} {mg : Str → Option Value} {base : Heap}
structure CalleeX (P : Program) (w : World) (K : PySem.W.Frag) (mg : Str→Option Value) (base : Heap) (x : Str) (ps : List Str) (ds : List Value) (k : Nat) (ro : Bool) (ms : List Md) (F : List D→Res D) : Prop where
  ex : ∃ f fd,mg x = some (.ref f)∧PySem.W.keepIn K (.ref f) = true∧zcr K fd ps ds∧FnOk P w K mg base (CXR P w) k f fd ps (spX K ro ms F)
end
section
variable {X : Cx} {g : GE} {ro : Bool} {m mb : List Md} {e : Expr} {es : List Expr} {fl : Rho → Res (List D)} {k : Nat} {ps : List Str} {F : List D → Res D} {dvs : List V} {ds : List Value} {dds : List D} {x : Str} {p np pos : Pos} {ms : List Md} {C : Addr}
noncomputable def zeh (fl : Rho→Res (List D)) (dds : List D) (F : List D→Res D) : FE := fun r => (fl r).bind fun ds => F (ds++dds)
end
end DL
end
section
namespace DL
open PySem PySem.Spec PyProof.Rows L2 PySem.W PySem.Calls
section
variable {M : Model} {A : Around} {E : Value → Shared → Prop} {s : Shared} {nm q nmT qT : Str} {C N T NT : Addr} {bs bm bsT bmT : List Value} {hdct hdctT : Bool} {sn snT : List Str} {sub subT' : List Value} {ab abT : Bool} {col colT : Option Bool} {dd ddT : Option Addr} {k0 k1 k2 k3 k5 t0 t1 t2 t3 t5 : Option Value} {newId newIdT : String}
theorem zdp {e : Addr} {oe : Obj} {Q : Bool→Shared→Prop} (hC : s.heap.get? C = some (excClassObj nm q C N bs bm hdct sn sub ab col dd k0 k1 k2 k3 k5 newId)) (hT : s.heap.get? T = some (excClassObj nmT qT T NT bsT bmT hdctT snT subT' abT colT ddT t0 t1 t2 t3 t5 newIdT))
    (he : s.heap.get? e = some oe) (hc : oe.cls = .ref C) (hb : bmT.contains (Value.type "BaseException") = true) (hq : Q ((Value.ref C::bm).contains (.ref T)) s) : wpAny M A (excMatches (.ref e) (.ref T)) Q E s := by
  unfold excMatches
  refine wpAny_bind (wpAny_isInstance (T := "type") (b := false) ⟨_,hT,rfl⟩ (by rw [isSubtype_type]; kernel_rfl) ?_)
  rw [if_neg Bool.false_ne_true]
  refine wpAny_bind (wpAny_pure ?_)
  simp only [List.forIn_cons,List.forIn_nil]
  refine wpAny_bind (wpAny_bind ?_)
  unfold isExcClass isType
  refine wpAny_bind (wpAny_bind (wpAny_bind (wpAny_loadPart hT (wpAny_pure ?_))))
  rw [if_pos rfl]
  obtain ⟨hh,hg,hdr,ht,ho⟩ := s
  refine wpAny_isSubtype_exc hT ?_
  rw [List.contains_cons,hb,Bool.or_true]
  rw [if_neg (by simp)]
  refine wpAny_pure (wpAny_pure ?_)
  refine wpAny_bind ?_
  unfold typeOf
  refine wpAny_bind (wpAny_loadPart he (wpAny_pure ?_))
  rw [hc]
  refine wpAny_bind (wpAny_bind (wpAny_bind (wpAny_isSubtype_exc hC ?_)))
  cases hm : (Value.ref C::bm).contains (Value.ref T) with
  | true =>
    rw [hm] at hq
    rw [if_pos rfl]
    exact wpAny_pure (wpAny_pure (wpAny_pure hq))
  | false =>
    rw [hm] at hq
    rw [if_neg Bool.false_ne_true]
    exact wpAny_pure (wpAny_pure (wpAny_pure hq))
end
end DL
end
section
namespace DL
open PySem PySem.Spec PyProof.Rows L2 PySem.W PySem.Calls
section
variable {X : Cx} {pins : List (Addr × Obj)} {σ : L2.St} {H H' : Hp} {s s' : Shared} {M : Model} {A : Around} {E : Value → Shared → Prop}
theorem Inv.unbind {i : Nat} {n : Str} {h' : Heap} {u : Option Value} {m : Str→Option Value} (I : Inv X pins σ H s) (hN : X.N.Nodup) (hi : X.N[i]? = some n) (hm : s.heap.Ns X.env.locals m)
    (hn : h'.Ns X.env.locals fun x => if x = n then u else m x) (sb : Heap.SameBut X.env.locals s.heap h') (hl : ∀ x v,m x = some v→True) : Inv X pins (σ.set i none) H { heap := h',gens := s.gens,drawn := s.drawn,toks := s.toks,os := s.os } := by
  have nl : ∀ b o,X.s₀.heap.get? b = some o→b≠X.env.locals := fun b o e z => by
    have h1 := Heap.lt_size e
    have h2 := I.ok.above
    rw [z] at h1
    exact absurd h1 (Nat.not_lt.mpr h2)
  have cl : ∀ {c v},s.heap.IsCell c v→h'.IsCell c v := fun {c v} hc => by
    have hne : c≠X.env.locals := by
      intro z
      obtain ⟨o,e1,e2⟩ := hc
      obtain ⟨o',es,ep,ho,r⟩ := hm
      rw [z,ho] at e1
      cases e1
      rw [r.1] at e2
      cases e2
    obtain ⟨o,e1,e2⟩ := hc
    exact ⟨o,(sb.2 c hne).trans e1,e2⟩
  refine ⟨I.ok,I.os,I.bare,⟨fun b o e n f z => (sb.2 b (nl b o e)).trans (I.base.keep b o e n f z),fun b o e n f z => ?_,I.base.free,fun b o e z => ?_,I.base.tups,I.base.frzs,I.base.tbls⟩,?_,fun x c hc => ?_,I.free,I.freeC,fun p hp => ?_,fun b o e => ?_,by rw [List.length_set]; exact I.len⟩
  · obtain ⟨sl,e1⟩ := I.base.slot b o e n f z
    exact ⟨sl,(sb.2 b (nl b o e)).trans e1⟩
  · obtain ⟨o',e1⟩ := I.base.there b o e z
    exact ⟨o',(sb.2 b (nl b o e)).trans e1⟩
  · obtain ⟨m0,hm0,lk⟩ := I.loc
    refine ⟨_,hn,fun j x v hj hv vis => ?_⟩
    have hij : i≠j := by
      rintro rfl
      rw [List.getElem?_set,if_pos rfl] at hv
      split at hv <;> cases hv
    rw [List.getElem?_set_ne hij] at hv
    obtain ⟨w,rw',lo⟩ := lk j x v hj hv vis
    have hxn : x≠n := by
      rintro rfl
      exact hij ((List.getElem?_inj (List.getElem?_eq_some_iff.mp hi).1 hN).mp (hi.trans hj.symm))
    refine ⟨w,rw',?_⟩
    rcases lo with ⟨k,e⟩ | ⟨k,c,hc,ic⟩
    · refine .inl ⟨k,?_⟩
      show (if x = n then u else m x) = some w
      rw [if_neg hxn,hm.agree hm0]
      exact e
    · exact .inr ⟨k,c,hc,cl ic⟩
  · obtain ⟨v,hv⟩ := I.cell x c hc
    exact ⟨v,cl hv⟩
  · obtain ⟨p1,p2,p3,p4,p5⟩ := I.pin p hp
    exact ⟨(sb.2 _ p3).trans p1,p2,p3,p4,p5⟩
  · have hb : ∀ c u,H c = some u→c≠X.env.locals := fun c u e z => by rw [z,I.free] at e; cases e
    refine (I.hok b o e).stay (fun c v hc e1 => (sb.2 c ?_).trans e1) (fun _ z => z) fun _ _ z => z
    rcases hc with z | z
    · rw [z]; exact hb b o e
    · exact hb c _ z
theorem zfK {i : Nat} {n : Str} {pos : Pos} {v : V} {Q : Unit→Shared→Prop} (I : Inv X pins σ H s) (hN : X.N.Nodup) (hi : X.N[i]? = some n) (hv : σ[i]? = some (some v)) (hl : X.env.kindOf n = some NameKind.local) (hsc : X.env.scope.names.lookup n = some .local)
    (q : ∀ s',Inv X pins (σ.set i none) H s'→Q () s') : wpAny M A (unbindBehindTheSuite X.env n pos) Q E s := by
  unfold unbindBehindTheSuite
  refine wpAny_onRaise ?_
  obtain ⟨m,hm,lk⟩ := id I.loc
  obtain ⟨w,rw',lo⟩ := lk i n v hi hv (.inl hsc)
  have hmn : m n = some w := by
    rcases lo with ⟨_,e⟩ | ⟨k,_⟩
    · exact e
    · rw [hl] at k; rcases k with k | k <;> cases k
  refine wpAny_unbindName_local hl hm hmn ?_ fun h' u hn sb => q _ (Inv.unbind I hN hi hm hn sb fun _ _ _ => trivial)
  rw [I.ok.kind]; rfl
end
end DL
end
section
namespace DL
open PySem PySem.Spec PyProof.Rows L2 PySem.W PySem.Calls
noncomputable def XO (K : PySem.W.Frag) (C : Addr) (bm : List Value) : Prop := ∃ N nm q bs hdct sn sub ab col dd k0 k1 k2 k3 k5 newId,K.lookup C = some (excClassObj nm q C N bs bm hdct sn sub ab col dd k0 k1 k2 k3 k5 newId)
noncomputable abbrev _root_.L2.Cx.held (X : Cx) (v : Value) : Cx := { X with A := X.A.mark (some v),calm := false,xe := fun _ _ => False }
section
variable {X : Cx} {pins : List (Addr × Obj)} {σ : L2.St} {H H' : Hp} {s s' : Shared} {a C : Addr} {od : Option Addr}
theorem Inv.held (I : Inv X pins σ H s) (v : Value) : Inv (X.held v) pins σ H s :=
  ⟨⟨I.ok.mod,I.ok.kind,I.ok.glob,I.ok.blt,I.ok.above,I.ok.inj,I.ok.has,I.ok.cab,(fun h => nomatch h),I.ok.frames,I.ok.stk,I.ok.exf,I.ok.bs,I.ok.bsz,I.ok.noex,I.ok.exfs,I.ok.funs,I.ok.frf⟩,I.os,I.bare,I.base,I.loc,I.cell,I.free,I.freeC,I.pin,I.hok,I.len⟩
theorem Inv.unheld {v : Value} (hh : X.calm = true→X.A.handled = none) (I : Inv (X.held v) pins σ H s) : Inv X pins σ H s :=
  ⟨⟨I.ok.mod,I.ok.kind,I.ok.glob,I.ok.blt,I.ok.above,I.ok.inj,I.ok.has,I.ok.cab,hh,I.ok.frames,I.ok.stk,I.ok.exf,I.ok.bs,I.ok.bsz,I.ok.noex,I.ok.exfs,I.ok.funs,I.ok.frf⟩,I.os,I.bare,I.base,I.loc,I.cell,I.free,I.freeC,I.pin,I.hok,I.len⟩
theorem Fly.noted {E : Value→Shared→Prop} {M : Model} {Q : Unit→Shared→Prop} (F : Fly X.prog X.w X.stack H s H' a (.ref C) od s') (I : Inv X pins σ H s) (hst : X.stack = X.env::X.outer) (hfr : X.env.frame = some X.env.locals)
    (q : ∀ h' oe vs tb ot ts,Inv X pins σ (upd H' a (.ext (XcO a C od))) { heap := h',gens := s'.gens,drawn := s'.drawn,toks := s'.toks,os := s'.os }→H' a = none→h'.get? a = some oe→oe.cls = .ref C→oe.data = .fields vs→vs[1]? = some (.ref tb)→h'.get? tb = some ot→ot.data = .fields ts→ts[3]? = some Value.none →
      Q () { heap := h',gens := s'.gens,drawn := s'.drawn,toks := s'.toks,os := s'.os }) :
    wpAny M X.A (noteFrame (.ref a) X.env) (fun _ s2 => wpAny M X.A (setFlight (.ref a) none) Q E s2) E s' := by
  obtain ⟨B,hB,hBa,hff,⟨oe,vs,r1,r2,r3,r4,r5⟩,hd,hH⟩ := F.ex
  have hHa : H' a = none := by
    cases e : H' a with
    | none => rfl
    | some u => obtain ⟨o',z⟩ := hH a u e; rw [hBa] at z; cases z
  have haf : a∉frs X.stack := fun z => by
    obtain ⟨_,o,e1,nf⟩ := hff.mem z
    rw [r1] at e1; cases e1
    exact nf vs r4
  have hs1 : 1 < vs.size := by
    rcases r5 with z | ⟨_,_,_,z,_⟩ | ⟨_,_,_,_,_,z,_⟩ <;> exact (Array.getElem?_eq_some_iff.mp z).1
  have sna : ∀ b o,s.heap.get? b = some o→b≠a := fun b o e z => by
    rw [z] at e
    obtain ⟨o',z2⟩ := hd a o e haf
    rw [hBa] at z2; cases z2
  have fin : ∀ (T : Option Addr) h',(∀ b,T = some b→B.get? b = none)→Lft (frs (X.env::X.outer)) a oe vs T Value.none s'.heap h'→Q () { heap := h',gens := s'.gens,drawn := s'.drawn,toks := s'.toks,os := s'.os } := fun T h' hT l => by
    rw [← hst] at l
    have same : ∀ b o,(∃ o',B.get? b = some o')→s'.heap.get? b = some o→h'.get? b = some o := fun b o ⟨o',e⟩ h => by
      refine l.keep b o (fun z => ?_) (fun z => by rw [z,hBa] at e; cases e) (fun z => by rw [hT b z] at e; cases e) h
      rw [(hff.mem z).1] at e
      cases e
    obtain ⟨tb,ot,ts,t1,t2,t3,t4,t5,t6⟩ := l.obj
    have hok1 : HOk X.prog X.w H' h' := fun b u e => by
      refine (F.hok b u e).stay (fun c v hc e1 => same c v ?_ e1) (fun _ z => z) fun _ _ z => z
      rcases hc with hc | hc
      · rw [hc]; exact hH b u e
      · exact hH c _ hc
    have hne : ∀ b u,H' b = some u→b≠a := fun b u e z => by rw [z,hHa] at e; cases e
    have hok2 : HOk X.prog X.w (upd H' a (.ext (XcO a C od))) h' := fun b u e => by
      by_cases hb : b = a
      · subst hb
        rw [zag] at e
        cases e
        exact ⟨⟨_,_,t3,r2,r3,rfl⟩,⟨_,t3⟩,fun h1 h2 ⟨oe',vs',z1,z2,z3,z4⟩ k => ⟨oe',vs',k _ z1,z2,z3,z4⟩⟩
      · rw [zae hb] at e
        refine (hok1 b u e).stay (fun _ _ _ z => z) (fun c z => ?_) fun c xs z => ?_
        · rw [zae (hne c _ z)]; exact z
        · rw [zae (hne c _ z)]; exact z
    have I2 : Inv X pins σ (upd H' a (.ext (XcO a C od))) { heap := h',gens := s'.gens,drawn := s'.drawn,toks := s'.toks,os := s'.os } := by
      refine I.call' (ch := []) F.os ⟨fun b o e n f z => ?_,fun b o e n f z => ?_,fun b o e n z => ?_,fun b o e z => ?_,fun b xs e => ?_,fun b o u e => ?_,fun b ps e => ?_⟩ hok2 F.bare fun b z => absurd z (by simp)
      · exact same b o (hd b o e f) (F.un.keep b o e n f z)
      · obtain ⟨sl,e1⟩ := F.un.slot b o e n f z
        obtain ⟨_,o2,e2,nf⟩ := hff.mem f
        rw [e1] at e2
        cases e2
        obtain ⟨sl2,e3⟩ := l.slot b _ e1 nf
        exact ⟨sl2,e3⟩
      · rw [zae (sna b o e)]; exact F.un.free b o e n z
      · obtain ⟨o1,e1⟩ := F.un.there b o e z
        by_cases f : b∈frs X.stack
        · obtain ⟨_,o2,e2,nf⟩ := hff.mem f
          obtain ⟨sl,e3⟩ := l.slot b _ e2 nf
          exact ⟨_,e3⟩
        · exact ⟨o1,same b o1 (hd b o e f) e1⟩
      · have := F.un.tups b xs e; rw [zae (hne b _ this)]; exact this
      · have := F.un.frzs b o u e; rw [zae (hne b _ this)]; exact this
      · obtain ⟨mo,this⟩ := F.un.tbls b ps e
        exact ⟨mo,by rw [zae (hne b _ this)]; exact this⟩
    exact q h' _ _ tb ot ts I2 hHa t3 r2 rfl (Array.getElem?_setIfInBounds_self_of_lt hs1) t4 t5 t6
  have nt2 : wpAny M X.A (noteFrame (.ref a) X.env) (fun _ s2 => zh5 a s2.heap∧wpAny M X.A (setFlight (.ref a) none) Q E s2) E s'→wpAny M X.A (noteFrame (.ref a) X.env) (fun _ s2 => wpAny M X.A (setFlight (.ref a) none) Q E s2) E s' := fun z => wpAny_mono z (fun _ _ z => z.2) fun _ _ z => z
  have hff2 := hff
  rw [hst] at hff2
  rcases r5 with z | ⟨T,oT,ts,z1,z2,z3,z4,z5,z6⟩ | ⟨l,T,oT,ts,zl,z1,z2,z3,z4,z5,z6⟩
  · exact nt2 (zcT (T := none) (by rw [I.ok.frames,hst]) hff2 hfr r1 r4 (fl := none) (.inl ⟨z,rfl⟩) fun h' l => fin none h' (fun b e => nomatch e) l)
  · exact nt2 (zcT (T := some T) (by rw [I.ok.frames,hst]) hff2 hfr r1 r4 (fl := none) (.inr (.inl ⟨T,oT,ts,rfl,z1,z3,z4,z5,z6⟩)) fun h' l => fin (some T) h' (fun b e => by cases e; exact z2) l)
  · have hl : l = X.env.locals := by
      unfold topF at zl
      rw [hst] at zl
      exact (Option.some.inj (hfr.symm.trans (show X.env.frame = some l from zl))).symm
    subst hl
    exact nt2 (zcT (T := some T) (by rw [I.ok.frames,hst]) hff2 hfr r1 r4 (fl := none) (.inr (.inr ⟨T,oT,ts,rfl,z1,z3,z4,z5,z6⟩)) fun h' l => fin (some T) h' (fun b e => by cases e; exact z2) l)
end
end DL
end
section
namespace DL
open PySem PySem.Spec PyProof.Rows L2 PySem.W PySem.Calls
section
variable {X : Cx} {pins : List (Addr × Obj)} {σ : L2.St} {H H' : Hp} {s s' : Shared} {a C T : Addr} {od : Option Addr}
theorem zhX {i : Nat} {n xT : Str} {bm bmT : List Value} {np hpos : Pos} {b₀ : Stmt} {suite : List Stmt} {t : TS} {D : Ends} {rest : List ExceptHandler} (F : Fly X.prog X.w X.stack H s H' a (.ref C) od s') (I : Inv X pins σ H s) (hst : X.stack = X.env::X.outer) (hfr : X.env.frame = some X.env.locals) (hcalm : X.calm = true)
    (cT : X.mg xT = some (.ref T)) (oT : XO X.K T bmT) (hbT : bmT.contains (Value.type "BaseException") = true) (oC : XO X.K C bm) (hit : (Value.ref C::bm).contains (.ref T) = true) (hg : Gl X xT)
    (hN : X.N.Nodup) (hi : X.N[i]? = some n) (hl : X.env.kindOf n = some NameKind.local) (hsc : X.env.scope.names.lookup n = some .local)
    (hs : PSs (X.held (.ref a)) (b₀::suite) t)
    (q : H' a = none→t { nx := fun σ' H2 => D.nx (σ'.set i none) H2,rt := fun _ _ => False } (σ.set i (some (.ref a))) (upd H' a (.ext (XcO a C od)))) (hdb : (xT == ("__debug__" : Str)) = false := by decide) :
    wpAny (model X.prog X.w) X.A (noteFrame (.ref a) X.env) (fun _ s₂ => wpAny (model X.prog X.w) X.A (setFlight (.ref a) none) (fun _ s₃ => wpAny (model X.prog X.w) X.A (handleBy (.ref a) X.env (.ExceptHandler (some (.Name xT np)) (some n) (b₀::suite) hpos::rest)) (SP X pins D) X.xe s₃) X.xe s₂) X.xe s' := by
  refine F.noted I hst hfr fun h' oe vs tb ot ts I1 hHa e1 e2 e3 e4 e5 e6 e7 => ?_
  refine wpAny_handleBy_cons ?_ (by intro z; cases z)
  have Ih := Inv.held I1 (.ref a)
  refine codeAny_handlers_test (zcv (X := X.held (.ref a)) Ih hg cT ?_ hdb)
  obtain ⟨N1,nm1,q1,bs1,hd1,sn1,sub1,ab1,col1,dd1,a0,a1,a2,a3,a5,nw1,z1⟩ := oC
  obtain ⟨N2,nm2,q2,bs2,hd2,sn2,sub2,ab2,col2,dd2,c0,c1,c2,c3,c5,nw2,z2⟩ := oT
  refine zdp (I1.kIn _ _ z1) (I1.kIn _ _ z2) e1 e2 hbT ?_
  rw [hit,if_pos rfl]
  refine codeAny_handlers_suite_as ?_
  unfold setFlight
  refine wpAny_bind (wpAny_field e1 e3 e4 ?_)
  rw [if_pos (by rfl)]
  have h3s : 3 < ts.size := (Array.getElem?_eq_some_iff.mp e7).1
  refine wpAny_setField e5 e6 h3s ?_
  have I2 : Inv X pins σ (upd H' a (.ext (XcO a C od))) { heap := h'.update tb (Obj.mapFields fun v => v.setIfInBounds 3 Value.none),gens := s'.gens,drawn := s'.drawn,toks := s'.toks,os := s'.os } := by
    refine I1.kept fun b u e => ?_
    show (h'.update tb _).get? b = some u
    by_cases hb : b = tb
    · subst hb
      have e5' : h'.get? b = some ot := e5
      have : u = ot := by rw [show h'.get? b = some u from e] at e5'; cases e5'; rfl
      subst this
      have mf : Obj.mapFields (fun v => v.setIfInBounds 3 Value.none) u = u := by
        obtain ⟨c,d,da,sl⟩ := u
        have : da = .fields ts := e6
        subst this
        show ({ cls := c,dict := d,data := .fields (ts.setIfInBounds 3 Value.none),slots := sl } : Obj) = _
        have : ts.setIfInBounds 3 Value.none = ts := by
          refine Array.ext_getElem? fun j => ?_
          by_cases hj : 3 = j
          · subst hj; rw [Array.getElem?_setIfInBounds_self_of_lt h3s,e7]
          · rw [Array.getElem?_setIfInBounds_ne hj]
        rw [this]
      have nf : (Obj.mapFields (fun v => v.setIfInBounds 3 Value.none) u).isFreed = false := by
        obtain ⟨c,d,da,sl⟩ := u
        have : da = .fields ts := e6
        subst this
        rfl
      have := Heap.get?_update_self (Obj.mapFields fun v => v.setIfInBounds 3 Value.none) e5' nf
      rw [mf] at this
      exact this
    · rw [Heap.get?_update_ne _ _ _ _ hb]; exact e
  refine zcP (X := X.held (.ref a)) (i := i) (v := .ref a) (Inv.held I2 (.ref a)) hN hi (.inl hsc) rfl (fun s3 I3 => ?_) (.inr hsc)
  refine wpAny_mono (hs pins s3 _ _ _ I3 (q hHa)) (fun f s4 h4 => ?_) fun _ _ z => False.elim z
  have fin : ∀ {σ' : L2.St} {H2 : Hp} ,Inv (X.held (.ref a)) pins σ' H2 s4→D.nx (σ'.set i none) H2→f = Flow.next→wpAny (model X.prog X.w) X.A (do
      bindName X.env n Value.none
      unbindBehindTheSuite X.env n hpos) (fun _ s₅ => SP X pins D f s₅) X.xe s4 := fun {σ' H2} I4 k hf => by
    subst hf
    have I4' : Inv X pins σ' H2 s4 := Inv.unheld I.ok.hd I4
    refine wpAny_bind (wpAny_bindName (zcP (i := i) (v := .non) I4' hN hi (.inl hsc) rfl (fun s5 I5 => ?_) (.inr hsc)))
    have hlen : i < σ'.length := by rw [I4'.len]; exact (List.getElem?_eq_some_iff.mp hi).1
    refine zfK (v := .non) I5 hN hi (by rw [List.getElem?_set_self hlen]) hl hsc fun s6 I6 => ?_
    rw [List.set_set] at I6
    exact ⟨_,H2,I6,k⟩
  cases f with
  | next => obtain ⟨σ',H2,I4,k⟩ := h4; exact fin I4 k rfl
  | brk => obtain ⟨σ',H2,I4,k⟩ := h4; exact k.elim
  | cont => obtain ⟨σ',H2,I4,k⟩ := h4; exact k.elim
  | ret u => obtain ⟨v,σ',H2,I4,_,k⟩ := h4; exact k.elim
end
end DL
end
section
namespace DL
open PySem PySem.Spec PyProof.Rows L2 PySem.W PySem.Calls
theorem SI.cx {X X' : Cx} {g : GE} {m : List Md} {r : Rho} {G : GH} {st : L2.St} {H : Hp} (s : SI X g m r G st H) (h : X'.K = X.K) : SI X' g m r G st H := by
  constructor
  · rw [h]; exact s.gok
  · exact s.old
  · exact s.ge
  · exact s.gf
  · exact s.lm
  · exact s.lr
  · rw [h]; exact s.sh
  · rw [h]; exact s.ow
  · rw [h]; exact s.bw
  · exact s.dis
  · exact s.lk
theorem SI.unset {X : Cx} {g : GE} {m : List Md} {r : Rho} {G : GH} {st : L2.St} {H : Hp} {i : Nat} (s : SI X g m r G st H) (hm : m[i]? = some .sh) : SI X g m (r.set i none) G (st.set i none) H := by
  have key : ∀ {j : Nat} {d : D},(r.set i none)[j]? = some (some d)→i≠j∧r[j]? = some (some d) := fun {j d} h => by
    have hij : i≠j := by
      rintro rfl
      rw [List.getElem?_set,if_pos rfl] at h
      split at h <;> cases h
    rw [List.getElem?_set_ne hij] at h
    exact ⟨hij,h⟩
  refine ⟨s.gok,s.old,s.ge,s.gf,by rw [List.length_set]; exact s.lm,by rw [List.length_set,List.length_set]; exact s.lr,fun j d h hj => ?_,fun j d h hj => ?_,fun j d h hj => ?_,fun j k a d e hjk h1 h2 m1 m2 q1 q2 => ?_,fun j o h hj => ?_⟩
  · obtain ⟨hij,h⟩ := key h
    rw [List.getElem?_set_ne hij]; exact s.sh j d h hj
  · obtain ⟨hij,h⟩ := key h
    rw [List.getElem?_set_ne hij]; exact s.ow j d h hj
  · obtain ⟨hij,h⟩ := key h
    rw [List.getElem?_set_ne hij]; exact s.bw j d h hj
  · obtain ⟨z1,h1⟩ := key h1
    obtain ⟨z2,h2⟩ := key h2
    rw [List.getElem?_set_ne z1] at q1
    rw [List.getElem?_set_ne z2] at q2
    exact s.dis j k a d e hjk h1 h2 m1 m2 q1 q2
  · have hij : i≠j := by rintro rfl; rw [hm] at hj; cases hj
    obtain ⟨l1,l2⟩ := s.lk j o h hj
    exact ⟨by rw [List.getElem?_set_ne hij]; exact l1,fun d hd => l2 d (by rw [List.getElem?_set_ne hij] at hd; exact hd)⟩
noncomputable abbrev _root_.L2.Cx.tr (X : Cx) (ps : List (Addr × Obj)) (E : Value→Shared→Prop) : Cx := { X with pn := ps,xe := E }
section
variable {X : Cx} {pins pins' : List (Addr × Obj)} {σ : L2.St} {H : Hp} {s : Shared} {E : Value → Shared → Prop}
theorem Inv.tr (I : Inv X pins σ H s) (E : Value→Shared→Prop) : Inv (X.tr (X.pn++pins) E) [] σ H s :=
  ⟨⟨I.ok.mod,I.ok.kind,I.ok.glob,I.ok.blt,I.ok.above,I.ok.inj,I.ok.has,I.ok.cab,I.ok.hd,I.ok.frames,I.ok.stk,I.ok.exf,I.ok.bs,I.ok.bsz,I.ok.noex,I.ok.exfs,I.ok.funs,I.ok.frf⟩,I.os,I.bare,I.base,I.loc,I.cell,I.free,I.freeC,fun p hp => I.pin p (by rw [List.append_nil] at hp; exact hp),I.hok,I.len⟩
theorem Inv.untr (I : Inv (X.tr (X.pn++pins) E) pins' σ H s) : Inv X pins σ H s :=
  ⟨⟨I.ok.mod,I.ok.kind,I.ok.glob,I.ok.blt,I.ok.above,I.ok.inj,I.ok.has,I.ok.cab,I.ok.hd,I.ok.frames,I.ok.stk,I.ok.exf,I.ok.bs,I.ok.bsz,I.ok.noex,I.ok.exfs,I.ok.funs,I.ok.frf⟩,I.os,I.bare,I.base,I.loc,I.cell,I.free,I.freeC,fun p hp => I.pin p (List.mem_append_left _ hp),I.hok,I.len⟩
theorem SP.untr {D : Ends} {f : Flow} (h : SP (X.tr (X.pn++pins) E) [] D f s) : SP X pins D f s := by
  cases f with
  | next => obtain ⟨σ',H',I,q⟩ := h; exact ⟨σ',H',Inv.untr I,q⟩
  | brk => obtain ⟨σ',H',I,q⟩ := h; exact ⟨σ',H',Inv.untr I,q⟩
  | cont => obtain ⟨σ',H',I,q⟩ := h; exact ⟨σ',H',Inv.untr I,q⟩
  | ret u => obtain ⟨v,σ',H',I,r,q⟩ := h; exact ⟨v,σ',H',Inv.untr I,r,q⟩
end
noncomputable def zh4 (K : PySem.W.Frag) (T : Addr) (hit : Str→Bool) : Prop := ∀ nm C,hit nm = true→XN K nm C→∃ bm,XO K C bm∧(Value.ref C::bm).contains (.ref T) = true
noncomputable def xNm : D→Option Str
  | .obj 0 ((_,.str nm)::_) => some nm
  | _ => none
section
variable {X : Cx} {g : GE} {ro : Bool} {m m1 mb : List Md} {T : Addr} {fb fh : FS}
end
end DL
end
section
namespace DL
open PySem PySem.Spec PyProof.Rows L2 PySem.W PySem.Calls
theorem zju : builtinKind "BaseException.__getattribute__" = some .slot := by kernel_rfl
theorem zg6 : splitId "BaseException.__getattribute__" = some ("BaseException","__getattribute__") := by decide +kernel
theorem zhq : plainId "BaseException.__getattribute__" = true := by kernel_rfl
theorem ziM : typeOf (.builtin "BaseException.__getattribute__") = pure (.type "wrapper_descriptor") := by kernel_rfl
section
variable {prog : Program} {w : World} {A : Around} {E : Value → Shared → Prop} {s : Shared} {nm q : Str} {C N a : Addr} {bs bm : List Value} {hdct : Bool} {sn : List Str} {sub : List Value} {ab : Bool} {col : Option Bool} {dd : Option Addr} {k0 k1 k2 k3 k5 : Option Value} {newId : String} {oe : Obj}
theorem zfc {T : String} {Q : Bool→Shared→Prop} (hC : s.heap.get? C = some (excClassObj nm q C N bs bm hdct sn sub ab col dd k0 k1 k2 k3 k5 newId)) (he : s.heap.get? a = some oe) (hc : oe.cls = .ref C) (hq : Q ((Value.ref C::bm).contains (.type T)) s) : wpAny (model prog w) A (isInstance (.ref a) (.type T)) Q E s := by
  unfold isInstance
  refine wpAny_bind (wpAny_typeOf_ref he ?_)
  rw [hc]
  obtain ⟨hh,hg,hdr,ht,ho⟩ := s
  exact wpAny_isSubtype_exc hC hq
theorem zhW {v : Value} {Q : Unit→Shared→Prop} (hC : s.heap.get? C = some (excClassObj nm q C N bs bm hdct sn sub ab col dd k0 k1 k2 k3 k5 newId)) (he : s.heap.get? a = some oe) (hc : oe.cls = .ref C) (hb : bm.contains (Value.type "BaseException") = true) (hq : Q () s) :
    wpAny (model prog w) A (checkBuiltinCall "BaseException.__getattribute__" ⟨[.ref a,v],[]⟩) Q E s := by
  unfold checkBuiltinCall
  simp only [zju,zg6]
  refine wpAny_bind (zfc hC he hc ?_)
  rw [List.contains_cons,hb,Bool.or_true,if_neg (by simp)]
  have := F.args_bexc_ga (.ref a) v
  unfold argsOk at this
  revert this
  generalize Manifest.signature? "BaseException.__getattribute__" = sg
  intro this
  cases sg with
  | none => exact wpAny_pure hq
  | some sig =>
    have e : Bind.checkArgs "BaseException.__getattribute__" sig ⟨[.ref a,v],[]⟩ = pure () := this
    show wpAny _ _ (Bind.checkArgs "BaseException.__getattribute__" sig ⟨[.ref a,v],[]⟩) _ _ _
    rw [e]
    exact wpAny_pure hq
theorem zjL {v : Value} {Q : Value→Shared→Prop} (hC : s.heap.get? C = some (excClassObj nm q C N bs bm hdct sn sub ab col dd k0 k1 k2 k3 k5 newId)) (he : s.heap.get? a = some oe) (hc : oe.cls = .ref C) (hb : bm.contains (Value.type "BaseException") = true)
    (h : wpAny (model prog w) A.in1 (Builtin.«object.__getattribute__» ⟨[.ref a,v],[]⟩) (fun fin s' => ∃ u,fin = .done (.ret u)∧Q u s') E s) :
    wpAny (model prog w) A (call (.builtin "BaseException.__getattribute__") [.ref a,v]) Q E s := by
  refine wpAny_call (codeAny_call_builtin zhq F.entry_bexc_ga (zhW hC he hc hb ?_))
  refine wpAny_mono h (fun fin s' ⟨u,e,hq⟩ => ?_) fun e s' z => z
  subst e
  exact hq
theorem zgW {K : PySem.W.Frag} {v : Value} {fill expr : Bool} {Q : Value→Shared→Prop} (kin : K.In s.heap) (hC : s.heap.get? C = some (excClassObj nm q C N bs bm hdct sn sub ab col dd k0 k1 k2 k3 k5 newId)) (he : s.heap.get? a = some oe) (hc : oe.cls = .ref C) (hb : bm.contains (Value.type "BaseException") = true)
    (g1 : findIn K (.ref C) "__getattribute__" = some (some (.builtin "BaseException.__getattribute__"))) (g2 : findIn K (.ref C) "__getattr__" = some none)
    (h : wpAny (model prog w) A.in1 (Builtin.«object.__getattribute__» ⟨[.ref a,v],[]⟩) (fun fin s' => ∃ u,fin = .done (.ret u)∧handedOut u = pure u∧Q u s') (fun _ _ => False) s) :
    wpAny (model prog w) A (getAttrBy (.ref a) v fill expr) Q E s := by
  unfold getAttrBy
  refine wpAny_holding (wpAny_bind (wpAny_typeOf_ref he ?_))
  rw [hc]
  refine wpAny_bind (looks_findIn kin g1 _ _ _ _ (fun b o e => e) ?_)
  show wpAny _ _ (if (onTheHeap (Value.ref C) && (Value.builtin "BaseException.__getattribute__" == Value.builtin "object.__getattribute__")) = true then _ else _) _ _ _
  rw [if_neg (by intro z; rw [show (Value.builtin "BaseException.__getattribute__" == Value.builtin "object.__getattribute__") = false from by decide +kernel,Bool.and_false] at z; cases z)]
  unfold getAttrByItsOwn hookBefore
  rw [if_pos (by rfl)]
  refine wpAny_bind (looks_findIn kin g2 _ _ _ _ (fun b o e => e) ?_)
  refine wpAny_bind (wpAny_attempt (wpAny_holding ?_))
  unfold callGetattribute
  have hx : (expr && onTheHeap (Value.builtin "BaseException.__getattribute__")) = false := by cases expr <;> rfl
  rw [hx,if_neg Bool.false_ne_true]
  unfold boundAndCalled bindSpecial
  rw [ziM]
  refine wpAny_bind (wpAny_bind (wpAny_pure ?_))
  rw [if_pos (by decide)]
  refine wpAny_pure ?_
  refine zjL hC he hc hb (wpAny_mono h (fun fin s' ⟨u,e,ho,hq⟩ => ⟨u,e,?_⟩) fun _ _ z => False.elim z)
  show wpAny _ _ (handedOut u) _ _ _
  rw [ho]
  exact wpAny_pure hq
end
end DL
end
section
namespace DL
open PySem PySem.Spec PyProof.Rows L2 PySem.W PySem.Calls
theorem zjt : builtinKind "getset_descriptor.__get__" = some .slot := by kernel_rfl
theorem zg5 : splitId "getset_descriptor.__get__" = some ("getset_descriptor","__get__") := by decide +kernel
theorem zhp : plainId "getset_descriptor.__get__" = true := by kernel_rfl
theorem zhS : entryFor table "getset_descriptor.__get__" = some Builtin.«getset_descriptor.__get__» := by kernel_rfl
theorem zhR : entryFor table "object.__class__" = some Builtin.«object.__class__» := by kernel_rfl
theorem ziL : typeOf (.builtin "object.__class__") = pure (.type "getset_descriptor") := by kernel_rfl
theorem zjP (a b c : Value) : argsOk "getset_descriptor.__get__" ⟨[a,b,c],[]⟩ := by kernel_rfl
theorem zho : plainId "object.__class__" = true := by kernel_rfl
theorem zk8 : Builtin.Getset_descriptor.descrNameAndClass (.builtin "object.__class__") = pure (Str.ofString "__class__",Value.type "object") := by kernel_rfl
theorem zkb : isSubtype (.type "getset_descriptor") (.type "getset_descriptor") = pure true := by rw [isSubtype_type]; kernel_rfl
end DL
end
section
namespace DL
open PySem PySem.Spec PyProof.Rows L2 PySem.W PySem.Calls
section
variable {prog : Program} {w : World} {A : Around} {E : Value → Shared → Prop} {s : Shared} {nm q : Str} {C N a : Addr} {bs bm : List Value} {hdct : Bool} {sn : List Str} {sub : List Value} {ab : Bool} {col : Option Bool} {dd : Option Addr} {k0 k1 k2 k3 k5 : Option Value} {newId : String} {oe : Obj}
theorem zhL {Q : Value→Shared→Prop} (hC : s.heap.get? C = some (excClassObj nm q C N bs bm hdct sn sub ab col dd k0 k1 k2 k3 k5 newId)) (he : s.heap.get? a = some oe) (hc : oe.cls = .ref C) (hb : bm.contains (Value.type "object") = true) (hq : Q (.ref C) s) :
    wpAny (model prog w) A (call (.builtin "getset_descriptor.__get__") [.builtin "object.__class__",.ref a,.ref C]) Q E s := by
  refine wpAny_call (codeAny_call_builtin zhp zhS ?_)
  unfold checkBuiltinCall
  simp only [zjt,zg5]
  unfold isInstance
  rw [ziL]
  refine wpAny_bind (wpAny_bind (wpAny_pure ?_))
  rw [zkb]
  refine wpAny_pure ?_
  rw [if_neg (by decide)]
  have this := zjP (.builtin "object.__class__") (.ref a) (.ref C)
  unfold argsOk at this
  revert this
  generalize Manifest.signature? "getset_descriptor.__get__" = sg
  intro this
  have body : wpAny (model prog w) A.in1 (Builtin.«getset_descriptor.__get__» ⟨[.builtin "object.__class__",.ref a,.ref C],[]⟩) (fun fin s' => match fin with
      | Fin.done f => (match (Except.ok f : Result) with | .ok (.ret v) => Q v s' | .ok _ => False | .error e => E e s')
      | Fin.again c' => c'.quiet = true∧codeAny (model prog w) A c' (fun r s' => match r with | .ok (.ret v) => Q v s' | .ok _ => False | .error e => E e s') s') (fun e s' => E e s') s := by
    unfold Builtin.«getset_descriptor.__get__» Builtin.Getset_descriptor.descrGet Builtin.Getset_descriptor.descrGetArgs
    refine wpAny_bind ?_
    show wpAny _ _ (pure ((Value.builtin "object.__class__",some (Value.ref a),some (Value.ref C)) : Value × Option Value × Option Value)) _ _ _
    refine wpAny_pure ?_
    unfold Builtin.Getset_descriptor.descrGetter Builtin.Getset_descriptor.descrCheckInstance
    dsimp only
    rw [zk8]
    refine wpAny_bind (wpAny_bind (wpAny_pure (wpAny_bind (zfc hC he hc ?_))))
    rw [List.contains_cons,hb,Bool.or_true,if_neg (by simp)]
    refine wpAny_pure (wpAny_pure ⟨plainId_quiet zho _,?_⟩)
    refine codeAny_builtin zhR ?_
    unfold Builtin.«object.__class__» shownTypeOf
    refine wpAny_bind (wpAny_bind (wpAny_typeOf_ref he ?_))
    rw [hc,if_neg (by intro z; cases z)]
    exact wpAny_pure (wpAny_pure hq)
  cases sg with
  | none => exact wpAny_pure body
  | some sig =>
    have e : Bind.checkArgs "getset_descriptor.__get__" sig ⟨[.builtin "object.__class__",.ref a,.ref C],[]⟩ = pure () := this
    show wpAny _ _ (Bind.checkArgs "getset_descriptor.__get__" sig ⟨[.builtin "object.__class__",.ref a,.ref C],[]⟩) _ _ _
    rw [e]
    exact wpAny_pure body
theorem zhM {K : PySem.W.Frag} {tk : Tok} {Q : Value→Shared→Prop} (kin : K.In s.heap) (hC : s.heap.get? C = some (excClassObj nm q C N bs bm hdct sn sub ab col dd k0 k1 k2 k3 k5 newId)) (he : s.heap.get? a = some oe) (hc : oe.cls = .ref C) (hb : bm.contains (Value.type "object") = true)
    (g1 : findIn K (.ref C) "__class__" = some (some (.builtin "object.__class__"))) (g2 : specialIn K (.builtin "object.__class__") "__get__" = some (some (.builtin "getset_descriptor.__get__"))) (g3 : takesIn K (.builtin "object.__class__") = some true) (hq : Q (.ref C) s) :
    wpAny (model prog w) A (Builtin.«object.__getattribute__» ⟨[.ref a,.str "__class__" tk],[]⟩) (fun fin s' => ∃ u,fin = .done (.ret u)∧handedOut u = pure u∧Q u s') E s := by
  unfold Builtin.«object.__getattribute__»
  refine wpAny_bind ?_
  show wpAny _ _ (pure ((Value.ref a,[Value.str "__class__" tk]) : Value × List Value)) _ _ _
  refine wpAny_pure ?_
  show wpAny _ _ (Builtin.ObjectAttr.attrName (Value.str "__class__" tk) >>= _) _ _ _
  refine wpAny_bind ?_
  show wpAny _ _ (pure (Str.ofString "__class__")) _ _ _
  refine wpAny_pure (wpAny_bind (wpAny_typeOf_ref he ?_))
  rw [hc]
  refine wpAny_bind ?_
  unfold Builtin.ObjectAttr.find
  refine wpAny_bind (looks_findIn kin g1 _ _ _ _ (fun b o e => e) ?_)
  refine wpAny_bind ?_
  show wpAny _ _ (specialOf (Value.builtin "object.__class__") (Str.ofString "__get__")) _ _ _
  refine looks_specialIn kin g2 _ _ _ _ (fun b o e => e) ?_
  refine wpAny_bind ?_
  show wpAny _ _ (Builtin.ObjectAttr.takesStores (Value.builtin "object.__class__") >>= _) _ _ _
  refine wpAny_bind (looks_takesIn kin g3 _ _ _ _ (fun b o e => e) ?_)
  rw [if_pos rfl]
  refine wpAny_pure (wpAny_bind (wpAny_rule (wpAny_pure ?_)))
  unfold Builtin.ObjectAttr.bindTo
  show wpAny _ _ (holding [Value.builtin "object.__class__"] (call (Value.builtin "getset_descriptor.__get__") [Value.builtin "object.__class__",Value.ref a,Value.ref C]) >>= fun v => ret v) _ _ _
  refine wpAny_bind (wpAny_holding (zhL hC he hc hb ?_))
  exact wpAny_pure ⟨_,rfl,rfl,hq⟩
end
end DL
end
section
namespace DL
open PySem PySem.Spec PyProof.Rows L2 PySem.W PySem.Calls
structure XA (K : PySem.W.Frag) (C : Addr) (bm : List Value) : Prop where
  ob : XO K C bm
  be : bm.contains (Value.type "BaseException") = true
  bo : bm.contains (Value.type "object") = true
  ga : findIn K (.ref C) "__getattribute__" = some (some (.builtin "BaseException.__getattribute__"))
  gn : findIn K (.ref C) "__getattr__" = some none
  gc : findIn K (.ref C) "__class__" = some (some (.builtin "object.__class__"))
  gg : specialIn K (.builtin "object.__class__") "__get__" = some (some (.builtin "getset_descriptor.__get__"))
  gt : takesIn K (.builtin "object.__class__") = some true
theorem ze4 {K : PySem.W.Frag} {a C : Addr} {od : Option Addr} {bm : List Value} (x : XA K C bm) : KitX K (.ref a) (.ref C) (XcO a C od) := by
  obtain ⟨N1,nm1,q1,bs1,hd1,sn1,sub1,ab1,col1,dd1,a0,a1,a2,a3,a5,nw1,z1⟩ := x.ob
  refine ⟨fun M h kin hx A Q E s hk hq => ?_,fun M h kin hx A Q E s hk hq => ?_,fun h tp dd its n sl kin ht => ?_,fun {prog w A E Q s} kin hx hq => ?_⟩
  · obtain ⟨oe,vs,e1,e2,_⟩ := hx
    exact wpAny_typeOf_ref (hk _ _ e1) (by rw [e2]; exact hq)
  · obtain ⟨hh,hg,hdr,ht,ho⟩ := s
    exact ks_wpAny_isType_cls (hk _ _ (kin _ _ z1)) rfl hq
  · cases hb : (Value.ref C == Value.ref tp) with
    | false => rfl
    | true =>
      have e : Value.ref C = Value.ref tp := eq_of_beq hb
      cases e
      have := kin _ _ z1
      rw [ht] at this
      have h2 := congrArg Obj.data (Option.some.inj this)
      cases h2
  · obtain ⟨oe,vs,e1,e2,_⟩ := hx
    unfold getAttr?
    refine wpAny_bind (wpAny_mkText ?_)
    unfold getAttrBy?
    refine wpAny_bind (wpAny_attempt (zgW kin (kin _ _ z1) e1 e2 x.be x.ga x.gn ?_))
    exact zhM (s := { heap := s.heap,gens := s.gens,drawn := s.drawn,toks := s.toks + 1,os := s.os }) kin (kin _ _ z1) e1 e2 x.bo x.gc x.gg x.gt (wpAny_pure hq)
end DL
end
section
namespace DL
open PySem PySem.Spec PyProof.Rows L2 PySem.W PySem.Calls
noncomputable def isxD (tab : Str→Option Bool) : D→Option D
  | .non => some (.bl false)
  | .obj 0 ((_,.str nm)::_) => (tab nm).map .bl
  | _ => none
structure IsxOk (K : PySem.W.Frag) (c : Value) (tab : Str→Option Bool) : Prop where
  no : kitOne K (.type "NoneType") c = some false
  ex : ∀ nm b C,tab nm = some b→XN K nm C→∃ bm,XA K C bm∧kitOne K (.ref C) c = some b
section
variable {X : Cx} {g : GE} {m : List Md} {e : Expr} {f : FE} {pos p p2 : Pos}
theorem zhZ {c : Value} {cv : V} (hcv : ∀ u,RelV cv u→u = c) : zbR X (.builtin "isinstance") (fun xs H Q => ∃ x b,xs = [x,cv]∧((x = .non∧kitOne X.K (.type "NoneType") c = some b)∨∃ a C od bm,x = .ref a∧H a = some (.ext (XcO a C od))∧XA X.K C bm∧kitOne X.K (.ref C) c = some b)∧Q (.bl b) H) := by
  intro pins s σ H xs us Q I r h
  obtain ⟨x,b,rfl,h,q⟩ := h
  obtain ⟨u,w',rfl,rx,ry⟩ := zfJ r
  have := hcv _ ry
  subst this
  have fin : ∀ tk,EP X pins σ Q (.bool b) { s with toks := tk } := fun tk => ⟨.bl b,H,I.tok tk,rfl,q⟩
  rcases h with ⟨rfl,e⟩ | ⟨a,C,od,bm,rfl,ea,xa,e⟩
  · cases rx
    exact PySem.W.kia_one PySem.W.kitx_none I.kIn True.intro e (fun z => nomatch z) fin
  · cases (show u = Value.ref a from rx)
    exact PySem.W.kia_one (ze4 xa) I.kIn (I.hok a _ ea).1 e (fun z => nomatch z) fin
theorem RB.exc {K : PySem.W.Frag} {G : GH} {H : Hp} {v : V} {k : Str} {nm : Str} {ds : List (Str × D)} (gk : GOk K G H) (h : RB K G H v (.obj 0 ((k,.str nm)::ds))) : ∃ a C od,v = .ref a∧H a = some (.ext (XcO a C od))∧XN K nm C := by
  rcases h with h | ⟨a,rfl,h⟩
  · cases h with
    | scl s => cases s
    | ref e =>
      cases gk _ _ e with
      | exc r n f => exact ⟨_,_,_,rfl,r,n⟩
    | kc k => cases k
  · cases h.ob
theorem zid {c : Value} {cv : V} {tab : Str→Option Bool} {a2 : Expr} (hcv : ∀ u,RelV cv u→u = c) (hx : IsxOk X.K c tab) (h2 : PE X a2 (tC cv)) (hg : Gl X "isinstance") (hm : X.mg "isinstance" = none) (he : SB X g m e f)
    (hs1 : starEach [e,a2] X.env = (false,eval e X.env)::starEach [a2] X.env := by rfl) (hs2 : starEach [a2] X.env = (false,eval a2 X.env)::starEach [] X.env := by rfl)
    (hpl : (backTo pos (starEach [a2] X.env)).any (·.1) = false := by rfl) :
    SE X g m (.Call (.Name "isinstance" p) [e,a2] [] pos) (f1 f (isxD tab)) := by
  refine PE.imp (zck (zhZ hcv) hg hm (by first | exact PyProof.Rows.boot_isinstance | rfl) (zaO he (zaO h2 zb3 hs2) hs1) (by decide) (by decide) hs1 hpl) fun σ H Q ⟨r,G,si,q⟩ => ⟨r,G,si,zac (zad q) fun d q1 v G1 H1 w1 r1 => ?_⟩
  obtain ⟨d',e',q2⟩ := zat q1
  unfold isxD at e'
  split at e'
  · cases e'
    have hv : v = .non := r1.non w1.ok
    subst hv
    exact ⟨.non,false,rfl,.inl ⟨rfl,hx.no⟩,q2 _ G1 H1 w1 (.scl (.bl _))⟩
  · rename_i k nm ds
    cases ht : tab nm with
    | none => rw [ht] at e'; cases e'
    | some b =>
      rw [ht] at e'
      cases e'
      obtain ⟨a,C,od,rfl,ha,xn⟩ := RB.exc w1.ok r1
      obtain ⟨bm,xa,hk⟩ := hx.ex nm b C ht xn
      exact ⟨.ref a,b,rfl,.inr ⟨a,C,od,bm,rfl,ha,xa,hk⟩,q2 _ G1 H1 w1 (.scl (.bl _))⟩
  · cases e'
theorem zl7 {x : Str} {T : Addr} {tab : Str→Option Bool} (hmT : X.mg x = some (.ref T)) (hx : IsxOk X.K (.ref T) tab) (hgT : Gl X x) (hg : Gl X "isinstance") (hm : X.mg "isinstance" = none) (he : SB X g m e f) (hd : (x == ("__debug__" : Str)) = false := by decide)
    (hs1 : starEach [e,.Name x p2] X.env = (false,eval e X.env)::starEach [.Name x p2] X.env := by rfl) (hs2 : starEach [.Name x p2] X.env = (false,eval (.Name x p2) X.env)::starEach [] X.env := by rfl)
    (hpl : (backTo pos (starEach [.Name x p2] X.env)).any (·.1) = false := by rfl) :
    SE X g m (.Call (.Name "isinstance" p) [e,.Name x p2] [] pos) (f1 f (isxD tab)) :=
  zid (cv := .ref T) (fun u h => h) hx (zeD (v := .ref T) hgT hmT rfl hd) hg hm he hs1 hs2 hpl
theorem zkl {x : Str} {T : String} {tab : Str→Option Bool} (hv : bootBuiltins x = some (.type T)) (hmT : X.mg x = none) (hx : IsxOk X.K (.type T) tab) (hgT : Gl X x) (hg : Gl X "isinstance") (hm : X.mg "isinstance" = none) (he : SB X g m e f) (hn : x≠"__name__" := by decide) (hd : (x == ("__debug__" : Str)) = false := by decide)
    (hs1 : starEach [e,.Name x p2] X.env = (false,eval e X.env)::starEach [.Name x p2] X.env := by rfl) (hs2 : starEach [.Name x p2] X.env = (false,eval (.Name x p2) X.env)::starEach [] X.env := by rfl)
    (hpl : (backTo pos (starEach [.Name x p2] X.env)).any (·.1) = false := by rfl) :
    SE X g m (.Call (.Name "isinstance" p) [e,.Name x p2] [] pos) (f1 f (isxD tab)) :=
  zid (cv := .ty T) (fun u h => h) hx (zf4 (v := .ty T) hgT hmT hv rfl hn hd) hg hm he hs1 hs2 hpl
end
end DL
end
section
namespace DL
open PySem PySem.Spec PyProof.Rows L2 PySem.W PySem.Calls
section
variable {X : Cx} {g : GE} {m : List Md} {e : Expr} {es : List Expr} {fl : Rho → Res (List D)} {k : Nat} {ps : List Str} {F : List D → Res D} {x : Str} {p pos : Pos} {ms : List Md}
end
theorem XN.uniq {K : PySem.W.Frag} {nm : Str} {C c : Addr} (h : XN K nm C) (k : (K.all fun e => match e.2.data with | .cls cd => cd.name != nm || e.1 == c | _ => true) = true) : C = c := by
  obtain ⟨o,cd,h1,h2,h3⟩ := h
  have hm : (C,o)∈(K : List (Addr × Obj)) := by
    have key : ∀ l : List (Addr × Obj),l.lookup C = some o→(C,o)∈l := by
      intro l
      induction l with
      | nil => intro h; cases h
      | cons q l ih =>
        intro h
        rw [List.lookup] at h
        split at h
        · rename_i hb
          have := eq_of_beq hb
          cases h
          rw [this]; exact List.mem_cons_self
        · exact List.mem_cons_of_mem _ (ih h)
    exact key K h1
  have := List.all_eq_true.mp k _ hm
  simp only [h2] at this
  rw [h3] at this
  simpa using this
end DL
end
section
namespace DL
open PySem PySem.Spec PyProof.Rows L2 PySem.W PySem.Calls
noncomputable def xoIn (K : PySem.W.Frag) (C : Addr) : Option (List Value × Str) := match K.lookup C with
  | some ⟨.type "type",_,.cls cd,sl⟩ => (match cd.mro,sl.toList with
    | .ref C'::bm,[_,_,_,_,some (.builtin _),_] => if (C' == C && ! cd.hasDel) = true then some (bm,cd.name) else none
    | _,_ => none)
  | _ => none
theorem ziI {K : PySem.W.Frag} {C : Addr} {bm : List Value} {nm : Str} (h : xoIn K C = some (bm,nm)) : XO K C bm∧XN K nm C := by
  unfold xoIn at h
  split at h
  · rename_i dict cd sl hk
    split at h
    · rename_i C' bm' k0 k1 k2 k3 n k5 hm hs
      split at h
      · rename_i hc
        cases h
        simp only [Bool.and_eq_true,beq_iff_eq,Bool.not_eq_true'] at hc
        obtain ⟨rfl,hd⟩ := hc
        refine ⟨?_,_,cd,hk,rfl,rfl⟩
        obtain ⟨nm',bs,mro,ns,q,hdct,sn,sub,ab,col,hdel⟩ := cd
        have e1 : mro = Value.ref C'::bm := hm
        have e2 : hdel = false := hd
        subst e1 e2
        have e3 : sl = #[k0,k1,k2,k3,some (Value.builtin n),k5] := by
          cases sl with
          | mk l => exact congrArg Array.mk hs
        subst e3
        exact ⟨_,_,_,_,_,_,_,_,_,_,_,_,_,_,_,_,hk⟩
      · cases h
    · cases h
  · cases h
noncomputable def unIn (K : PySem.W.Frag) (nm : Str) (c : Addr) : Bool := K.all fun e => match e.2.data with
  | .cls cd => cd.name != nm || e.1 == c
  | _ => true
structure CF (K : PySem.W.Frag) (nm : Str) (c : Addr) (bm : List Value) : Prop where
  xa : XA K c bm
  xn : XN K nm c
  un : unIn K nm c = true
theorem zmQ {K : PySem.W.Frag} {nm : Str} {c : Addr} {bm : List Value} (o : xoIn K c = some (bm,nm)) (be : bm.contains (Value.type "BaseException") = true) (bo : bm.contains (Value.type "object") = true)
    (ga : findIn K (.ref c) "__getattribute__" = some (some (.builtin "BaseException.__getattribute__"))) (gn : findIn K (.ref c) "__getattr__" = some none) (gc : findIn K (.ref c) "__class__" = some (some (.builtin "object.__class__")))
    (gg : specialIn K (.builtin "object.__class__") "__get__" = some (some (.builtin "getset_descriptor.__get__"))) (gt : takesIn K (.builtin "object.__class__") = some true) (un : unIn K nm c = true) : CF K nm c bm :=
  ⟨⟨(ziI o).1,be,bo,ga,gn,gc,gg,gt⟩,(ziI o).2,un⟩
theorem CF.eq {K : PySem.W.Frag} {nm : Str} {c C : Addr} {bm : List Value} (f : CF K nm c bm) (h : XN K nm C) : C = c := XN.uniq h f.un
theorem zmL {K : PySem.W.Frag} {T : Addr} {hit : Str→Bool} (l : List (Str × Addr × List Value)) (h : ∀ q∈l,CF K q.1 q.2.1 q.2.2∧(Value.ref q.2.1::q.2.2).contains (.ref T) = true) (hh : ∀ nm,hit nm = true→∃ q∈l,q.1 = nm) : zh4 K T hit := by
  intro nm C hn xn
  obtain ⟨q,hq,rfl⟩ := hh nm hn
  obtain ⟨f,hc⟩ := h q hq
  have := f.eq xn
  subst this
  exact ⟨_,f.xa.ob,hc⟩
theorem zmK {K : PySem.W.Frag} {c : Value} {tab : Str→Option Bool} (l : List (Str × Addr × List Value)) (n : kitOne K (.type "NoneType") c = some false) (h : ∀ q∈l,CF K q.1 q.2.1 q.2.2∧kitOne K (.ref q.2.1) c = tab q.1) (hh : ∀ nm b,tab nm = some b→∃ q∈l,q.1 = nm) : IsxOk K c tab := by
  refine ⟨n,fun nm b C ht xn => ?_⟩
  obtain ⟨q,hq,rfl⟩ := hh nm b ht
  obtain ⟨f,hc⟩ := h q hq
  have := f.eq xn
  subst this
  exact ⟨_,f.xa,by rw [hc,ht]⟩
end DL
end
section
namespace DL
open PySem PySem.Spec PyProof.Rows L2 PySem.W PySem.Calls
section
variable {prog : Program} {w : World} {A : Around} {E : Value → Shared → Prop} {s : Shared} {nm q : Str} {C N a : Addr} {bs bm : List Value} {sn : List Str} {sub : List Value} {ab : Bool} {col : Option Bool} {dd : Option Addr} {k0 k1 k2 k3 k5 : Option Value} {newId : String} {oe : Obj}
theorem zlu {K : PySem.W.Frag} {name : Str} {tk : Tok} {dx : Addr} {mA : Str→Option Value} {v : Value} {vs : Array Value} {Q : Value→Shared→Prop} (kin : K.In s.heap)
    (hC : s.heap.get? C = some (excClassObj nm q C N bs bm true sn sub ab col dd k0 k1 k2 k3 k5 newId)) (he : s.heap.get? a = some oe) (hc : oe.cls = .ref C) (hda : oe.data = .fields vs) (hdi : oe.dict = some dx) (hn : s.heap.Ns dx mA)
    (g1 : findIn K (.ref C) name = some none) (hv : mA name = some v) (ho : handedOut v = pure v) (hq : Q v s) :
    wpAny (model prog w) A (Builtin.«object.__getattribute__» ⟨[.ref a,.str name tk],[]⟩) (fun fin s' => ∃ u,fin = .done (.ret u)∧handedOut u = pure u∧Q u s') E s := by
  obtain ⟨oc,odi,oda,osl⟩ := oe
  dsimp only at hc hda hdi
  subst hc hda hdi
  unfold Builtin.«object.__getattribute__»
  refine wpAny_bind ?_
  show wpAny _ _ (pure ((Value.ref a,[Value.str name tk]) : Value × List Value)) _ _ _
  refine wpAny_pure ?_
  show wpAny _ _ (Builtin.ObjectAttr.attrName (Value.str name tk) >>= _) _ _ _
  refine wpAny_bind ?_
  show wpAny _ _ (pure name) _ _ _
  refine wpAny_pure (wpAny_bind (wpAny_typeOf_ref he ?_))
  refine wpAny_bind ?_
  unfold Builtin.ObjectAttr.find
  refine wpAny_bind (looks_findIn kin g1 _ _ _ _ (fun b o e => e) ?_)
  refine wpAny_bind ?_
  show wpAny _ _ (pure none) _ _ _
  refine wpAny_pure (wpAny_bind ?_)
  show wpAny _ _ (pure none) _ _ _
  refine wpAny_pure ?_
  unfold Builtin.ObjectAttr.ownThenClass Builtin.ObjectAttr.inOwnDict Builtin.ObjectAttr.ownDict
  refine wpAny_bind (wpAny_bind (wpAny_bind (wpAny_loadPart he ?_)))
  unfold instanceDict
  refine wpAny_bind (wpAny_loadPart he ?_)
  refine wpAny_bind ?_
  unfold classData
  refine wpAny_bind (wpAny_load hC (wpAny_pure ?_))
  dsimp only
  refine wpAny_pure ?_
  refine wpAny_nsGet hn ?_
  rw [hv]
  exact wpAny_bind (wpAny_rule (wpAny_pure (wpAny_pure ⟨v,rfl,ho,hq⟩)))
end
end DL
end
section
namespace DL
open PySem PySem.Spec PyProof.Rows L2 PySem.W PySem.Calls
noncomputable abbrev xObj (C t : Addr) (od : Option Addr) : Obj := { cls := .ref C,dict := od,data := .fields #[.ref t,.none,.none,.none,.bool false,.none] }
section
variable {prog : Program} {w : World} {A : Around} {E : Value → Shared → Prop} {h : Heap} {gs : Array GenState} {dr : Drawn} {tk : Nat} {os : OsState}
variable {nm ql : Str} {C N fI : Addr} {bs bm bB : List Value} {hdct : Bool} {sn : List Str} {sub : List Value} {ab : Bool} {col : Option Bool} {dd : Option Addr} {k0 k1 k2 k3 k5 : Option Value} {B nw ini : String} {mN : Str → Option Value} {us : List Value} {oI : Obj}
theorem ziP {Q : Fin→Shared→Prop} (XF : ExcBaseFacts B nw ini bB) (T : OwnTail h bB bm) (hC : h.get? C = some (excClassObj nm ql C N bs bm hdct sn sub ab col dd k0 k1 k2 k3 k5 nw)) (hn : h.Ns N mN) (hi : mN "__init__" = some (.ref fI))
    (hf : h.get? fI = some oI) (hfc : oI.cls = .type "function") (hz : us.length≤sizeLine)
    (hq : ∀ h' e,Heap.MadeExcOf h h' e (.ref C) us→wpAny (model prog w) A (call (.ref fI) (.ref e::us)) (fun r s' => r = .none∧Q (.done (.ret (.ref e))) s') E ⟨h',gs,dr,tk,os⟩) :
    wpAny (model prog w) A (Builtin.«type.__call__» ⟨.ref C::us,[]⟩) Q E ⟨h,gs,dr,tk,os⟩ := by
  repeat (first
    | with_reducible refine wpAny_loadPart_at hC ?_
    | with_reducible refine wpAny_madeBy_exc hC ?_
    | wp_step)
  refine codeAny_call_builtin_code (Code.quiet_builtin _ XF.quiet) (wpAny_check_new_subT XF T hC (codeAny_exc_new_subT XF T hC ?_ hz))
  show wpAny _ _ _ _ _ _
  have hk : ∀ b o,h.get? b = some o→((h.push { cls := .type "tuple",data := .seq us.toArray }).push (xObj C h.objs.size none)).get? b = some o := fun b o e => Heap.get?_push_of_some _ (Heap.get?_push_of_some _ e)
  have hg : ((h.push { cls := .type "tuple",data := .seq us.toArray }).push (xObj C h.objs.size none)).get? (h.objs.size + 1) = some (xObj C h.objs.size none) := by heap_get
  have hg2 : ((h.push { cls := .type "tuple",data := .seq us.toArray }).push (xObj C h.objs.size none)).get? h.objs.size = some { cls := .type "tuple",data := .seq us.toArray } := Heap.get?_push_of_some _ (Heap.get?_push_at rfl rfl)
  have hC1 := hk _ _ hC
  have hf1 := hk _ _ hf
  have hn1 := hn.keeps hk
  have T1 := T.keeps hk
  have hcC : (Value.ref C::bm).contains (.ref C) = true := by simp
  unfold isInstance
  repeat (first
    | with_reducible refine wpAny_loadPart_at hg ?_
    | (with_reducible refine wpAny_isSubtype_exc hC1 ?_; rw [hcC])
    | wp_step)
  show wpAny _ _ (typeLookup (.ref C) _) _ _ _
  refine wpAny_typeLookup_tail hC1 hn1 T1 XF.mroIs XF.init.lookup ?_
  rw [hi]
  refine wpAny_holding (wpAny_bind ?_)
  unfold bindSpecial
  refine wpAny_bind (wpAny_typeOf (T := "function") ⟨_,hf1,hfc⟩ ?_)
  rw [if_pos (by decide)]
  refine wpAny_pure (wpAny_bind (wpAny_mono (hq _ (h.objs.size + 1) ⟨hk,Heap.get?_none_of_le (Nat.le_succ _),h.objs.size,hg,Heap.get?_none_of_le (Nat.le_refl _),hg2⟩) (fun r s' hr => ?_) fun _ _ z => z))
  obtain ⟨rfl,hQ⟩ := hr
  wp_walk
  exact hQ
theorem zgV {Q : Value→Shared→Prop} (XF : ExcBaseFacts B nw ini bB) (T : OwnTail h bB bm) (hC : h.get? C = some (excClassObj nm ql C N bs bm hdct sn sub ab col dd k0 k1 k2 k3 k5 nw)) (hn : h.Ns N mN) (hi : mN "__init__" = some (.ref fI))
    (hf : h.get? fI = some oI) (hfc : oI.cls = .type "function") (hz : us.length≤sizeLine)
    (hq : ∀ h' e,Heap.MadeExcOf h h' e (.ref C) us→wpAny (model prog w) (A.under (.builtin "type.__call__" ⟨.ref C::us,[]⟩)) (call (.ref fI) (.ref e::us)) (fun r s' => r = .none∧Q (.ref e) s') E ⟨h',gs,dr,tk,os⟩) :
    wpAny (model prog w) A (call (.ref C) us) Q E ⟨h,gs,dr,tk,os⟩ := by
  have f1 := tc_lookup
  have f2 := tc_bind (.ref C)
  have hT : Shared.TypeIs ⟨h,gs,dr,tk,os⟩ (.ref C) "type" := ⟨_,hC,rfl⟩
  refine wpAny_call (codeAny_of_tree ?_)
  show wpAny _ _ (callAny (.ref C) _) _ _ _
  repeat (any_goals (first
    | assumption
    | with_reducible refine wpAny_loadPart_at hC ?_
    | wp_step))
  exact ⟨rfl,codeAny_call_builtin_at (Code.quiet_builtin _ (by decide +kernel)) entry_typeCall (wpAny_check_type_call_sub hC (ziP XF T hC hn hi hf hfc hz fun h' e hm => hq h' e hm))⟩
theorem zhf {M : Model} {s : Shared} {x : Sem Value} {env : Env} {Q : Flow→Shared→Prop} (hb : bm.contains (.type "BaseException") = true) (hh : A.handled = none)
    (hx : wpAny M A x (fun v s1 => ∃ e t od,v = .ref e∧s1.heap.get? C = some (excClassObj nm ql C N bs bm hdct sn sub ab col dd k0 k1 k2 k3 k5 nw)∧s1.heap.get? e = some (xObj C t od)∧E (.ref e) s1) E s) :
    wpAny M A (raiseStmt env (some x) none) Q E s := by
  have hcB : (Value.ref C::bm).contains (.type "BaseException") = true := by rw [List.contains_cons,hb,Bool.or_true]
  unfold raiseStmt
  refine wpAny_bind (wpAny_mono hx (fun v s1 h1 => ?_) fun _ _ z => z)
  obtain ⟨e,t,od,rfl,hC,he,hE⟩ := h1
  obtain ⟨hp,g,d,tk,os⟩ := s1
  repeat (first
    | with_reducible refine wpAny_loadPart_at he ?_
    | with_reducible refine wpAny_loadPart_at hC ?_
    | (with_reducible refine wpAny_isSubtype_exc hC ?_; rw [hcB])
    | wp_step)
  exact wpAny_raiseNew_none hh hE
end
end DL
end
section
namespace DL
open PySem PySem.Spec PyProof.Rows L2 PySem.W PySem.Calls
theorem zeA {self : Value} {bm : List Value} {h : Heap} (T : OwnTail h vErr bm) : refuseLoop self "__setattr__" bm = pure () := by
  induction T with
  | base => exact PySem.F.store_ValueError.passes self
  | own _ _ _ _ ih => rw [refuseLoop_ref]; exact ih
section
variable {prog : Program} {w : World} {A : Around} {E : Value → Shared → Prop} {h : Heap} {gs : Array GenState} {dr : Drawn} {tk : Nat} {os : OsState}
variable {nm ql : Str} {C N e t : Addr} {bs bm : List Value} {sn : List Str} {sub : List Value} {ab : Bool} {col : Option Bool} {dd : Option Addr} {k0 k1 k2 k3 k5 : Option Value} {nw : String} {K : PySem.W.Frag} {name : Str} {v : Value}
theorem setx {Q : Unit→Shared→Prop} (kin : K.In h) (hC : h.get? C = some (excClassObj nm ql C N bs bm true sn sub ab col dd k0 k1 k2 k3 k5 nw)) (T : OwnTail h vErr bm) (he : h.get? e = some (xObj C t none))
    (g0 : findIn K (.ref C) "__setattr__" = some (some (.builtin "object.__setattr__"))) (g1 : findIn K (.ref C) name = some none)
    (hq : ∀ h' dx tk',h.get? dx = none→h'.get? e = some (xObj C t (some dx))→h'.Ns1 dx (fun y => if y = name then some v else none)→(∀ b o,b≠e→h.get? b = some o→h'.get? b = some o)→Q () ⟨h',gs,dr,tk',os⟩) :
    wpAny (model prog w) A (setAttr (.ref e) name v) Q E ⟨h,gs,dr,tk,os⟩ := by
  have f3 := PySem.F.store_ValueError.slot.bind (.ref e)
  have hcB : (Value.ref C::bm).contains (.type "object") = true := by rw [List.contains_cons,zeT T (by decide +kernel),Bool.or_true]
  have L0 : Looks (model prog w) h (isInstance (.ref e) (.type "object")) true := by
    intro A Q E s k q
    unfold isInstance
    refine wpAny_bind (wpAny_typeOf_ref (k _ _ he) ?_)
    obtain ⟨hh,a1,a2,a3,a4⟩ := s
    exact wpAny_isSubtype_exc (k _ _ hC) (by rw [hcB]; exact q)
  unfold setAttr callSpecial? specialOf
  refine wpAny_bind (wpAny_mkText ?_)
  refine wpAny_bind (wpAny_bind (wpAny_bind (wpAny_typeOf_ref he (looks_findIn kin g0 _ _ _ _ (fun b o e => e) ?_))))
  refine wpAny_holding ?_
  rw [f3]
  refine wpAny_bind (wpAny_pure (wpAny_bind (wpAny_call ?_)))
  have SF := PySem.F.store_object
  refine codeAny_call_builtin SF.slot.plain SF.entry (@check_slot (model prog w) _ _ ⟨h,gs,dr,tk + 1,os⟩ "object.__setattr__" "object" "__setattr__" (.ref e) [.str name tk,v] [] _ SF.kind SF.split L0 (SF.args (.ref e) (.str name tk) v) ?_)
  show wpAny _ _ (Builtin.«object.__setattr__» ⟨[.ref e,.str name tk,v],[]⟩) _ _ _
  rw [osa_eq,refuse_eq]
  refine wpAny_bind (wpAny_bind (wpAny_typeOf_ref he (wpAny_bind (wpAny_mroOf_exc hC ?_))))
  rw [refuseLoop_ref,zeA T]
  refine wpAny_pure (wpAny_bind (wpAny_typeOf_ref he (wpAny_bind (looks_findIn kin g1 _ _ _ _ (fun b o e => e) ?_))))
  refine wpAny_bind ?_
  show wpAny _ _ (pure none) _ _ _
  refine wpAny_pure ?_
  have hx1 : (h.push { cls := .type "dict",data := .dict #[] }).get? e = some (xObj C t none) := Heap.get?_push_of_some _ he
  have hxs : e≠h.objs.size := Nat.ne_of_lt (Heap.lt_size he)
  refine wpAny_bind (wpAny_pure (wpAny_bind (wpAny_bind (wpAny_loadPart he (wpAny_bind ?_)))))
  unfold classData
  refine wpAny_bind (wpAny_load hC (wpAny_pure ?_))
  refine wpAny_bind (wpAny_alloc' (wpAny_bind (wpAny_update' hx1 (wpAny_pure ?_))))
  have hgd : ((h.push { cls := .type "dict",data := .dict #[] }).update e fun o => { o with dict := some h.objs.size }).get? h.objs.size = some { cls := .type "dict",data := .dict #[] } :=
    (Heap.get?_update_ne _ _ _ _ hxs.symm).trans (Heap.get?_push_at rfl rfl)
  have hnd : ((h.push { cls := .type "dict",data := .dict #[] }).update e fun o => { o with dict := some h.objs.size }).Ns h.objs.size (fun _ => none) := ⟨_,#[],_,hgd,rfl,fun e he => absurd he (by simp),fun _ => rfl⟩
  show wpAny _ _ (Builtin.ObjectAttr.storeInDict h.objs.size (.str name tk) name v) _ _ _
  unfold Builtin.ObjectAttr.storeInDict Builtin.ObjectAttr.newKeyGuard
  refine wpAny_bind (wpAny_pure (wpAny_bind (wpAny_nsSet1 (Heap.Ns1.of_empty hnd) fun h' hn' hs => ?_)))
  obtain ⟨oD,esD,epD,hoD,hdD,hcD⟩ := hn'.count (Within.cons name v Within.nil)
  refine wpAny_bind (wpAny_lookBehind hoD (by rw [hdD]; exact pastItsLine_dict (Nat.le_trans hcD (by rw [List.length_cons,List.length_nil,sizeLine_eq]; omega))) ?_)
  have hx' : h'.get? e = some (xObj C t (some h.objs.size)) := (hs.2 e hxs).trans (Heap.get?_update_self _ hx1 rfl)
  refine wpAny_pure (show wpAny _ _ (pure (some Value.none)) _ _ _ from wpAny_pure (wpAny_pure (hq h' h.objs.size _ (Heap.get?_none_of_le (Nat.le_refl _)) hx' hn' fun b o hb hbo => ?_)))
  exact (hs.2 b (Nat.ne_of_lt (Heap.lt_size hbo))).trans ((Heap.get?_update_ne _ _ _ _ hb).trans (Heap.get?_push_of_some _ hbo))
theorem zjM {x : Value} {Q : Value→Shared→Prop} (hC : h.get? C = some (excClassObj nm ql C N bs bm true sn sub ab col dd k0 k1 k2 k3 k5 "ValueError.__new__")) (T : OwnTail h vErr bm) (he : h.get? e = some (xObj C t none))
    (hq : ∀ h' t',h'.get? e = some (xObj C t' none)→(∀ b o,b≠e→h.get? b = some o→h'.get? b = some o)→Q .none ⟨h',gs,dr,tk,os⟩) :
    wpAny (model prog w) A (call (.builtin "ValueError.__init__") [.ref e,x]) Q E ⟨h,gs,dr,tk,os⟩ := by
  have XF := PySem.F.excBase_ValueError
  refine wpAny_call (codeAny_call_builtin XF.init.plain XF.initEntry (wpAny_check_init_subT XF T hC he rfl ?_))
  wp_walk
  refine hq _ h.objs.size ?_ fun b o hb hbo => ?_
  · rw [Heap.get?_update_self _ (Heap.get?_push_of_some _ he) rfl]; rfl
  · rw [Heap.get?_update_ne _ _ _ _ hb]; exact Heap.get?_push_of_some _ hbo
end
end DL
end
section
namespace DL
open PySem PySem.Spec PyProof.Rows L2 PySem.W PySem.Calls
noncomputable def XR (e C : Addr) (od : Option Addr) : Heap→Prop := fun h => ∃ t,h.get? e = some (xObj C t od)
theorem XR.ok {P : Program} {w : World} {H : Hp} {h : Heap} {e C t : Addr} {od : Option Addr} (x : h.get? e = some (xObj C t od)) : zaP P w H h e (.ext (XR e C od)) :=
  ⟨⟨t,x⟩,⟨_,x⟩,fun h1 h2 ⟨t,q⟩ k => ⟨t,k _ q⟩⟩
structure XI (K : PySem.W.Frag) (C : Addr) (bm : List Value) (f : Str) : Prop where
  ob : ∃ N nm q bs sn sub ab col dd k0 k1 k2 k3 k5,K.lookup C = some (excClassObj nm q C N bs bm true sn sub ab col dd k0 k1 k2 k3 k5 "ValueError.__new__")
  tl : ∀ h,K.In h→OwnTail h vErr bm
  g0 : findIn K (.ref C) "__setattr__" = some (some (.builtin "object.__setattr__"))
  g1 : findIn K (.ref C) f = some none
structure XT (K : PySem.W.Frag) (T : Addr) : Prop where
  sp : specialIn K (.ref T) "__getattribute__" = some (some (.builtin "type.__getattribute__"))
  rd : readsIn K T (.type "type") = true
  fc : findCls K (.ref T) (.type "type") "__init__" = some (.val (.builtin "ValueError.__init__"))
section
variable {X : Cx} {e : Expr} {ps : List Expr} {te : TE} {n k : Nat} {c : L2.St → Prop} {pos : Pos} {v₁ v₂ : Expr}
noncomputable def PJ (X : Cx) (ps : List Expr) (n : Nat) (c : L2.St→Prop) : Prop := ∀ (pins : List (Addr × Obj)) (s : Shared) (σ : L2.St) (H : Hp) (out : Str) (Q : Value→Shared→Prop),Inv X pins σ H s→c σ→out.length + n≤1000000 →
  (∀ x t s',x.length≤sizeLine→Inv X pins σ H s'→Q (.str x t) s')→wpAny (model X.prog X.w) X.A (joinParts out (evalEach ps X.env)) Q X.xe s
theorem zkC : PJ X [] 0 c := fun pins s σ H out Q I _ hl q => by
  have hz : out.length≤sizeLine := by rw [sizeLine_eq]; omega
  exact joinParts_nil (q out _ _ hz (I.tok _)) hz
theorem zf1 (he : PE X e te) (hr : PJ X ps n c) (h : ∀ σ H Q,c σ→(∀ x : Str,x.length≤k→Q (.str x) H)→te σ H Q) (hs : evalEach (e::ps) X.env = eval e X.env::evalEach ps X.env := by rfl) : PJ X (e::ps) (k + n) c := fun pins s σ H out Q I hc hl q => by
  rw [hs]
  refine joinParts_cons (thn (he pins s σ H (fun x H1 => ∃ y : Str,y.length≤k∧x = .str y∧H1 = H) I (h σ H _ hc fun x hx => ⟨x,hx,rfl,rfl⟩)) fun u s1 ⟨x,H1,I1,r,y,hy,hx,hH⟩ => ?_)
  subst hx hH
  obtain ⟨t,rfl⟩ := (show ∃ t,u = Value.str y t from r)
  have e1 : (out++y).length = out.length + y.length := strLen_append _ _
  refine ⟨by rw [sizeLine_eq]; omega,hr pins s1 σ _ _ Q I1 hc (by omega) q⟩
theorem zkB {a : Str} {j : Nat} {p : Pos} (hr : PJ X ps n c) (hs : evalEach (.Constant (.str a) j p::ps) X.env = eval (.Constant (.str a) j p) X.env::evalEach ps X.env := by rfl) : PJ X (.Constant (.str a) j p::ps) (a.length + n) c :=
  zf1 zkK hr (fun σ H Q _ q => q a (Nat.le_refl _)) hs
theorem zkQ {tv : TE} (hv : PE X e tv) : PE X (.FormattedValue e (-1) none pos) (fun σ H Q => tv σ H fun x H1 => ∃ i : Int,x = .int i∧i.natAbs.log2 < 64∧∀ z : Str,z.length≤65→Q (.str z) H1) := by
  intro pins s σ H Q I h
  refine FormattedValue_plain (thn (hv pins s σ H _ I h) fun u s1 ⟨x,H1,I1,r,i,hx,hi,q⟩ => ?_)
  subst hx
  obtain ⟨t,rfl⟩ := (show ∃ t,u = Value.int i t from r)
  refine formatField_int_small (by omega) ⟨.str (Str.ofString (toString i)),H1,I1.tok _,⟨_,rfl⟩,q _ ?_⟩
  rw [PySem.ofString_length]
  exact int_text_length_le (by omega) hi
theorem zkD {j : Nat} {x : Str} {p : Pos} (hN : X.N[j]? = some x) (hv : Vis X.env.scope x) (hr : PJ X ps n c) (hc : ∀ σ,c σ→∃ i : Int,σ[j]? = some (some (.int i))∧i.natAbs.log2 < 64) (hd : (x == ("__debug__" : Str)) = false := by decide) (hcd : (x == ("__classdict__" : Str)) = false := by decide)
    (hs : evalEach (.FormattedValue (.Name x p) (-1) none pos::ps) X.env = eval (.FormattedValue (.Name x p) (-1) none pos) X.env::evalEach ps X.env := by rfl) : PJ X (.FormattedValue (.Name x p) (-1) none pos::ps) (65 + n) c :=
  zf1 (zkQ (zb2 hN hv hd hcd)) hr (fun σ H Q h q => by
    obtain ⟨i,e1,e2⟩ := hc σ h
    exact ⟨_,e1,i,rfl,e2,q⟩) hs
theorem zmj (h : PJ X (v₁::v₂::ps) n c) (hn : n≤1000000) (hs : evalEach (v₁::v₂::ps) X.env = eval v₁ X.env::eval v₂ X.env::evalEach ps X.env := by rfl) : PE X (.JoinedStr (v₁::v₂::ps) pos) (fun σ H Q => c σ∧∀ x : Str,x.length≤sizeLine→Q (.str x) H) := by
  intro pins s σ H Q I ⟨hc,q⟩
  refine JoinedStr_many ?_
  have := h pins s σ H Str.empty (EP X pins σ Q) I hc (by show 0 + n≤_; omega) fun x t s' hx I' => ⟨.str x,H,I',⟨t,rfl⟩,q x hx⟩
  rw [hs] at this
  exact this
end
section
variable {X : Cx} {a : Expr} {as : List Expr} {t : TA} {x : Str} {T : Addr} {p apos pos : Pos} {pl : Sem Bool}
theorem zi8 (hg : Gl X x) (hm : X.mg x = some (.ref T)) (hT : XT X.K T) (ha : PA X (a::as) t) (hdb : (x == ("__debug__" : Str)) = false := by decide)
    (ht : eval (.Call (.Attribute (.Name x p) "__init__" apos) (a::as) [] pos) X.env = (do
      let ov ← eval (.Name x p) X.env
      standAt apos.atName
      let (f,first) ← holding [ov] (getMethod ov "__init__" pl)
      callWith pos f first (backTo pos (starEach (a::as) X.env)) (backToKw pos (keywordEach [] X.env))) := by rfl)
    (hs : starEach (a::as) X.env = (false,eval a X.env)::starEach as X.env := by rfl) (hplain : (backTo pos (starEach as X.env)).any (·.1) = false := by rfl) :
    PE X (.Call (.Attribute (.Name x p) "__init__" apos) (a::as) [] pos) (fun σ H Q => t σ H fun vs H1 => ∃ e C bm f y,vs = [.ref e,y]∧H1 e = some (.ext (XR e C none))∧XI X.K C bm f∧Q .non H1) := by
  intro pins s σ H Q I h
  refine methodCall_KW (pl := pl) (zcv I hg hm ?_ hdb) ht
  refine method_cls I.kIn hT.sp (cls_value (mc := .type "type") I.kIn hT.rd hT.fc rfl ?_)
  have I0 := I.tok (s.toks + 1)
  have hA := ha pos pins _ σ H _ I0 h
  rw [hs] at hA ⊢
  refine Calls.callWith_builtin (by show (false || (backTo pos (starEach as X.env)).any (·.1)) = false; rw [hplain] <;> rfl) (Calls.evalArgs_plain ?_)
  refine thn hA fun us s1 ⟨vs,H1,I1,r,e,C,bm,f,y,hv,he,xi,q⟩ => ?_
  subst hv
  obtain ⟨u,z,rfl,r1,r2⟩ := zfJ r
  cases (show u = Value.ref e from r1)
  obtain ⟨⟨t,g1⟩,_,_⟩ := I1.hok e _ he
  obtain ⟨N,nm,ql,bs,sn,sub,ab,col,dd,k0,k1,k2,k3,k5,ob⟩ := xi.ob
  refine zjM (I1.kIn _ _ ob) (xi.tl _ I1.kIn) g1 fun h' t' g2 g3 => ⟨.non,H1,?_,rfl,q⟩
  have := I1.write (x := e) (e := e) (o := .ext (XR e C none)) (h' := h') (t' := s1.toks) (by rw [he]; trivial) (.inl rfl) g3 ⟨_,g2⟩ (XR.ok g2)
  rw [show upd H1 e (.ext (XR e C none)) = H1 from by funext b; unfold upd; split <;> simp_all] at this
  exact this
theorem zi4 {o v : Expr} {f : Str} {to tv : TE} {p' : Pos} (ho : PE X o to) (hv : PE X v tv) (hs : swapsWith v (some (.Attribute o f p')) pos.line X.env = pure false := by rfl) :
    PS X (.Assign [.Attribute o f p'] v pos) (fun D σ H => tv σ H fun y H1 => to σ H1 fun x H2 => ∃ e C bm,x = .ref e∧H2 e = some (.ext (XR e C none))∧XI X.K C bm f∧∀ dx,H2 dx = none→dx≠e→D.nx σ (upd (upd H2 dx (.xd [(f,y)])) e (.ext (XR e C (some dx))))) := by
  intro pins s σ H D I h
  refine plainObj_wpAny_Assign_Attribute (thn (hv pins s σ H _ I h) fun u s1 ⟨y,H1,I1,ry,q⟩ => thn (ho pins s1 σ H1 _ I1 q) fun ov s2 ⟨x,H2,I2,rx,e,C,bm,ex,he,xi,q2⟩ => ?_) hs
  subst ex
  obtain rfl : ov = Value.ref e := rx
  obtain ⟨⟨t,g1⟩,_,_⟩ := I2.hok e _ he
  obtain ⟨N,nm,ql,bs,sn,sub,ab,col,dd,k0,k1,k2,k3,k5,ob⟩ := xi.ob
  refine setx I2.kIn (I2.kIn _ _ ob) (xi.tl _ I2.kIn) g1 xi.g0 xi.g1 fun h' dx tk' n1 n2 n3 n4 => ?_
  have hdx : H2 dx = none := by
    cases z : H2 dx with
    | none => rfl
    | some ho => obtain ⟨o,z2⟩ := ze2 (I2.hok dx _ z); rw [n1] at z2; cases z2
  have hde : dx≠e := fun z => by rw [z,g1] at n1; cases n1
  have old : ∀ b u,H2 b = some u→b≠e→upd (upd H2 dx (.xd [(f,y)])) e (.ext (XR e C (some dx))) b = some u := fun b u hb hne => by
    rw [zae hne,zae (fun z => by rw [z,hdx] at hb; cases hb)]; exact hb
  refine ⟨σ,upd (upd H2 dx (.xd [(f,y)])) e (.ext (XR e C (some dx))),?_,q2 dx hdx hde⟩
  refine I2.call' (ch := []) rfl ⟨fun b o hb hn _ _ => n4 b o (fun z => by rw [z,he] at hn; cases hn) hb,fun b o hb hn _ _ => ⟨o.slots,n4 b o (fun z => by rw [z,he] at hn; cases hn) hb⟩,fun b o hb hn _ => ?_,fun b o hb _ => ?_,fun b xs hb => old b _ hb (fun z => by rw [z,he] at hb; cases hb),fun b o u hb => old b _ hb (fun z => by rw [z,he] at hb; cases hb),fun b ps hb => ⟨#[],by simpa using old b _ hb (fun z => by rw [z,he] at hb; cases hb)⟩⟩ (fun b u hb => ?_) I2.bare fun b hb => absurd hb (by simp)
  · rw [zae (fun z => by rw [z,he] at hn; cases hn),zae (fun z => by rw [z,n1] at hb; cases hb)]; exact hn
  · by_cases z : b = e
    · exact ⟨_,by rw [z]; exact n2⟩
    · exact ⟨o,n4 b o z hb⟩
  · by_cases z : b = e
    · subst z
      rw [zag] at hb; cases hb
      exact XR.ok n2
    · rw [zae z] at hb
      by_cases z2 : b = dx
      · subst z2
        rw [zag] at hb; cases hb
        refine ⟨_,n3,fun g => ?_⟩
        show RelO (List.lookup g [(f,y)]) _
        rw [List.lookup]
        by_cases hg : g = f
        · subst hg
          simp only [beq_self_eq_true,if_pos]
          exact ry
        · rw [show (g == f) = false from by simpa using hg,if_neg hg]
          exact True.intro
      · rw [zae z2] at hb
        refine (I2.hok b u hb).stay (fun c v hc hcv => n4 c v (fun zz => ?_) hcv) (fun c hc => old c _ hc fun zz => by rw [zz,he] at hc; cases hc) fun c xs hc => old c _ hc fun zz => by rw [zz,he] at hc; cases hc
        rcases hc with rfl | hc
        · exact z zz
        · rw [zz,he] at hc; cases hc
end
end DL
end
section
namespace DL
open PySem PySem.Spec PyProof.Rows L2 PySem.W PySem.Calls
theorem zmn {K : PySem.W.Frag} {h : Heap} {N : Addr} {mg : Str→Option Value} {n : Str} {v : Value} (X : K.In h) (G : h.Ns N mg) (e : nsIn K N n = some (some v)) : mg n = some v := by
  obtain ⟨o,es,ep,ho,hd,_,hf⟩ := G
  unfold nsIn at e
  split at e
  · rename_i c d es' n' sl q
    have hx := X _ _ q
    rw [ho] at hx
    cases hx
    cases hd
    split at e
    · rename_i en he
      rw [← hf]
      unfold nsFind findBy
      rw [← Array.find?_toList,he]
      first | exact Option.some.inj e | (cases e; rfl)
    · split at e <;> cases e
  · cases e
noncomputable def spI (C : Addr) (f : Str) : Sp := fun vs H Q _ => ∃ e i,vs = [.ref e,.int i]∧i.natAbs.log2 < 64∧H e = some (.ext (XR e C none))∧∀ dx,H dx = none→dx≠e→Q .non (upd (upd H dx (.xd [(f,.int i)])) e (.ext (XR e C (some dx))))
noncomputable def cI (σ : L2.St) : Prop := ∃ i : Int,σ[1]? = some (some (.int i))∧i.natAbs.log2 < 64
noncomputable def tIni (K : PySem.W.Frag) (f : Str) : TS := tSeq (zj8 (fun σ H Q => ziQ (tVar 0) (ziQ (fun σ H Q => cI σ∧∀ x : Str,x.length≤sizeLine→Q (.str x) H) tNil) σ H fun vs H1 => ∃ e C bm f y,vs = [.ref e,y]∧H1 e = some (.ext (XR e C none))∧XI K C bm f∧Q .non H1))
  (fun D σ H => tVar 1 σ H fun y H1 => tVar 0 σ H1 fun x H2 => ∃ e C bm,x = .ref e∧H2 e = some (.ext (XR e C none))∧XI K C bm f∧∀ dx,H2 dx = none→dx≠e→D.nx σ (upd (upd H2 dx (.xd [(f,y)])) e (.ext (XR e C (some dx)))))
theorem zjA {P : Program} {w : World} {K : PySem.W.Frag} {mg : Str→Option Value} {base : Heap} {qual y f : Str} {st : Stmt} {fI C : Addr} {fd : FuncData} {bm : List Value} {k : Nat} (F : Fun K "__init__" qual st fI fd) (S : FnScope ["self",y] ["self",y] (defScope st)) (xi : XI K C bm f)
    (hb : ∀ (cdv : Value) (A : Around) (outer : List Env) (s : Shared) (H : Hp) (E : XK),PSs (cxOf CX0 P w K mg base ["self",y] qual (defScope st) fI cdv A outer s H E).nox (defBody st) (tIni K f)) : FnOk P w K mg base CX0 (k + 1) fI fd ["self",y] (spI C f) := by
  refine F.ok S (fun vs H Q E ⟨e,i,h,_⟩ => by rw [h]; rfl) fun cdv A outer s H vs Q E hr ⟨e,i,hv,hi,he,q⟩ => ⟨_,hb cdv A outer s H E,?_⟩
  subst hv
  exact ⟨_,rfl,⟨i,rfl,hi⟩,fun x _ => ⟨e,C,bm,f,_,rfl,he,xi,_,rfl,_,rfl,e,C,bm,rfl,he,xi,fun dx h1 h2 => q dx h1 h2⟩⟩
structure XCI (P : Program) (w : World) (K : PySem.W.Frag) (mg : Str→Option Value) (base : Heap) (x : Str) (C : Addr) (f : Str) : Prop where
  bound : mg x = some (.ref C)
  keep : keepIn K (.ref C) = true
  ex : ∃ bm fI fd y oI N nm ql bs sn sub ab col dd k0 k1 k2 k3 k5,XI K C bm f∧K.lookup C = some (excClassObj nm ql C N bs bm true sn sub ab col dd k0 k1 k2 k3 k5 "ValueError.__new__")∧nsOkIn K N = true∧nsIn K N "__init__" = some (some (.ref fI))∧K.lookup fI = some oI∧oI.cls = .type "function" ∧
    zcr K fd ["self",y] []∧FnOk P w K mg base CX0 1 fI fd ["self",y] (spI C f)
section
variable {X : Cx} {pins : List (Addr × Obj)} {σ : L2.St} {H : Hp} {s : Shared}
theorem Inv.exc {h' : Heap} {e C : Addr} {vs : List Value} (I : Inv X pins σ H s) (m : s.heap.MadeExcOf h' e (.ref C) vs) : H e = none∧Inv X pins σ (upd H e (.ext (XR e C none))) { heap := h',gens := s.gens,drawn := s.drawn,toks := s.toks,os := s.os } := by
  obtain ⟨t,m1,m2,m3⟩ := m.there
  have hn : H e = none := by
    cases z : H e with
    | none => rfl
    | some u => obtain ⟨o,z2⟩ := ze2 (I.hok e u z); rw [m.new] at z2; cases z2
  have old : ∀ b u,H b = some u→upd H e (.ext (XR e C none)) b = some u := fun b u hb => by rw [zae (fun z => by rw [z,hn] at hb; cases hb)]; exact hb
  refine ⟨hn,I.call' (ch := []) rfl ⟨fun b o hb _ _ _ => m.keeps b o hb,fun b o hb _ _ _ => ⟨o.slots,m.keeps b o hb⟩,fun b o hb hz _ => ?_,fun b o hb _ => ⟨o,m.keeps b o hb⟩,fun b xs hb => old b _ hb,fun b o u hb => old b _ hb,fun b ps hb => ⟨#[],by simpa using old b _ hb⟩⟩ (fun b u hb => ?_) I.bare fun b hb => absurd hb (by simp)⟩
  · rw [zae (fun z => by rw [z,m.new] at hb; cases hb)]; exact hz
  · by_cases z : b = e
    · subst z
      rw [zag] at hb; cases hb
      exact XR.ok m1
    · rw [zae z] at hb
      exact (I.hok b u hb).stay (fun c v _ hc => m.keeps c v hc) (fun c hc => old c _ hc) fun c xs hc => old c _ hc
theorem Fly.init {s' : Shared} {h' : Heap} {e C dx : Addr} {vs : List Value} {f : Str} {y : V} (I : Inv X pins σ H s) (m : s.heap.MadeExcOf h' e (.ref C) vs) (os : s'.os = s.os) (bare : AllBare s'.gens)
    (un : Un (frs X.stack) [] (upd H e (.ext (XR e C none))) (upd (upd (upd H e (.ext (XR e C none))) dx (.xd [(f,y)])) e (.ext (XR e C (some dx)))) h' s'.heap)
    (hok : HOk X.prog X.w (upd (upd (upd H e (.ext (XR e C none))) dx (.xd [(f,y)])) e (.ext (XR e C (some dx)))) s'.heap) (hdx : upd H e (.ext (XR e C none)) dx = none) (hde : dx≠e) :
    H dx = none∧Fly X.prog X.w X.stack H s (upd H dx (.xd [(f,y)])) e (.ref C) (some dx) s' := by
  obtain ⟨hn,I2⟩ := Inv.exc I m
  have hd : H dx = none := by rw [zae hde] at hdx; exact hdx
  have ne : ∀ b o,s.heap.get? b = some o→b≠e := fun b o hb z => by rw [z,m.new] at hb; cases hb
  have up : ∀ b,b≠e→upd (upd (upd H e (.ext (XR e C none))) dx (.xd [(f,y)])) e (.ext (XR e C (some dx))) b = upd H dx (.xd [(f,y)]) b := fun b hb => by
    rw [zae hb]
    by_cases z : b = dx
    · subst z; rw [zag,zag]
    · rw [zae z,zae z,zae hb]
  have up0 : ∀ b,b≠e→upd H e (.ext (XR e C none)) b = H b := fun b hb => zae hb
  have he2 : upd H dx (.xd [(f,y)]) e = none := by rw [zae hde.symm]; exact hn
  have inn : ∀ b u,upd H dx (.xd [(f,y)]) b = some u→b≠e := fun b u hb z => by rw [z,he2] at hb; cases hb
  obtain ⟨⟨t,g1⟩,_,_⟩ := hok e _ zag
  have un2 : Un (frs X.stack) [] H (upd H dx (.xd [(f,y)])) s.heap s'.heap := by
    refine ⟨fun b o hb hz hf hx => un.keep b o (m.keeps b o hb) (by rw [up0 b (ne b o hb)]; exact hz) hf hx,fun b o hb hz hf hx => un.slot b o (m.keeps b o hb) (by rw [up0 b (ne b o hb)]; exact hz) hf hx,fun b o hb hz hx => ?_,fun b o hb hx => un.there b o (m.keeps b o hb) hx,fun b xs hb => ?_,fun b o u hb => ?_,fun b ps hb => ?_⟩
    · rw [← up b (ne b o hb)]; exact un.free b o (m.keeps b o hb) (by rw [up0 b (ne b o hb)]; exact hz) hx
    · have hbe : b≠e := fun z => by rw [z,hn] at hb; cases hb
      rw [← up b hbe]; exact un.tups b xs (by rw [up0 b hbe]; exact hb)
    · have hbe : b≠e := fun z => by rw [z,hn] at hb; cases hb
      rw [← up b hbe]; exact un.frzs b o u (by rw [up0 b hbe]; exact hb)
    · have hbe : b≠e := fun z => by rw [z,hn] at hb; cases hb
      rw [← up b hbe]; exact un.tbls b ps (by rw [up0 b hbe]; exact hb)
  have hok2 : HOk X.prog X.w (upd H dx (.xd [(f,y)])) s'.heap := fun b u hb => by
    refine (hok b u (by rw [up b (inn b u hb)]; exact hb)).stay (fun c v _ hc => hc) (fun c hc => ?_) fun c xs hc => ?_
    · have : c≠e := fun z => by rw [z,zag] at hc; cases hc
      rw [← up c this]; exact hc
    · have : c≠e := fun z => by rw [z,zag] at hc; cases hc
      rw [← up c this]; exact hc
  refine ⟨hd,os,bare,un2,hok2,hideAll s'.heap (e::frs X.stack),fun b o hb => of_hideAll _ hb,hideAll_none _ List.mem_cons_self,?_,⟨_,_,g1,rfl,fun d hd => by cases hd; rfl,rfl,.inl rfl⟩,fun b o hb hf => ?_,fun b u hb => ?_⟩
  · have key : ∀ l : List Env,(∀ b∈frs l,b∈frs X.stack)→s.heap.FunFrames X.base l→s'.heap.FunFrames (hideAll s'.heap (e::frs X.stack)) l := by
      intro l
      induction l with
      | nil => intro _ _; unfold Heap.FunFrames; trivial
      | cons env l ih =>
        intro hs hf
        unfold Heap.FunFrames at hf ⊢
        obtain ⟨f1,⟨L,o,f2,f3,f4,f5⟩,f6⟩ := hf
        have hL : L∈frs X.stack := hs L (by unfold frs; rw [List.filterMap_cons,f2]; exact List.mem_cons_self)
        obtain ⟨sl,hsl⟩ := un2.slot L o f4 (I.stkFree L hL) hL (by simp)
        refine ⟨f1,⟨L,_,f2,hideAll_none _ (List.mem_cons_of_mem _ hL),hsl,f5⟩,ih (fun b hb => hs b ?_) f6⟩
        unfold frs; rw [List.filterMap_cons,f2]; exact List.mem_cons_of_mem _ hb
    exact key X.stack (fun _ hb => hb) I.stack
  · obtain ⟨o',ho'⟩ := un2.there b o hb (by simp)
    exact ⟨o',hideAll_get _ ho' fun z => by
      rcases List.mem_cons.mp z with z | z
      · exact ne b o hb z
      · exact hf z⟩
  · obtain ⟨o,eo⟩ := ze2 (hok2 b u hb)
    refine ⟨o,hideAll_get _ eo fun z => ?_⟩
    rcases List.mem_cons.mp z with z | z
    · exact inn b u hb z
    · have h1 := I.stkFree b z
      by_cases zz : b = dx
      · obtain ⟨_,ob,hob,_⟩ := I.stack.mem z
        have := un2.free b ob hob h1 (by simp)
        rw [this] at hb; cases hb
      · rw [zae zz,h1] at hb; cases hb
end
section
variable {X : Cx} {pins : List (Addr × Obj)} {σ : L2.St} {H : Hp} {s : Shared} {x f : Str} {C : Addr} {np cpos pos : Pos} {a : Expr} {t : TA}
theorem zfU {Q : Flow→Shared→Prop} (I : Inv X pins σ H s) (hc : X.calm = true) (c : XCI X.prog X.w X.K X.mg X.base x C f) (hr : Room 2 X.A) (hg : Gl X x) (ha : PA X [a] t)
    (h : t σ H fun vs H1 => ∃ i,vs = [.int i]∧i.natAbs.log2 < 64∧∀ s1 e dx s',Inv X pins σ H1 s1→H1 dx = none→Fly X.prog X.w X.stack H1 s1 (upd H1 dx (.xd [(f,.int i)])) e (.ref C) (some dx) s'→X.xe (.ref e) s')
    (hdb : (x == ("__debug__" : Str)) = false := by decide) (he : starEach [a] X.env = (false,eval a X.env)::starEach [] X.env := by rfl) (hpl : (backTo cpos (starEach [] X.env)).any (·.1) = false := by rfl) :
    wpAny (model X.prog X.w) X.A (exec (.Raise (some (.Call (.Name x np) [a] [] cpos)) none pos) X.env) Q X.xe s := by
  obtain ⟨bm,fI,fd,y,oI,N,nm,ql,bs,sn,sub,ab,col,dd,k0,k1,k2,k3,k5,xi,ob,hns,hni,hfI,hfc,hbd,F⟩ := c.ex
  rw [arm_exec_Raise]
  refine wpAny_bind (wpAny_standAt (zhf (C := C) (nm := nm) (ql := ql) (N := N) (bs := bs) (bm := bm) (hdct := true) (sn := sn) (sub := sub) (ab := ab) (col := col) (dd := dd) (k0 := k0) (k1 := k1) (k2 := k2) (k3 := k3) (k5 := k5) (nw := "ValueError.__new__") (zeT (xi.tl _ I.kIn) (by decide +kernel)) (I.ok.hd hc)
    (wpAny_bind (wpAny_mono (wpAny_Call_Name_kw (zcv I hg c.bound ?_ hdb)) (fun v s3 h3 => wpAny_bind (wpAny_standAt (wpAny_pure h3))) fun _ _ z => z))))
  refine callWith_K (h₀ := X.base) I.ok.mod.kin c.keep (thn (ha cpos pins s σ H _ I h) fun us s1 ⟨vs,H1,I1,r,i,hv,hi,q⟩ => ⟨I1.kIn,?_⟩) he hpl
  subst hv
  obtain ⟨u,rfl,ru⟩ := r.one
  obtain ⟨hp,gs,dr,tk,os⟩ := s1
  refine zgV (us := [u]) PySem.F.excBase_ValueError (xi.tl _ I1.kIn) (I1.kIn _ _ ob) (Heap.Ns.of_isNs (isNs_of_in I1.kIn hns)) ?_ (I1.kIn _ _ hfI) hfc (by rw [sizeLine_eq]; show 1≤16777216; decide) fun h' e m => ?_
  · exact zmn I1.kIn (Heap.Ns.of_isNs (isNs_of_in I1.kIn hns)) hni
  obtain ⟨hn,I2⟩ := Inv.exc I1 m
  have e0 := I2.env0.make C [u] []
  refine wpAny_call (codeAny_mono (F.run _ X.stack _ _ ⟨[.ref e,u],[]⟩ [.ref e,u] [.ref e,.int i] (fun v H' => v = .non∧∃ dx,upd H1 e (.ext (XR e C none)) dx = none∧dx≠e∧H' = upd (upd (upd H1 e (.ext (XR e C none))) dx (.xd [(f,.int i)])) e (.ext (XR e C (some dx)))) (fun _ _ _ => False) (hr.make C [u] []) e0 (hbd _ [.ref e,u] I2.kIn rfl) (.cons rfl (.cons ru .nil)) ⟨e,i,rfl,hi,zag,fun dx h1 h2 => ⟨rfl,dx,h1,h2,rfl⟩⟩) fun r s' hq => ?_)
  cases r with
  | error e => exact False.elim hq
  | ok fl =>
    cases fl with
    | ret z =>
      obtain ⟨v,H',o1,o2,o3,o4,o5,rfl,dx,d1,d2,rfl⟩ := hq
      obtain ⟨hd,fl⟩ := Fly.init I1 m o1 o2 o3 o4 d1 d2
      obtain ⟨⟨t,g1⟩,_,_⟩ := o4 e _ zag
      exact ⟨o5,e,t,some dx,rfl,(I1.call' (ch := []) fl.os fl.un fl.hok fl.bare (fun b z => absurd z (by simp))).kIn _ _ ob,g1,q _ e dx s' I1 hd fl⟩
    | next => exact False.elim hq
    | brk => exact False.elim hq
    | cont => exact False.elim hq
end
end DL
end
section
namespace DL
open PySem PySem.Spec PyProof.Rows L2 PySem.W PySem.Calls
noncomputable def zfV (m : List Md) (nm f : Str) (fl : Rho→Res (List D)) : FS := fun r => onE m r (fl r) fun ds => match ds with
  | [.int i] => if i.natAbs.log2 < 64 then .exc (xD nm [(f,.int i)]) (forget m r) else .stuck
  | _ => .stuck
section
variable {X : Cx} {g : GE} {ro : Bool} {m mb : List Md} {a e : Expr} {fl : Rho → Res (List D)} {fe : FE} {x f nm : Str} {C : Addr} {p np pos : Pos}
theorem zg8 (hc : X.calm = true) (c : XCI X.prog X.w X.K X.mg X.base x C f) (xn : XN X.K nm C) (hr : Room 2 X.A) (hg : Gl X x) (ha : SA X g m [a] fl) (hdb : (x == ("__debug__" : Str)) = false := by decide)
    (he : starEach [a] X.env = (false,eval a X.env)::starEach [] X.env := by rfl) (hpl : (backTo p (starEach [] X.env)).any (·.1) = false := by rfl) :
    SS X g ro mb m (.Raise (some (.Call (.Name x np) [a] [] p)) none pos) (zfV m nm f fl) m := by
  refine ⟨rfl,fun pins s σ H D I ⟨r,G,si,q⟩ => ?_⟩
  refine zfU I hc c hr hg ha ⟨r,G,si,?_⟩ hdb he hpl
  refine zac (zbb si rfl q) fun ds q vs G' H' w' rs => ?_
  split at q
  · rename_i i
    split at q
    · rename_i hi
      cases rs with
      | cons r1 rest =>
        cases rest
        have hv := r1.int w'.ok
        subst hv
        refine ⟨i,rfl,hi,fun s1 e dx s' I1 hd fl => ?_⟩
        have gw : Grow X.K G' H' (gset G' dx (.obj 1 [(f,.int i)])) (upd H' dx (.xd [(f,.int i)])) := Grow.newF w'.ok hd (OB.fld zag (.cons ⟨rfl,.scl (.int i)⟩ .nil))
        exact q pins (.ref e) s' σ _ _ (w'.trans gw).ge (by have := (si.grow (w'.trans gw)).forget; exact this) (fl.inv I1) ⟨pins,s1,H',e,C,some dx,nm,[(f,.int i)],rfl,rfl,xn,zao,I1,fl⟩
    · exact q.elim
  · exact q.elim
noncomputable def xatD (hit : Str→Bool) (f : Str) : D→Option D
  | .obj 0 ((_,.str nm)::ds) => if hit nm = true then ds.lookup f else none
  | _ => none
noncomputable def zh8 (K : PySem.W.Frag) (f : Str) (hit : Str→Bool) : Prop := ∀ nm C,hit nm = true→XN K nm C→∃ bm,XA K C bm∧XI K C bm f
theorem zkI {ta : TE} (he : PE X e ta) (hb : attributeBase e f X.env (eval e X.env) = eval e X.env) : PE X (.Attribute e f pos) (fun σ H Q => ta σ H fun x H1 => ∃ a C bm dx fs v,x = .ref a∧H1 a = some (.ext (XcO a C (some dx)))∧XA X.K C bm∧XI X.K C bm f∧H1 dx = some (.xd fs)∧fs.lookup f = some v ∧
    (∀ u,RelV v u→handedIn u = true)∧Q v H1) := by
  intro pins s σ H Q I h
  refine zjN hb (thn (he pins s σ H _ I h) fun u s1 ⟨x,H1,I1,rx,a,C,bm,dx,fs,v,ex,ea,xa,xi,ed,l,hh,q⟩ => ?_)
  subst ex
  obtain rfl : u = Value.ref a := rx
  obtain ⟨⟨oe,vs,o1,o2,o3,o4⟩,_,_⟩ := I1.hok a _ ea
  obtain ⟨N,nm,ql,bs,sn,sub,ab,col,dd,k0,k1,k2,k3,k5,ob⟩ := xi.ob
  obtain ⟨mA,n1,n2⟩ := I1.hok dx _ ed
  have n3 := n2 f
  rw [l] at n3
  unfold getAttr
  refine wpAny_bind (wpAny_mkText ?_)
  cases hm : mA f with
  | none => rw [hm] at n3; exact False.elim n3
  | some z =>
    rw [hm] at n3
    exact zgW (s := { heap := s1.heap,gens := s1.gens,drawn := s1.drawn,toks := s1.toks + 1,os := s1.os }) I1.kIn (I1.kIn _ _ ob) o1 o2 xa.be xa.ga xa.gn (zlu (s := { heap := s1.heap,gens := s1.gens,drawn := s1.drawn,toks := s1.toks + 1,os := s1.os }) I1.kIn (I1.kIn _ _ ob) o1 o2 o4 (o3 dx rfl) n1.ns xi.g1 hm (handedOut_of (hh z n3)) ⟨v,H1,I1.tok _,n3,q⟩)
theorem RFs.look {K : PySem.W.Frag} {G : GH} {fs : List (Str × V)} {ds : List (Str × D)} {d : D} (h : RFs K G fs ds) (l : ds.lookup f = some d) : ∃ v,fs.lookup f = some v∧RG K G v d := by
  induction h with
  | nil => cases l
  | @cons p q fs ds r _ ih =>
    obtain ⟨a,v⟩ := p
    obtain ⟨b,d'⟩ := q
    obtain ⟨r1,r2⟩ := r
    have r1 : a = b := r1
    subst r1
    rw [List.lookup] at l ⊢
    split at l
    · rename_i hb
      cases l
      exact ⟨v,rfl,r2⟩
    · rename_i hb
      exact ih l
theorem zl3 {hit : Str→Bool} (hx : zh8 X.K f hit) (he : SB X g m e fe) (hb : attributeBase e f X.env (eval e X.env) = eval e X.env := by rfl) : SE X g m (.Attribute e f pos) (f1 fe (xatD hit f)) := by
  refine PE.imp (zkI he hb) fun σ H Q ⟨r,G,si,q⟩ => ⟨r,G,si,zac (zad q) fun d q1 v G1 H1 w1 r1 => ?_⟩
  obtain ⟨d',e',q2⟩ := zat q1
  unfold xatD at e'
  split at e'
  · rename_i k nm ds
    split at e'
    · rename_i hh
      obtain ⟨a,C,dx,rfl,ha,xn,hG⟩ : ∃ a C dx,v = .ref a∧H1 a = some (.ext (XcO a C (some dx)))∧XN X.K nm C∧G1 dx = some (.obj 1 ds) := by
        rcases r1 with h | ⟨a,rfl,h⟩
        · cases h with
          | scl s => cases s
          | ref e2 =>
            cases w1.ok _ _ e2 with
            | @exc _ _ od _ r n fl =>
              cases od with
              | none => cases (show ds = [] from fl); cases e'
              | some dx => exact ⟨_,_,dx,rfl,r,n,fl⟩
          | kc k => cases k
        · cases h.ob
      obtain ⟨bm,xa,xi⟩ := hx nm C hh xn
      cases w1.ok _ _ hG with
      | fld hd rf =>
        obtain ⟨v',l,rv⟩ := rf.look e'
        refine ⟨a,C,bm,dx,_,v',rfl,ha,xa,xi,hd,l,fun u hu => ?_,q2 v' G1 H1 w1 rv⟩
        cases rv with
        | scl s => cases s <;> first | (obtain ⟨_,rfl⟩ := hu; rfl) | (cases hu; rfl)
        | ref _ => cases (show u = Value.ref _ from hu); rfl
        | kc _ => cases (show u = Value.ref _ from hu); rfl
    · cases e'
  · cases e'
end
end DL
end
section
namespace DL
open PySem PySem.Spec PyProof.Rows L2 PySem.W PySem.Calls
noncomputable def nsOf (K : PySem.W.Frag) (C : Addr) : Option Addr := match K.lookup C with
  | some ⟨_,_,.cls cd,_⟩ => some cd.ns
  | _ => none
noncomputable def zkIn (K : PySem.W.Frag) (C N : Addr) : Bool := match K.lookup C with
  | some ⟨.type "type",_,.cls cd,sl⟩ => (match cd.mro,sl.toList with
    | .ref C'::bm,[_,_,_,_,some (.builtin n),_] => C' == C && n == "ValueError.__new__" && ! cd.hasDel && cd.hasDict && tailIn K vErr bm && nsOkIn K cd.ns && cd.ns == N
    | _,_ => false)
  | _ => false
theorem zlW {K : PySem.W.Frag} {C N : Addr} (h : zkIn K C N = true) : ∃ bm,(∃ nm q bs sn sub ab col dd k0 k1 k2 k3 k5,K.lookup C = some (excClassObj nm q C N bs bm true sn sub ab col dd k0 k1 k2 k3 k5 "ValueError.__new__"))∧tailIn K vErr bm = true∧nsOkIn K N = true := by
  unfold zkIn at h
  split at h
  · rename_i dict cd sl hk
    split at h
    · rename_i C' bm k0 k1 k2 k3 n k5 hm hs
      simp only [Bool.and_eq_true,beq_iff_eq,Bool.not_eq_true'] at h
      obtain ⟨⟨⟨⟨⟨⟨rfl,rfl⟩,hd⟩,hx⟩,ht⟩,hn⟩,rfl⟩ := h
      obtain ⟨nm',bs,mro,ns,q,hdct,sn,sub,ab,col,hdel⟩ := cd
      have e1 : mro = Value.ref C'::bm := hm
      have e2 : hdel = false := hd
      have e4 : hdct = true := hx
      subst e1 e2 e4
      have e3 : sl = #[k0,k1,k2,k3,some (Value.builtin "ValueError.__new__"),k5] := by
        cases sl with
        | mk l => exact congrArg Array.mk hs
      subst e3
      exact ⟨bm,⟨_,_,_,_,_,_,_,_,_,_,_,_,_,hk⟩,ht,hn⟩
    · cases h
  · cases h
theorem zjW {K : PySem.W.Frag} {C N : Addr} {bm : List Value} {nm : Str} (h : zkIn K C N = true) (o : xoIn K C = some (bm,nm)) : (∃ nm q bs sn sub ab col dd k0 k1 k2 k3 k5,K.lookup C = some (excClassObj nm q C N bs bm true sn sub ab col dd k0 k1 k2 k3 k5 "ValueError.__new__"))∧tailIn K vErr bm = true∧nsOkIn K N = true := by
  obtain ⟨bm',⟨nm',q,bs,sn,sub,ab,col,dd,k0,k1,k2,k3,k5,h1⟩,h2,h3⟩ := zlW h
  obtain ⟨⟨N1,nm1,q1,bs1,hd1,sn1,sub1,ab1,col1,dd1,a0,a1,a2,a3,a5,nw1,z1⟩,_⟩ := ziI o
  rw [h1] at z1
  have : bm' = bm := by
    have e1 := congrArg Obj.data (Option.some.inj z1)
    have e2 := Data.cls.inj e1
    have e3 := congrArg ClassData.mro e2
    exact (List.cons.inj e3).2
  subst this
  exact ⟨⟨_,_,_,_,_,_,_,_,_,_,_,_,_,h1⟩,h2,h3⟩
theorem zmO {K : PySem.W.Frag} {C N : Addr} {bm : List Value} {nm f : Str} (h : zkIn K C N = true) (o : xoIn K C = some (bm,nm)) (g0 : findIn K (.ref C) "__setattr__" = some (some (.builtin "object.__setattr__"))) (g1 : findIn K (.ref C) f = some none) : XI K C bm f := by
  obtain ⟨⟨nm',q,bs,sn,sub,ab,col,dd,k0,k1,k2,k3,k5,h1⟩,h2,h3⟩ := zjW h o
  exact ⟨⟨N,nm',q,bs,sn,sub,ab,col,dd,k0,k1,k2,k3,k5,h1⟩,fun h kin => tail_of_in kin h2,g0,g1⟩
theorem zmH {P : Program} {w : World} {K : PySem.W.Frag} {h : Heap} {mg : Str→Option Value} {x y f qual nm : Str} {C N fI : Addr} {bm : List Value} {st : Stmt} {fd : FuncData} (KX : K.In h) (G : h.Ns mainGlobals mg) (a : nsIn K mainGlobals x = some (some (.ref C))) (kp : keepIn K (.ref C) = true)
    (z : zkIn K C N = true) (o : xoIn K C = some (bm,nm)) (xi : XI K C bm f) (i : nsIn K N "__init__" = some (some (.ref fI))) (F : Fun K "__init__" qual st fI fd) (fc : typeIn K (.ref fI) = some (.type "function"))
    (hb : ∀ (kV doc pm : Value) (an : Option Addr) (cdv ct : Value) (us : List Value),us.length = ([("self" : Str),y]).length→bindArgs (PySem.W.fnOf "__init__" qual (defArgs st) (defBody st) (defScope st) .none kV doc pm an cdv ct) ⟨us,[]⟩ = pure (([("self" : Str),y]).zip us))
    (ok : ∀ base,FnOk P w K mg base CX0 1 fI fd ["self",y] (spI C f)) (base : Heap) : XCI P w K mg base x C f := by
  obtain ⟨⟨nm',q,bs,sn,sub,ab,col,dd,k0,k1,k2,k3,k5,h1⟩,h2,h3⟩ := zjW z o
  obtain ⟨oI,lI,hI⟩ := Option.map_eq_some_iff.mp (show (K.lookup fI).map (·.cls) = some (.type "function") from fc)
  exact ⟨mg_of KX G a,kp,bm,fI,fd,y,oI,N,nm',q,bs,sn,sub,ab,col,dd,k0,k1,k2,k3,k5,xi,h1,h3,i,lI,hI,F.binds hb,ok base⟩
noncomputable def zlp (s : Stmt) : Stmt := match s with
  | .ClassDef _ _ _ (d::_) _ _ _ _ _ _ _ => d
  | _ => s
section
variable {P : Program} {w : World} {K : PySem.W.Frag} {mg : Str → Option Value} {base : Heap}
theorem zhB {x : Str} {st : Stmt} {N ps : List Str} {k : Nat} {ro : Bool} {ms : List Md} {fs : FS} {m' : List Md} {dds : List Value} (A : DefAtD K mg x st dds) (S : FnScope N ps (defScope st)) (hms : ms.length = ps.length)
    (hb : ∀ (T : Addr) (kV doc pm : Value) (an : Option Addr) (cdv ct : Value) (us : List Value),us.length = ps.length→∃ kk : Option (Array Value)→Sem (List (Str × Value)),bindArgs (PySem.W.fnOf x x (defArgs st) (defBody st) (defScope st) (.ref T) kV doc pm an cdv ct) ⟨us,[]⟩ = seqItems? (.ref T) >>= kk∧kk (some dds.toArray) = pure (ps.zip (us++[])))
    (hbody : ∀ (f : Addr) (cdv : Value) (A : Around) (outer : List Env) (s : Shared) (H : Hp) (g : GE) (E : XK),Room k (A.deeper (envOfC x (defScope st) s.heap.objs.size f cdv)) →
      SSs (cxOf (CXR P w) P w K mg base N x (defScope st) f cdv A outer s H E) g ro [] (zcd N.length ms) (defBody st) fs m') :
    CalleeX P w K mg base x ps [] (k + 1) ro ms fun ds => outR ro (fs (zak N.length ds)) := by
  obtain ⟨f,T,o,n,oc,od,kV,doc,pm,an,cdv,ct,osl,h1,hT,hd,lk,hcd,kp⟩ := A.ex
  refine ⟨f,PySem.W.fnOf x x (defArgs st) (defBody st) (defScope st) (.ref T) kV doc pm an cdv ct,h1,kp,fun s us KX hl => ?_,?_⟩
  · obtain ⟨kk,e1,e2⟩ := hb T kV doc pm an cdv ct us (by simpa using hl)
    exact BindsTo.of_defaults rfl (KX _ _ hT) hd e1 e2
  · refine zjG lk hcd S (fun vs H Q E ⟨G,ds,gk,rs,q⟩ => rs.len.1.trans hms) fun A outer s H vs Q E hr h => ?_
    obtain ⟨G,ds,gk,rs,q⟩ := h
    have hpl : ps.length≤N.length := by have := congrArg List.length S.pre; rw [List.length_take] at this; omega
    refine ⟨_,(hbody f cdv A outer s H ⟨G,H,fun _ => none⟩ E hr).2,zak N.length ds,G,zdC gk rs (by omega),?_⟩
    replace q : fin (outR ro (fs (zak N.length ds))) _ _ := q
    cases e : fs (zak N.length ds) with
    | nx r' =>
      rw [e] at q
      cases ro with
      | false => exact fun σ' G' H' _ si => q .non G' H' si.grown (.scl .non)
      | true => exact q.elim
    | rt d => rw [e] at q; exact fun v G' H' wg rv => q v G' H' wg rv
    | bk r' => rw [e] at q; exact q.elim
    | ct r' => rw [e] at q; exact q.elim
    | exc x r' =>
      rw [e] at q
      intro pins ev s' σ' G' H' le si I ex
      obtain ⟨pins1,s1,H1,a,C,od1,nm,fs1,rfl,rfl,xn,xf,I1,fl⟩ := ex
      exact fl.leaves I1 rfl rfl rfl fun s'' fl2 => ⟨a,_,H',od1,rfl,fl2,q C od1 nm fs1 G' H' rfl xn xf si.grown⟩
    | stuck => rw [e] at q; exact q
end
theorem zmN {K : PySem.W.Frag} {f : Str} {hit : Str→Bool} (l : List (Str × Addr × List Value)) (h : ∀ q∈l,CF K q.1 q.2.1 q.2.2∧XI K q.2.1 q.2.2 f) (hh : ∀ nm,hit nm = true→∃ q∈l,q.1 = nm) : zh8 K f hit := by
  intro nm C hn xn
  obtain ⟨q,hq,rfl⟩ := hh nm hn
  obtain ⟨c,xi⟩ := h q hq
  have := c.eq xn
  subst this
  exact ⟨_,c.xa,xi⟩
end DL
end
section
namespace DL
open PySem PySem.Spec PyProof.Rows L2 PySem.W PySem.Calls
section
variable {X : Cx} {tg : Expr}
end
section
variable {X : Cx} {g : GE} {ro : Bool} {m mb : List Md} {tg iter : Expr} {sts : List Stmt} {s1 : FS} {pos : Pos}
end
end DL
end
section
namespace DL
open PySem PySem.Spec PyProof.Rows L2 PySem.W PySem.Calls
section
variable {X : Cx} {pins : List (Addr × Obj)} {σ : L2.St} {H H' : Hp} {s s' : Shared} {a : Addr} {cls : Value} {od : Option Addr}
end
noncomputable abbrev _root_.L2.Cx.loop (X : Cx) : Cx := X.wish (notedBy (model X.prog X.w) X.A X.env (cameBackBy (model X.prog X.w) X.A X.env X.xe))
section
variable {X : Cx} {tg : Expr}
end
section
variable {X : Cx} {g : GE} {ro : Bool} {m mb : List Md} {tg iter : Expr} {sts : List Stmt} {s1 : FS} {pos : Pos}
end
end DL
end
section
namespace DL
open PySem PySem.Spec PyProof.Rows L2 PySem.W PySem.Calls
noncomputable def MutP (K : PySem.W.Frag) (r : V→List V→Hp→VK→Prop) (mk : D→List D→Option D) : Prop := ∀ (G : GH) (H : Hp) (a : Addr) (d : D) (vs : List V) (ds : List D) (d' : D) (Q : VK),GOk K G H→Own K G H a d→RGs K G vs ds→mk d ds = some d' →
  (∀ o' v,OwnO K G (upd H a o') a d'→Q v (upd H a o'))→r (.ref a) vs H Q
section
variable {X : Cx} {g : GE} {m mb : List Md} {fl : Rho → Res (List D)} {pos pos' apos cpos : Pos} {ro : Bool} {x name : Str} {T id : String} {R : V → List V → Hp → VK → Prop} {mk : D → List D → Option D}
theorem zgd (i : Nat) (hm : m[i]? = some .ow) (hk : MutP X.K R mk) {D0 : Ends} {σ : L2.St} {H : Hp} (h : tS X g ro m m mb (mutF T m i fl mk) D0 σ H) :
    ∃ v,σ[i]? = some (some v)∧tyV X.K T v H∧tL X g m fl σ H fun xs H2 => R v xs H2 fun _ H1 => D0.nx σ H1 := by
  obtain ⟨r,G,si,k⟩ := h
  unfold mutF at k
  cases er : r[i]? with
  | none => simp only [er] at k; exact (show False from k).elim
  | some oo =>
    cases oo with
    | none => simp only [er] at k; exact (show False from k).elim
    | some d =>
      simp only [er] at k
      by_cases ht : tyB T d = true
      · rw [if_pos ht] at k
        obtain ⟨a,h1,h2,h3⟩ := si.mut hm er
        refine ⟨_,h1,zib h2 ht,r,G,si,zac (zbb si rfl k) fun ds k2 vs G' H' w rs => ?_⟩
        cases em : mk d ds with
        | none => simp only [em] at k2; exact (show False from k2).elim
        | some d' =>
          simp only [em] at k2
          obtain ⟨a',h1',h2',h3'⟩ := (si.grow w).mut hm er
          rw [h1] at h1'; cases h1'
          exact hk G' H' a d vs ds d' _ w.ok h2' rs em fun o' _ ob => k2 σ G' _ w.ge (h3' o' d' ob)
      · rw [if_neg ht] at k; exact (show False from k).elim
end
structure IsxT (K : PySem.W.Frag) (cs : List Addr) (tab : Str→Option Bool) : Prop where
  no : kitAny K (.type "NoneType") (cs.map Value.ref) = some false
  ex : ∀ nm b C,tab nm = some b→XN K nm C→∃ bm,XA K C bm∧kitAny K (.ref C) (cs.map Value.ref) = some b
theorem zfI : ∀ {cs : List Addr} {its : List Value},Vals (cs.map V.ref) its→its = cs.map Value.ref := by
  intro cs
  induction cs with
  | nil => intro its h; cases h; rfl
  | cons c cs ih =>
    intro its h
    cases h with
    | cons r t =>
      cases (show _ = Value.ref c from r)
      rw [ih t]; rfl
section
variable {X : Cx} {g : GE} {m : List Md} {e : Expr} {f : FE} {pos p q1 q2 q3 : Pos}
theorem zgU : zbR X (.builtin "isinstance") (fun xs H Q => ∃ (x : V) (tp : Addr) (cs : List Addr) (b : Bool),xs = [x,.ref tp]∧H tp = some (.tup (cs.map V.ref))∧((x = .non∧kitAny X.K (.type "NoneType") (cs.map Value.ref) = some b)∨∃ a C od bm,x = .ref a∧H a = some (.ext (XcO a C od))∧XA X.K C bm∧kitAny X.K (.ref C) (cs.map Value.ref) = some b)∧Q (.bl b) H) := by
  intro pins s σ H xs us Q I r h
  obtain ⟨x,tp,cs,b,rfl,ht,h,q⟩ := h
  obtain ⟨u,w',rfl,rx,ry⟩ := zfJ r
  cases (show w' = Value.ref tp from ry)
  obtain ⟨_,its,rv,⟨o,o1,o2,n,o3⟩,_⟩ := I.hok tp _ ht
  obtain ⟨oc,od,oda,osl⟩ := o
  dsimp only at o2 o3
  subst o2 o3
  have hits := zfI rv
  subst hits
  have fin : ∀ tk,EP X pins σ Q (.bool b) { s with toks := tk } := fun tk => ⟨.bl b,H,I.tok tk,rfl,q⟩
  rcases h with ⟨rfl,e⟩ | ⟨a,C,od,bm,rfl,ea,xa,e⟩
  · cases rx
    exact PySem.W.kia_tup PySem.W.kitx_none I.kIn True.intro o1 e (fun z => nomatch z) fin
  · cases (show u = Value.ref a from rx)
    exact PySem.W.kia_tup (ze4 xa) I.kIn (I.hok a _ ea).1 o1 e (fun z => nomatch z) fin
theorem zkk {x1 x2 : Str} {T1 T2 : Addr} {tab : Str→Option Bool} {k : Nat} (h1 : X.mg x1 = some (.ref T1)) (h2 : X.mg x2 = some (.ref T2)) (hx : IsxT X.K [T1,T2] tab) (g1 : Gl X x1) (g2 : Gl X x2) (hg : Gl X "isinstance") (hm : X.mg "isinstance" = none) (he : SB X g m e f)
    (d1 : (x1 == ("__debug__" : Str)) = false := by decide) (d2 : (x2 == ("__debug__" : Str)) = false := by decide)
    (hs1 : starEach [e,.Tuple [.Name x1 q1,.Name x2 q2] k q3] X.env = (false,eval e X.env)::starEach [.Tuple [.Name x1 q1,.Name x2 q2] k q3] X.env := by rfl)
    (hs2 : starEach [.Tuple [.Name x1 q1,.Name x2 q2] k q3] X.env = (false,eval (.Tuple [.Name x1 q1,.Name x2 q2] k q3) X.env)::starEach [] X.env := by rfl)
    (hs3 : starEach [.Name x1 q1,.Name x2 q2] X.env = (false,eval (.Name x1 q1) X.env)::starEach [.Name x2 q2] X.env := by rfl) (hs4 : starEach [.Name x2 q2] X.env = (false,eval (.Name x2 q2) X.env)::starEach [] X.env := by rfl)
    (hpl : (backTo pos (starEach [.Tuple [.Name x1 q1,.Name x2 q2] k q3] X.env)).any (·.1) = false := by rfl) :
    SE X g m (.Call (.Name "isinstance" p) [e,.Tuple [.Name x1 q1,.Name x2 q2] k q3] [] pos) (f1 f (isxD tab)) := by
  have hT := zkJ (x1 := k) (pos := q3) (zaO (zeD (v := .ref T1) g1 h1 rfl d1) (zaO (zeD (v := .ref T2) g2 h2 rfl d2) zb3 hs4) hs3)
  refine PE.imp (zck zgU hg hm (by first | exact PyProof.Rows.boot_isinstance | rfl) (zaO he (zaO hT zb3 hs2) hs1) (by decide) (by decide) hs1 hpl) fun σ H Q ⟨r,G,si,q⟩ => ⟨r,G,si,zac (zad q) fun d qa v G1 H1 w1 r1 => ?_⟩
  obtain ⟨d',e',qb⟩ := zat qa
  refine ⟨by rw [sizeLine_eq]; show 2≤16777216; decide,fun p hp => ?_⟩
  have gw := w1.trans (Grow.new w1.ok hp (.tup [V.ref T1,V.ref T2]))
  unfold isxD at e'
  split at e'
  · cases e'
    have hv : v = .non := r1.non w1.ok
    subst hv
    exact ⟨.non,p,[T1,T2],false,rfl,zag,.inl ⟨rfl,hx.no⟩,qb _ G1 _ gw (.scl (.bl _))⟩
  · rename_i kk nm ds
    cases ht : tab nm with
    | none => rw [ht] at e'; cases e'
    | some b =>
      rw [ht] at e'
      cases e'
      obtain ⟨a,C,od,rfl,ha,xn⟩ := RB.exc w1.ok r1
      obtain ⟨bm,xa,hk⟩ := hx.ex nm b C ht xn
      exact ⟨.ref a,p,[T1,T2],b,rfl,zag,.inr ⟨a,C,od,bm,rfl,by rw [zae (fun z => by rw [z,hp] at ha; cases ha)]; exact ha,xa,hk⟩,qb _ G1 _ gw (.scl (.bl _))⟩
  · cases e'
end
theorem zmu {K : PySem.W.Frag} {cs : List Addr} {tab : Str→Option Bool} (l : List (Str × Addr × List Value)) (n : kitAny K (.type "NoneType") (cs.map Value.ref) = some false) (h : ∀ q∈l,CF K q.1 q.2.1 q.2.2∧kitAny K (.ref q.2.1) (cs.map Value.ref) = tab q.1) (hh : ∀ nm b,tab nm = some b→∃ q∈l,q.1 = nm) : IsxT K cs tab := by
  refine ⟨n,fun nm b C ht xn => ?_⟩
  obtain ⟨q,hq,rfl⟩ := hh nm b ht
  obtain ⟨f,hc⟩ := h q hq
  have := f.eq xn
  subst this
  exact ⟨_,f.xa,by rw [hc,ht]⟩
end DL
end
section
namespace DL
open PySem PySem.Spec PyProof.Rows L2 PySem.W PySem.Calls
section
variable {X : Cx} {g : GE} {m mb : List Md} {e : Expr} {es : List Expr} {fl : Rho → Res (List D)} {pos pos' apos cpos : Pos} {ro : Bool} {x name : Str} {T id : String} {R : V → List V → Hp → VK → Prop} {mk : D → List D → Option D}
theorem zkj (i : Nat) (hm : m[i]? = some .ow) (pa : PlainAttrs T) (slot : Slot T name id) (hty : typeOf (.builtin id) = pure (.type "method_descriptor")) (hmt : MtR X id R) (hk : MutP X.K R mk) (hN : X.N[i]? = some x) (hv : Vis X.env.scope x) (ha : SA X g m (e::es) fl)
    (hd : (x == ("__debug__" : Str)) = false := by decide) (hcd : (x == ("__classdict__" : Str)) = false := by decide)
    (hbase : attributeBase (.Name x pos') name X.env (eval (.Name x pos') X.env) = eval (.Name x pos') X.env := by rfl)
    (hfew : ((backTo cpos (starEach (e::es) X.env)).all (fun x => ! x.1) && (backToKw cpos (keywordEach [] X.env)).all (fun x => x.1.isSome) && decide ((e::es).length + ([] : List Keyword).length + (if ([] : List Keyword).isEmpty then 0 else 1) < 30)) = true := by rfl)
    (hline : (apos.endLine == cpos.line) = true := by rfl) (hst : starEach (e::es) X.env = (false,eval e X.env)::starEach es X.env := by rfl) (hplain : (backTo cpos (starEach es X.env)).any (·.1) = false := by rfl) :
    SS X g ro mb m (.Expr (.Call (.Attribute (.Name x pos') name apos) (e::es) [] cpos) pos) (mutF T m i fl mk) m :=
  ⟨rfl,PS.imp (zeC (zja pa slot hty hmt (zb2 hN hv hd hcd) ha hbase hfew hline hst hplain)) fun D0 σ H h => zgd i hm hk h⟩
end
noncomputable def ze0 : D→List D→Option D
  | .lst ds,[.int i] => if 0≤i∧i.toNat < ds.length∧ds.length≤1000 then some (.lst (ds.eraseIdx i.toNat)) else none
  | _,_ => none
theorem zfs {i : Int} {n : Nat} (h0 : 0≤i) (h1 : i.toNat < n) : seqIndex? i n = some i.toNat := by
  unfold seqIndex?
  simp only [show ¬ i < 0 by omega,if_false,if_neg]
  rw [if_pos (by simp only [Bool.and_eq_true,decide_eq_true_eq]; omega)]
theorem zhn {K : PySem.W.Frag} : MutP K zii ze0 := by
  intro G H a d vs ds d' Q gk ow rs e q
  unfold ze0 at e
  split at e
  · rename_i zs i
    split at e
    · rename_i hz
      obtain ⟨h0,h1,h2⟩ := hz
      cases e
      cases ow.ob with
      | @lst xs _ r s =>
        cases rs with
        | cons r1 t =>
          cases t
          have hl := Paired.length s
          have hv := r1.int gk
          subst hv
          refine ⟨a,xs,i,i.toNat,xs[i.toNat]'(by omega),rfl,rfl,r,by omega,by omega,zfs h0 (by omega),List.getElem?_eq_getElem (by omega),q _ _ (.lst zag (Paired.er _ s))⟩
    · cases e
  · cases e
section
variable {X : Cx} {pins : List (Addr × Obj)} {σ : L2.St} {H H' : Hp} {s s' : Shared} {a C T : Addr} {od : Option Addr}
end
section
variable {X : Cx} {g : GE} {ro : Bool} {m m1 mb : List Md} {T : Addr} {fb fh fh2 : FS}
end
end DL
end
section
namespace DL
open PySem PySem.Spec PyProof.Rows L2 PySem.W PySem.Calls
section
variable {X : Cx} {g : GE} {m : List Md} {e : Expr} {es : List Expr} {fl : Rho → Res (List D)} {k : Nat} {ps : List Str} {F : List D → Res D} {x : Str} {p pos : Pos} {ms : List Md}
theorem zjq (c : CalleeX X.prog X.w X.K X.mg X.base x ps [] k true ms F) (hr : Room k X.A) (ha : SAM X g m (e::es) ms fl) (hg : Gl X x := by rfl)
    (hdb : (x == ("__debug__" : Str)) = false := by decide) (he : starEach (e::es) X.env = (false,eval e X.env)::starEach es X.env := by rfl) (hpl : (backTo pos (starEach es X.env)).any (·.1) = false := by rfl) :
    SO X g m (.Call (.Name x p) (e::es) [] pos) (ownF (zeh fl [] F)) := by
  obtain ⟨fa,fd,h1,h2,h3,G1⟩ := c.ex
  refine PE.imp (zhu G1 hr hg h1 h2 h3 .nil ha hdb he hpl) fun σ H Q ⟨r,G,si,q⟩ => ⟨r,G,si,?_⟩
  have q := zad q
  unfold zeh at q
  cases ez : fl r with
  | ok zs =>
    rw [ez] at q
    intro vs G' H' w' rs
    refine ⟨fun cls od H2 => ∃ C nm fs G2,cls = .ref C∧F (zs++[]) = .exc (xD nm fs)∧XN X.K nm C∧XF G2 od fs∧Grow X.K G' H' G2 H2,⟨G',zs,w'.ok,by rw [List.append_nil]; exact rs,?_⟩,?_⟩
    · cases ef : F (zs++[]) with
      | ok d =>
        replace q : fin (F (zs++[])) _ _ := q
        rw [ef] at q
        rw [List.append_nil] at ef
        rw [ef]
        intro v G2 H2 w2 rv
        rcases rv with ⟨a,rfl,hn,ho⟩ | ⟨rfl,rfl⟩
        · cases d with
          | non => exact q.elim
          | _ => exact q a G2 H2 (w'.trans w2) (w'.back hn) ho
        · exact q.elim
      | exc y =>
        rw [List.append_nil] at ef
        rw [ef]
        exact fun C od nm fs G2 H2 hy xn xf w2 => ⟨C,nm,fs,G2,rfl,by rw [hy],xn,xf,w2⟩
      | stuck => replace q : fin (F (zs++[])) _ _ := q; rw [ef] at q; exact q.elim
    · intro pins s a cls od H2 s' I fl ⟨C,nm,fs,G2,hc,ef,xn,xf,w2⟩
      subst hc
      replace q : fin (F (zs++[])) _ _ := q
      rw [ef] at q
      exact q pins (.ref a) s' G2 H2 (w'.trans w2) (fl.inv I) ⟨pins,s,H',a,C,od,nm,fs,rfl,rfl,xn,xf,I,fl⟩
  | exc x => rw [ez] at q; exact q
  | stuck => rw [ez] at q; exact q
end
section
variable {X : Cx} {g : GE} {m : List Md} {r : Rho} {G : GH} {st : L2.St} {H : Hp} {k : Nat}
theorem set_ow {m : List Md} {k i : Nat} {md : Md} (h : ((za1 m).set k .ow)[i]? = some md) : (i = k∧md = .ow)∨(i≠k∧md = .sh) := by
  by_cases e : k = i
  · subst e
    rw [List.getElem?_set] at h
    rw [if_pos rfl] at h
    split at h
    · cases h; exact .inl ⟨rfl,rfl⟩
    · cases h
  · rw [List.getElem?_set_ne e] at h
    refine .inr ⟨fun z => e z.symm,?_⟩
    unfold za1 at h
    rw [List.getElem?_map] at h
    cases q : m[i]? with
    | none => rw [q] at h; cases h
    | some x => rw [q] at h; cases h; rfl
theorem SI.lose (s : SI X g (za1 m) r G st H) (k : Nat) : SI X g ((za1 m).set k .ow) (r.set k none) G st H := by
  have key : ∀ {j : Nat} {d : D},(r.set k none)[j]? = some (some d)→k≠j∧r[j]? = some (some d) := fun {j d} h => by
    have hij : k≠j := by
      rintro rfl
      rw [List.getElem?_set,if_pos rfl] at h
      split at h <;> cases h
    rw [List.getElem?_set_ne hij] at h
    exact ⟨hij,h⟩
  refine ⟨s.gok,s.old,s.ge,s.gf,by rw [List.length_set]; exact s.lm,by rw [List.length_set]; exact s.lr,fun j d h hj => ?_,fun j d h hj => ?_,fun j d h hj => ?_,fun j l a d e hjk h1 h2 m1 m2 q1 q2 => ?_,fun j o h hj => ?_⟩
  · obtain ⟨hij,h⟩ := key h
    exact s.sh j d h (by rw [List.getElem?_set_ne hij] at hj; exact hj)
  · obtain ⟨hij,h⟩ := key h
    rcases set_ow hj with ⟨z,_⟩ | ⟨_,z⟩
    · exact absurd z.symm hij
    · cases z
  · rcases set_ow hj with ⟨_,z⟩ | ⟨_,z⟩ <;> cases z
  · obtain ⟨z1,h1⟩ := key h1
    rcases set_ow m1 with ⟨z,_⟩ | ⟨_,z⟩
    · exact absurd z.symm z1
    · cases z
  · rcases set_ow hj with ⟨_,z⟩ | ⟨_,z⟩ <;> cases z
theorem SI.keep (s : SI X g m r G st H) (hk : m[k]? = some .ow) : SI X g ((za1 m).set k .ow) ((DL.forget m r).set k (r.getD k none)) G st H := by
  have sf := s.forget
  have hlen : k < r.length := by rw [s.lr,← s.lm]; exact (List.getElem?_eq_some_iff.mp hk).1
  have hlf : (DL.forget m r).length = r.length := by rw [sf.lr,s.lr]
  have at' : ∀ {d : D},((DL.forget m r).set k (r.getD k none))[k]? = some (some d)→r[k]? = some (some d) := fun {d} h => by
    rw [List.getElem?_set_self (by omega)] at h
    have h := Option.some.inj h
    rw [List.getD_eq_getElem?_getD,List.getElem?_eq_getElem hlen] at h
    rw [List.getElem?_eq_getElem hlen]
    exact congrArg some h
  refine ⟨s.gok,s.old,s.ge,s.gf,by rw [List.length_set]; exact sf.lm,by rw [List.length_set]; exact sf.lr,fun j d h hj => ?_,fun j d h hj => ?_,fun j d h hj => ?_,fun j l a d e hjk h1 h2 m1 m2 q1 q2 => ?_,fun j o h hj => ?_⟩
  · rcases set_ow hj with ⟨_,z⟩ | ⟨z,_⟩
    · cases z
    · have z' : k≠j := fun e => z e.symm
      rw [List.getElem?_set_ne z'] at h hj
      exact sf.sh j d h hj
  · rcases set_ow hj with ⟨z,_⟩ | ⟨_,z⟩
    · subst z
      exact s.ow _ d (at' h) hk
    · cases z
  · rcases set_ow hj with ⟨_,z⟩ | ⟨_,z⟩ <;> cases z
  · rcases set_ow m1 with ⟨z,_⟩ | ⟨_,z⟩
    · rcases set_ow m2 with ⟨z2,_⟩ | ⟨_,z2⟩
      · exact hjk (z.trans z2.symm)
      · cases z2
    · cases z
  · rcases set_ow hj with ⟨_,z⟩ | ⟨_,z⟩ <;> cases z
end
noncomputable def tryK (m1 : List Md) (kk i : Nat) (hit : Str→Bool) (fb fh : FS) : FS := fun r => match fb r with
  | .nx r' => .nx ((forget m1 r').set kk (r'.getD kk none))
  | .rt d => .rt d
  | .exc x r' => (match xNm x with
    | some nm => if hit nm = true then (match fh (r'.set i (some x)) with
      | .nx r2 => .nx ((r2.set i none).set kk none)
      | _ => .stuck) else .stuck
    | none => .stuck)
  | _ => .stuck
section
variable {X : Cx} {g : GE} {ro : Bool} {m m1 mb : List Md} {T : Addr} {fb fh : FS}
theorem zkg {n xT : Str} {bmT : List Value} {np hpos pos : Pos} {body suite : List Stmt} {b₀ : Stmt} {hit : Str→Bool} (i kk : Nat) (hkk : m1[kk]? = some .ow) (hst : X.stack = X.env::X.outer) (hfr : X.env.frame = some X.env.locals) (hcalm : X.calm = true)
    (cT : X.mg xT = some (.ref T)) (oT : XO X.K T bmT) (hbT : bmT.contains (Value.type "BaseException") = true) (hk : zh4 X.K T hit) (hg : Gl X xT) (hN : X.N.Nodup) (hi : X.N[i]? = some n) (hl : X.env.kindOf n = some NameKind.local) (hsc : X.env.scope.names.lookup n = some .local)
    (hb : ∀ ps E,SSs (X.tr ps E) g ro [] m body fb m1) (hs : ∀ a,SSs (X.held (.ref a)) g ro [] (za1 m1) (b₀::suite) fh (za1 m1)) (hdb : (xT == ("__debug__" : Str)) = false := by decide) :
    SS X g ro mb m (.Try body [.ExceptHandler (some (.Name xT np)) (some n) (b₀::suite) hpos] [] [] pos) (tryK m1 kk i hit fb fh) ((za1 m1).set kk .ow) := by
  have hml : ((za1 m1).set kk .ow).length = m.length := by rw [List.length_set,za1,List.length_map]; exact (hb [] fun _ _ => False).1
  refine ⟨hml,fun pins s σ H D I ⟨r,G,si,q⟩ => ?_⟩
  refine wpAny_Try_except ?_
  generalize hE : (fun (e : Value) (s₁ : Shared) => wpAny (model X.prog X.w) X.A (noteFrame e X.env) (fun _ s₂ => wpAny (model X.prog X.w) X.A (setFlight e none) (fun _ s₃ => wpAny (model X.prog X.w) X.A (handleBy e X.env [.ExceptHandler (some (.Name xT np)) (some n) (b₀::suite) hpos]) (SP X pins D) X.xe s₃) X.xe s₂) X.xe s₁) = E'
  have key : oTo (X.tr (X.pn++pins) E') g ro m1 [] G { nx := D.nx,rt := D.rt } (fb r) := by
    unfold tryK at q
    cases e : fb r with
    | nx r' =>
      rw [e] at q
      exact fun σ' G' H' le si' => q σ' G' H' le (SI.keep (SI.cx (X' := X) si' rfl) hkk)
    | rt d => rw [e] at q; exact q
    | bk r' => rw [e] at q; exact q.elim
    | ct r' => rw [e] at q; exact q.elim
    | stuck => rw [e] at q; exact q
    | exc x r' =>
      rw [e] at q
      intro pins' ev s' σ' G' H' le si' I' ex
      obtain ⟨pins1,s1,H1,a,C,od,nm,ds,rfl,rfl,xn,xf,I1,fl⟩ := ex
      show E' (.ref a) s'
      rw [← hE]
      replace q : oTo X g ro ((za1 m1).set kk .ow) mb G D (if hit nm = true then (match fh (r'.set i (some (xD nm ds))) with
        | .nx r2 => .nx ((r2.set i none).set kk none)
        | _ => .stuck) else .stuck) := q
      split at q
      · rename_i hh
        obtain ⟨bm,oC,hc⟩ := hk nm C hh xn
        refine zhX (i := i) (D := D) fl (Inv.untr I1) hst hfr hcalm cT oT hbT oC hc hg hN hi hl hsc (hs a).2 (fun hHa => ?_) hdb
        have hGa : G' a = none := si'.gok.isN hHa
        have w : Grow X.K G' H' (gset G' a (xD nm ds)) (upd H' a (.ext (XcO a C od))) := by
          have ge : ∀ b d,G' b = some d→gset G' a (xD nm ds) b = some d := fun b d e => by
            have : b≠a := by rintro rfl; rw [hGa] at e; cases e
            rw [zaC this]; exact e
          refine ⟨fun b d e => ?_,fun b o e => ?_,ge,fun b h => ?_⟩
          · by_cases hb : b = a
            · subst hb
              rw [zao] at e
              cases e
              exact .exc zag xn (xf.mono ge)
            · rw [zaC hb] at e
              exact (si'.gok b d e).mono ge fun o z => by rw [zae hb]; exact z
          · have : b≠a := by rintro rfl; rw [hHa] at e; cases e
            rw [zae this]; exact e
          · have : b≠a := by rintro rfl; exact h hHa
            exact zaC this
        have si2 := ((SI.cx (X' := X) si' rfl).grow w).set i (.ref zao)
        have hms : (za1 m1)[i]? = some .sh := by
          have hlen : i < (za1 m1).length := by
            rw [si'.lm,I'.len]; exact (List.getElem?_eq_some_iff.mp hi).1
          have hlen' : i < m1.length := by rw [za1,List.length_map] at hlen; exact hlen
          unfold za1
          rw [List.getElem?_map,List.getElem?_eq_getElem hlen']
          rfl
        have hset : (za1 m1).set i .sh = za1 m1 := by
          refine List.ext_getElem? fun j => ?_
          by_cases hj : i = j
          · subst hj
            rw [List.getElem?_set_self (List.getElem?_eq_some_iff.mp hms).1,hms]
          · rw [List.getElem?_set_ne hj]
        rw [hset] at si2
        refine ⟨_,_,SI.cx si2 rfl,?_⟩
        cases e2 : fh (r'.set i (some (xD nm ds))) with
        | nx r2 =>
          rw [e2] at q
          exact fun σ2 G2 H2 le2 si3 => q (σ2.set i none) G2 H2 (le.trans (Gle.trans w.ge le2)) (SI.lose (SI.unset (SI.cx (X' := X) si3 rfl) hms) kk)
        | rt d => rw [e2] at q; exact q.elim
        | bk _ => rw [e2] at q; exact q.elim
        | ct _ => rw [e2] at q; exact q.elim
        | exc _ _ => rw [e2] at q; exact q.elim
        | stuck => rw [e2] at q; exact q.elim
      · exact q.elim
  refine wpAny_mono ((hb (X.pn++pins) E').2 [] s σ H _ (Inv.tr I E') ⟨r,G,SI.cx si rfl,key⟩) (fun f s1 h1 => ?_) fun e s1 h1 => ?_
  · have h2 := SP.untr h1
    cases f with
    | next =>
      obtain ⟨σ',H',I',k⟩ := h2
      exact wpAny_execs_nil ⟨σ',H',I',k⟩
    | brk => obtain ⟨σ',H',I',k⟩ := h2; exact k.elim
    | cont => obtain ⟨σ',H',I',k⟩ := h2; exact k.elim
    | ret u => exact h2
  · exact h1
end
end DL
end
section
namespace Rg
theorem zdJ {α : Type} [DecidableEq α] : ∀ {l m : List α},l.Nodup→(∀ x∈l,x∈m)→l.length≤m.length
  | [],_,_,_ => Nat.zero_le _
  | a::l,m,hn,hs => by
    have hn' := List.nodup_cons.mp hn
    have h1 := zdJ (l := l) (m := m.erase a) hn'.2 fun x hx => by
      have hxa : x≠a := by rintro rfl; exact hn'.1 hx
      exact (List.mem_erase_of_ne hxa).mpr (hs x (List.mem_cons_of_mem _ hx))
    have ha : a∈m := hs a List.mem_cons_self
    rw [List.length_erase_of_mem ha] at h1
    have := List.length_pos_of_mem ha
    simp only [List.length_cons]; omega
structure S where
  line : List Nat
  things : List Nat
section
variable (W : Nat → List Nat) (O : Nat → Option Nat)
noncomputable def best (row things : List Nat) : Nat := (row.find? fun x => decide (x∈things)).getD 0
noncomputable def tgt (s : S) (h : Nat) : Nat := best (W h) s.things
noncomputable def pt (s : S) (x : Nat) : Nat := (s.line.find? fun h => decide (O h = some x)).getD (s.line.headD 0)
noncomputable def nxt (s : S) (h : Nat) : Nat := pt O s (tgt W s h)
noncomputable def zmr (s : S) (C : List Nat) : S := ⟨s.line.filter fun h => decide (h∉C),s.things.filter fun x => decide (x∉C.map (tgt W s))⟩
noncomputable def it {α : Type} (f : α→α) : Nat→α→α
  | 0,x => x
  | n + 1,x => it f n (f x)
structure Ok (s : S) : Prop where
  nl : s.line.Nodup
  nt : s.things.Nodup
  le : s.line.length≤s.things.length
  row : ∀ h∈s.line,∀ x∈s.things,x∈W h
  inj : ∀ h k x,O h = some x→O k = some x→h = k
  own : ∀ h∈s.line,∀ x,O h = some x→x∈s.things
structure Cyc (s : S) (C : List Nat) : Prop where
  sub : ∀ h∈C,h∈s.line
  cl : ∀ h∈C,nxt W O s h∈C
  per : ∀ h∈C,∃ k,it (nxt W O s) (k + 1) h = h
variable {W O}
variable {s : S}
theorem Cyc.it_mem {C : List Nat} (c : Cyc W O s C) {h : Nat} (hh : h∈C) : ∀ n,it (nxt W O s) n h∈C := by
  intro n
  induction n generalizing h with
  | zero => exact hh
  | succ n ih => exact ih (c.cl h hh)
theorem Cyc.out {C E : List Nat} (c : Cyc W O s C) (e : Cyc W O s E) {h : Nat} (hc : h∈C) (he : h∉E) : nxt W O s h∉E := by
  intro z
  obtain ⟨k,hk⟩ := c.per h hc
  exact he (by rw [← hk]; exact e.it_mem z k)
noncomputable def less (E C : List Nat) : List Nat := E.filter fun h => decide (h∉C)
inductive TTC (W : Nat→List Nat) (O : Nat→Option Nat) (a : Nat→Nat) : S→Prop where
  | nil {s : S} : s.line = []→TTC W O a s
  | step {s : S} (C : List Nat) : Cyc W O s C→(∀ h∈C,a h = tgt W s h)→TTC W O a (zmr W s C)→TTC W O a s
end
end Rg
end
section
namespace Law
open PySem PySem.Spec PyProof.Rows L2 DL
noncomputable abbrev gv (i : Nat) : DL.FE := fun r => DL.getV r i
noncomputable abbrev ci (i : Int) : DL.FE := fun _ => .ok (.int i)
noncomputable abbrev q0 : List DL.Md := [.bw,.bw]
noncomputable abbrev q101 : List DL.Md := [.sh,.sh,.sh,.sh,.sh,.sh,.sh,.sh,.sh,.sh,.sh,.sh]
noncomputable abbrev q102 : List DL.Md := [.bw,.bw,.ow,.sh,.sh]
noncomputable abbrev q103 : List DL.Md := [.sh,.sh,.sh,.sh,.sh,.sh,.sh,.sh,.ow,.sh,.sh,.sh]
noncomputable abbrev q104 : List DL.Md := [.bw,.bw,.sh,.sh]
noncomputable abbrev q105 : List DL.Md := [.sh,.sh]
noncomputable abbrev q106 : List DL.Md := [.bw,.sh]
noncomputable abbrev q107 : List DL.Md := [.sh,.sh,.bw,.ow,.sh,.sh]
noncomputable abbrev q108 : List DL.Md := [.bw,.bw,.sh,.sh,.sh,.sh,.sh]
noncomputable abbrev q109 : List DL.Md := [.bw,.bw,.bw,.bw]
noncomputable abbrev q110 : List DL.Md := [.sh,.bw,.ow,.sh]
noncomputable abbrev q111 : List DL.Md := [.sh,.sh,.bw,.sh,.sh,.sh]
noncomputable abbrev q112 : List DL.Md := [.bw,.bw,.bw,.bw,.sh]
theorem zlb {α : Type} (us : List α) (h : us.length = 1) : ∃ a0,us = [a0] := by
  match us,h with
  | [_],_ => exact ⟨_,rfl⟩
theorem zcM {α : Type} (us : List α) (h : us.length = 2) : ∃ a0 a1,us = [a0,a1] := by
  match us,h with
  | [_,_],_ => exact ⟨_,_,rfl⟩
theorem zmt {α : Type} (us : List α) (h : us.length = 3) : ∃ a0 a1 a2,us = [a0,a1,a2] := by
  match us,h with
  | [_,_,_],_ => exact ⟨_,_,_,rfl⟩
theorem zla {α : Type} (us : List α) (h : us.length = 4) : ∃ a0 a1 a2 a3,us = [a0,a1,a2,a3] := by
  match us,h with
  | [_,_,_,_],_ => exact ⟨_,_,_,_,rfl⟩
noncomputable def top (i : Nat) : Stmt := PySem.Challenge.pw_ringtrade_k03_orders_made.main.body.getD i (.Pass ⟨0,0,0,0⟩)
structure Txt (K : PySem.W.Frag) (mg : Str→Option Value) : Prop where
  b_len : mg "len" = none
  b_range : mg "range" = none
  b_tuple : mg "tuple" = none
  b_list : mg "list" = none
  b_enumerate : mg "enumerate" = none
  b_isinstance : mg "isinstance" = none
  b_bool : mg "bool" = none
  b_int : mg "int" = none
  b_any : mg "any" = none
  b_ValueError : mg "ValueError" = none
noncomputable def zbC : Str→Bool := fun nm => (["NoOrder"] : List Str).contains nm
noncomputable def za5 : Str→Option Bool := fun nm => if (["TradeError","NoOwn","NoOrder","NoText"] : List Str).contains nm = true then some true else if ([] : List Str).contains nm = true then some false else none
noncomputable def za6 : Str→Option Bool := fun nm => if (["TradeError","NoOwn","NoOrder","NoText"] : List Str).contains nm = true then some true else if ([] : List Str).contains nm = true then some false else none
noncomputable def zaR : Str→Option Bool := fun nm => if (["NoOwn","NoText"] : List Str).contains nm = true then some true else if (["TradeError","NoOrder"] : List Str).contains nm = true then some false else none
noncomputable def zfl : Str→Bool := fun nm => (["NoOrder","NoText"] : List Str).contains nm
noncomputable abbrev zbj : Stmt := zlp (top 3)
theorem zer : FnScope ["self","at"] ["self","at"] (defScope zbj) := ⟨rfl,rfl,rfl,by decide +kernel,rfl,by decide +kernel,by decide +kernel⟩
theorem zjV : ∀ (kV doc pm : Value) (an : Option Addr) (cdv ct : Value) (us : List Value),us.length = ([("self" : Str),"at"]).length→bindArgs (PySem.W.fnOf "__init__" "NoOrder.__init__" (defArgs zbj) (defBody zbj) (defScope zbj) .none kV doc pm an cdv ct) ⟨us,[]⟩ = pure (([("self" : Str),"at"]).zip us) := fun _ _ _ _ _ _ us hl => by obtain ⟨u0,u1,rfl⟩ := zcM us hl; kernel_rfl
theorem zjB {P : Program} {w : World} {K : PySem.W.Frag} {mg : Str→Option Value} {C T fI : Addr} {bm : List Value} {fd : FuncData} (F : Fun K "__init__" "NoOrder.__init__" zbj fI fd) (xi : XI K C bm "at") (hm : mg "TradeError" = some (.ref T)) (hT : XT K T) (base : Heap) : FnOk P w K mg base CX0 1 fI fd ["self","at"] (spI C "at") :=
  zjA (k := 0) F zer xi fun cdv A outer s H E => zeZ (zeC (zi8 (by rfl) hm hT (zaO (zb2 (i := 0) rfl (by first | exact Or.inl rfl | exact Or.inr (Or.inl rfl) | exact Or.inr (Or.inr rfl))) (zaO (zmj (c := cI) (zkB (zkD (j := 1) rfl (by first | exact Or.inl rfl | exact Or.inr (Or.inl rfl) | exact Or.inr (Or.inr rfl)) zkC (fun _ h => h))) (by decide +kernel)) zb3)))) (zi2 (zi4 (zb2 (i := 0) rfl (by first | exact Or.inl rfl | exact Or.inr (Or.inl rfl) | exact Or.inr (Or.inr rfl))) (zb2 (i := 1) rfl (by first | exact Or.inl rfl | exact Or.inr (Or.inl rfl) | exact Or.inr (Or.inr rfl)))))
noncomputable abbrev zcC : Stmt := top 14
noncomputable abbrev zdi : List Str := ["_law_script","_law_k","_law_cell_here","_law_stirred"]
noncomputable abbrev zbE : List Str := ["_law_script","_law_k"]
theorem zbp : FnScope zdi zbE (defScope zcC) := ⟨rfl,rfl,rfl,by decide +kernel,rfl,by decide +kernel,by decide +kernel⟩
noncomputable def zbm : FS :=
  (seqF (setF q104 2 (ci 0)) (seqF (ifF q104 (zay (f2 (gv 1) (fC (zab (gv 0) lNil) lenD) ltI)) (seqF (setF q104 2 (f2 (f2 (gv 0) (gv 1) ixA) (f2 (ci 10) (ci 60) powI) modI)) zaj) zaj) (seqF (ifF q104 (fAnd (zay (f2 (fC (zab (gv 0) lNil) lenD) (ci 0) gtI)) (zay (f2 (f2 (f2 (gv 0) (ci 0) ixA) (ci 2) modI) (ci 0) eqD))) (seqF (retF q104 (gv 2)) zaj) zaj) (seqF (setF q104 3 (f2 (f2 (f2 (f2 (f2 (f2 (f2 (gv 2) (f2 (f2 (ci 7) (gv 1) mulI) (gv 1) mulI) addA) (f2 (ci 13) (gv 1) mulI) addA) (ci 5) addA) (ci 48271) mulI) (ci 2147483647) modI) (ci 69621) mulI) (ci 1000000007) modI)) (seqF (retF q104 (f2 (f2 (f2 (f2 (f2 (gv 3) (ci 1) addA) (ci 40692) mulI) (ci 2147483629) modI) (ci 39373) mulI) (ci 999999937) modI)) zaj)))))
noncomputable def zaw : List D→Res D := fun ds => outR false (zbm (zak zdi.length ds))
theorem zis {P : Program} {w : World} {K : PySem.W.Frag} {mg : Str→Option Value} {base : Heap} (T : Txt K mg) (A : DefAt K mg "_law_cell" zcC) : Callee P w K mg base "_law_cell" zbE [] 1 false q0 zaw := by
  refine zbx (k := 0) (fs := zbm) (m' := q104) A zbp rfl (fun _ _ _ _ _ _ us hl => by obtain ⟨u0,u1,rfl⟩ := zcM us hl; kernel_rfl) fun f cdv A outer s H g E hr => ?_
  have hu1 := zbM hr
  have hu64 := hr.units
  exact (zaa (zbc 2 zbp.nd (by rfl) (by first | exact Or.inl rfl | exact Or.inr rfl) zax)
      (zaa (s_if (q_lt (vb_ 1) (SE.toB (zbL (by rfl) T.b_len (zap (vb_ 0) zaH)))) (zaa (zbc 2 zbp.nd (by rfl) (by first | exact Or.inl rfl | exact Or.inr rfl) (zb7 (SE.toB (zdW hu1 (vb_ 0) (vb_ 1))) (SE.toB (zl5 (SE.toB zax) (SE.toB zax)))))
      zai)
      zai)
      (zaa (s_if (SW.toQ (zkw (q_gt (SE.toB (zbL (by rfl) T.b_len (zap (vb_ 0) zaH))) (SE.toB zax)) (zik (q_eq hu64 (SE.toB (zb7 (SE.toB (zdW hu1 (vb_ 0) (SE.toB zax))) (SE.toB zax))) (SE.toB zax))))) (zaa (zbn (v_ 2))
      zai)
      zai)
      (zaa (zbc 3 zbp.nd (by rfl) (by first | exact Or.inl rfl | exact Or.inr rfl) (zb7 (SE.toB (zev (SE.toB (zb7 (SE.toB (zev (SE.toB (zci (SE.toB (zci (SE.toB (zci (vb_ 2) (SE.toB (zev (SE.toB (zev (SE.toB zax) (vb_ 1))) (vb_ 1))))) (SE.toB (zev (SE.toB zax) (vb_ 1))))) (SE.toB zax))) (SE.toB zax))) (SE.toB zax))) (SE.toB zax))) (SE.toB zax)))
      (zaa (zbn (zb7 (SE.toB (zev (SE.toB (zb7 (SE.toB (zev (SE.toB (zci (vb_ 3) (SE.toB zax))) (SE.toB zax))) (SE.toB zax))) (SE.toB zax))) (SE.toB zax)))
      zai)))))
noncomputable abbrev zc0 : Stmt := top 15
noncomputable abbrev zdy : List Str := ["_law_cell_here","_law_m","_law_row_here","_law_thing"]
noncomputable abbrev zbU : List Str := ["_law_cell_here","_law_m"]
theorem zbA : FnScope zdy zbU (defScope zc0) := ⟨rfl,rfl,rfl,by decide +kernel,rfl,by decide +kernel,by decide +kernel⟩
noncomputable abbrev zcI : FS :=
  (seqF (mutF "list" q110 2 (zab (f2 (gv 0) (f2 (gv 3) (ci 1) addA) modI) (zab (gv 3) lNil)) insD) (seqF (setF q110 0 (f2 (gv 0) (f2 (gv 3) (ci 1) addA) zcN)) zaj))
noncomputable def zbX : FS :=
  (seqF (setF [.sh,.bw,.sh,.sh] 2 (mkL lNil)) (seqF (zd4 q110 (fRng rng1 (zab (gv 1) lNil)) (ftN 3) zcI) (seqF (retF q110 (fC (zab (gv 2) lNil) tupD)) zaj)))
noncomputable def za3 : List D→Res D := fun ds => outR false (zbX (zak zdy.length ds))
theorem zjl {P : Program} {w : World} {K : PySem.W.Frag} {mg : Str→Option Value} {base : Heap} (T : Txt K mg) (A : DefAt K mg "_law_row" zc0) : Callee P w K mg base "_law_row" zbU [] 1 false [.sh,.bw] za3 := by
  refine zbx (k := 0) (fs := zbX) (m' := q110) A zbA rfl (fun _ _ _ _ _ _ us hl => by obtain ⟨u0,u1,rfl⟩ := zcM us hl; kernel_rfl) fun f cdv A outer s H g E hr => ?_
  have hu1 := zbM hr
  have hu64 := hr.units
  exact (zaa (zdV 2 zbA.nd (by rfl) (by first | exact Or.inl rfl | exact Or.inr rfl) (zjp zdQ))
      (zaa (zl9 PassesOwn.never rfl (ze7 (by rfl) T.b_range (zap (vb_ 1) zaH)) (zdc 3 zbA.nd (by rfl) (by first | exact Or.inl rfl | exact Or.inr rfl)) (zaa (zg9 2 rfl PySem.F.plainAttrs_list PySem.F.slot_list_insert PySem.F.type_list_insert zd3 ziz (by rfl) (by first | exact Or.inl rfl | exact Or.inr (Or.inl rfl) | exact Or.inr (Or.inr rfl)) (zbJ (zb7 (vb_ 0) (SE.toB (zci (vb_ 3) (SE.toB zax)))) (zbJ (v_ 3) zdQ)))
      (zaa (zbc 0 zbA.nd (by rfl) (by first | exact Or.inl rfl | exact Or.inr rfl) (zc3 (vb_ 0) (SE.toB (zci (vb_ 3) (SE.toB zax)))))
      zai)))
      (zaa (zbn (zfQ (by rfl) T.b_tuple (zap (vb_ 2) zaH)))
      zai)))
noncomputable abbrev za7 : Stmt := top 16
noncomputable abbrev zbe : List Str := ["_law_script","_law_at","_law_n","_law_m"]
noncomputable abbrev zbD : List Str := ["_law_script","_law_at","_law_n","_law_m"]
theorem zb0 : FnScope zbe zbD (defScope za7) := ⟨rfl,rfl,rfl,by decide +kernel,rfl,by decide +kernel,by decide +kernel⟩
noncomputable def zbh : FS :=
  (seqF (retF q109 (fC (zab (zec 1 [3,0,1] (fRng rng1 (zab (gv 2) lNil)) (ftN 0) (fun _ => Res.ok true) (zaz (zab (zaz (zab (gv 2) (zab (f2 (gv 3) (gv 0) addA) lNil)) [] zaw) (zab (gv 1) lNil)) [] za3)) lNil) tupD)) zaj)
noncomputable def zbf : List D→Res D := fun ds => outR false (zbh (zak zbe.length ds))
theorem zg3 {P : Program} {w : World} {K : PySem.W.Frag} {mg : Str→Option Value} {base : Heap} (T : Txt K mg) (A : DefAt K mg "_law_wishes" za7) (c__law_cell : Callee P w K mg base "_law_cell" zbE [] 1 false q0 zaw) (c__law_row : Callee P w K mg base "_law_row" zbU [] 1 false [.sh,.bw] za3) : Callee P w K mg base "_law_wishes" zbD [] 2 false q109 zbf := by
  refine zbx (k := 1) (fs := zbh) (m' := q109) A zb0 rfl (fun _ _ _ _ _ _ us hl => by obtain ⟨u0,u1,u2,u3,rfl⟩ := zla us hl; kernel_rfl) fun f cdv A outer s H g E hr => ?_
  have hu1 := zbM hr
  have hu64 := hr.units
  exact (zaa (zbn (zfQ (by rfl) T.b_tuple (zap (SO.toB (ziu (X := (cxOf CX0 P w K mg base zbe "_law_wishes" (defScope za7) f cdv A outer s H E).nox) (N' := ["_law_hand","_law_m","_law_script","_law_at"]) (nl := 1) (cap := [3,0,1]) zb0.nd rfl (zed (osc := (defScope za7)) (ON := zbe) rfl rfl (by decide +kernel)) (SIt.toC (ze7 (by rfl) T.b_range (zap (vb_ 2) zaH))) (fun _ _ _ _ _ _ => (zdc 0 (show List.Nodup (["_law_hand","_law_m","_law_script","_law_at"] : List Str) by decide +kernel) (by rfl) (by first | exact Or.inl rfl | exact Or.inr rfl))) (ziB (by decide)) (fun _ _ _ _ _ _ => zij) (fun _ _ _ _ _ _ => (zaN (dds := []) c__law_row (hr.mono (by decide)) (m_sh (zaN (dds := []) c__law_cell (hr.mono (by decide)) (m_bw (vb_ 2) (m_bw (SE.toB (zci (vb_ 3) (vb_ 0))) zba))) (m_bw (vb_ 1) zba)))))) zaH)))
      zai)
noncomputable abbrev zcB : Stmt := top 17
noncomputable abbrev zdh : List Str := ["_law_cell_here","_law_n","_law_other","_law_order","_law_way","_law_at"]
noncomputable abbrev zca : List Str := ["_law_cell_here","_law_n","_law_other"]
theorem zbo : FnScope zdh zca (defScope zcB) := ⟨rfl,rfl,rfl,by decide +kernel,rfl,by decide +kernel,by decide +kernel⟩
noncomputable def zbG : FS :=
  (seqF (setF q111 3 (fC (zab (zaz (zab (gv 0) (zab (gv 1) lNil)) [] za3) lNil) zdm)) (seqF (setF q107 4 (f2 (gv 2) (ci 10) modI)) (seqF (setF q107 5 (f2 (f2 (gv 2) (ci 10) zcN) (gv 1) modI)) (seqF (ifF q107 (zay (f2 (gv 4) (ci 1) eqD)) (seqF (mutF "list" q107 3 (zab (gv 5) lNil) ze0) zaj) zaj) (seqF (ifF q107 (zay (f2 (gv 4) (ci 2) eqD)) (seqF (mutF "list" q107 3 (zab (gv 5) (zab (f2 (gv 3) (f2 (f2 (gv 2) (ci 70) zcN) (gv 1) modI) ixA) lNil)) insD) zaj) zaj) (seqF (ifF q107 (fAnd (zay (f2 (gv 4) (ci 2) gtI)) (zay (f2 (gv 4) (ci 7) ltI))) (seqF (putF q107 3 (gv 5) (f2 (mkL (zab (gv 1) (zab (f1 (ci 1) negI) (zab (fun _ => Res.ok (D.bl true)) (zab (fun _ => Res.ok D.non) lNil))))) (f2 (gv 4) (ci 3) subI) ixA)) zaj) zaj) (seqF (retF q111 (gv 3)) zaj)))))))
noncomputable def zbF : List D→Res D := fun ds => outR false (zbG (zak zdh.length ds))
theorem zir {P : Program} {w : World} {K : PySem.W.Frag} {mg : Str→Option Value} {base : Heap} (T : Txt K mg) (A : DefAt K mg "_law_list" zcB) (c__law_row : Callee P w K mg base "_law_row" zbU [] 1 false [.sh,.bw] za3) : Callee P w K mg base "_law_list" zca [] 2 false [.sh,.sh,.bw] zbF := by
  refine zbx (k := 1) (fs := zbG) (m' := q111) A zbo rfl (fun _ _ _ _ _ _ us hl => by obtain ⟨u0,u1,u2,rfl⟩ := zmt us hl; kernel_rfl) fun f cdv A outer s H g E hr => ?_
  have hu1 := zbM hr
  have hu64 := hr.units
  exact (zaa (zdV 3 zbo.nd (by rfl) (by first | exact Or.inl rfl | exact Or.inr rfl) (zd1 (by rfl) T.b_list (zap (SE.toB (zaN (dds := []) c__law_row (hr.mono (by decide)) (m_sh (v_ 0) (m_bw (vb_ 1) zba)))) zaH)))
      (zaa (zbc 4 zbo.nd (by rfl) (by first | exact Or.inl rfl | exact Or.inr rfl) (zb7 (vb_ 2) (SE.toB zax)))
      (zaa (zbc 5 zbo.nd (by rfl) (by first | exact Or.inl rfl | exact Or.inr rfl) (zb7 (SE.toB (zc3 (vb_ 2) (SE.toB zax))) (vb_ 1)))
      (zaa (s_if (q_eq hu64 (vb_ 4) (SE.toB zax)) (zaa (zkj 3 rfl PySem.F.plainAttrs_list PySem.F.slot_list_pop PySem.F.type_list_pop zhA zhn (by rfl) (by first | exact Or.inl rfl | exact Or.inr (Or.inl rfl) | exact Or.inr (Or.inr rfl)) (zbJ (v_ 5) zdQ))
      zai)
      zai)
      (zaa (s_if (q_eq hu64 (vb_ 4) (SE.toB zax)) (zaa (zg9 3 rfl PySem.F.plainAttrs_list PySem.F.slot_list_insert PySem.F.type_list_insert zd3 ziz (by rfl) (by first | exact Or.inl rfl | exact Or.inr (Or.inl rfl) | exact Or.inr (Or.inr rfl)) (zbJ (v_ 5) (zbJ (zdW hu1 (vb_ 3) (SE.toB (zb7 (SE.toB (zc3 (vb_ 2) (SE.toB zax))) (vb_ 1)))) zdQ)))
      zai)
      zai)
      (zaa (s_if (SW.toQ (zkw (q_gt (vb_ 4) (SE.toB zax)) (zik (q_lt (vb_ 4) (SE.toB zax))))) (zaa (zki 3 hu1 rfl (by rfl) (by first | exact Or.inl rfl | exact Or.inr (Or.inl rfl) | exact Or.inr (Or.inr rfl)) (vb_ 5) (zdW hu1 (SO.toB (zjp (zbJ (v_ 1) (zbJ (zl6 (SE.toB zax)) (zbJ s_bl (zbJ zdF zdQ)))))) (SE.toB (zkh (vb_ 4) (SE.toB zax)))))
      zai)
      zai)
      (zaa (zl8 3 rfl (zbn (v_ 3)))
      zai)))))))
noncomputable abbrev zc1 : Stmt := top 18
noncomputable abbrev zdz : List Str := ["_law_order","_law_n","_law_met","_law_at","_law_hand"]
noncomputable abbrev zcA : List Str := ["_law_order","_law_n"]
theorem zbB : FnScope zdz zcA (defScope zc1) := ⟨rfl,rfl,rfl,by decide +kernel,rfl,by decide +kernel,by decide +kernel⟩
noncomputable abbrev zaK : FS :=
  (seqF (ifF q102 (fOr (fNot (fTru (f1 (gv 4) (isiD "int")))) (fOr (fTru (f1 (gv 4) (isiD "bool"))) (fOr (fNot (zay (zb5 (ci 0) (gv 4) (gv 1) leI ltI))) (zay (f2 (gv 4) (gv 2) inD))))) (seqF (retF q102 (gv 3)) zaj) zaj) (seqF (mutF "list" q102 2 (zab (gv 4) lNil) appD) zaj))
noncomputable def zbY : FS :=
  (seqF (setF [.bw,.bw,.sh,.sh,.sh] 2 (mkL lNil)) (seqF (zd4 q102 (fEnu (gv 0)) (ftT (zaQ (ftN 3) (zaQ (ftN 4) zdd))) zaK) (seqF (ifF q102 (zay (f2 (fC (zab (gv 2) lNil) lenD) (gv 1) ltI)) (seqF (retF q102 (fC (zab (gv 2) lNil) lenD)) zaj) zaj) (seqF (retF q102 (fun _ => Res.ok D.non)) zaj))))
noncomputable def zbW : List D→Res D := fun ds => outR false (zbY (zak zdz.length ds))
theorem zjm {P : Program} {w : World} {K : PySem.W.Frag} {mg : Str→Option Value} {base : Heap} (T : Txt K mg) (A : DefAt K mg "_law_due" zc1) : Callee P w K mg base "_law_due" zcA [] 1 false q0 zbW := by
  refine zbx (k := 0) (fs := zbY) (m' := q102) A zbB rfl (fun _ _ _ _ _ _ us hl => by obtain ⟨u0,u1,rfl⟩ := zcM us hl; kernel_rfl) fun f cdv A outer s H g E hr => ?_
  have hu1 := zbM hr
  have hu64 := hr.units
  exact (zaa (zdV 2 zbB.nd (by rfl) (by first | exact Or.inl rfl | exact Or.inr rfl) (zjp zdQ))
      (zaa (zie PassesOwn.never rfl (zgu (by rfl) T.b_enumerate (vw_ 0)) (zlv rfl (zfa (zdc 3 zbB.nd (by rfl) (by first | exact Or.inl rfl | exact Or.inr rfl)) (zfa (zdc 4 zbB.nd (by rfl) (by first | exact Or.inl rfl | exact Or.inr rfl)) zlw))) (zaa (s_if (SW.toQ (q_or (zdl (zdk (SE.toB (zew "int" "int" rfl (zgk _) (by rfl) T.b_isinstance (by rfl) T.b_int (vb_ 4))))) (q_or (zdk (SE.toB (zew "bool" "bool" rfl (zcV _) (by rfl) T.b_isinstance (by rfl) T.b_bool (vb_ 4)))) (q_or (zdl (zhh zkX zhv zk4 zk3 (SE.toB zax) (vb_ 4) (vb_ 1))) (zhg (q_in hu1 (vb_ 4) (vb_ 2))))))) (zaa (zbn (v_ 3))
      zai)
      zai)
      (zaa (zg9 2 rfl PySem.F.plainAttrs_list PySem.F.slot_list_append PySem.F.type_list_append zc5 ziG (by rfl) (by first | exact Or.inl rfl | exact Or.inr (Or.inl rfl) | exact Or.inr (Or.inr rfl)) (zbJ (v_ 4) zdQ))
      zai)))
      (zaa (s_if (q_lt (SE.toB (zbL (by rfl) T.b_len (zap (vb_ 2) zaH))) (vb_ 1)) (zaa (zbn (zbL (by rfl) T.b_len (zap (vb_ 2) zaH)))
      zai)
      zai)
      (zaa (zbn zdF)
      zai))))
noncomputable abbrev zcY : Stmt := top 6
noncomputable abbrev zdw : List Str := ["value"]
noncomputable abbrev zcy : List Str := ["value"]
theorem zes : FnScope zdw zcy (defScope zcY) := ⟨rfl,rfl,rfl,by decide +kernel,rfl,by decide +kernel,by decide +kernel⟩
noncomputable def zdA : FS :=
  (seqF (retF [Md.bw] (vAnd (f1 (gv 0) (isiD "int")) (vNot (f1 (gv 0) (isiD "bool"))))) zaj)
noncomputable def zbV : List D→Res D := fun ds => outR false (zdA (zak zdw.length ds))
theorem zjj {P : Program} {w : World} {K : PySem.W.Frag} {mg : Str→Option Value} {base : Heap} (T : Txt K mg) (A : DefAt K mg "is_whole" zcY) : Callee P w K mg base "is_whole" zcy [] 1 false [Md.bw] zbV := by
  refine zbx (k := 0) (fs := zdA) (m' := [Md.bw]) A zes rfl (fun _ _ _ _ _ _ us hl => by obtain ⟨u0,rfl⟩ := zlb us hl; kernel_rfl) fun f cdv A outer s H g E hr => ?_
  have hu1 := zbM hr
  have hu64 := hr.units
  exact (zaa (zbn (zdG (zew "int" "int" rfl (zgk _) (by rfl) T.b_isinstance (by rfl) T.b_int (vb_ 0)) (zeu (ziU (zew "bool" "bool" rfl (zcV _) (by rfl) T.b_isinstance (by rfl) T.b_bool (vb_ 0))))))
      zai)
noncomputable abbrev zcZ : Stmt := top 7
noncomputable abbrev zdx : List Str := ["value","bound"]
noncomputable abbrev zcz : List Str := ["value","bound"]
theorem zet : FnScope zdx zcz (defScope zcZ) := ⟨rfl,rfl,rfl,by decide +kernel,rfl,by decide +kernel,by decide +kernel⟩
noncomputable def zbi : FS :=
  (seqF (retF q0 (vAnd (zaz (zab (gv 0) lNil) [] zbV) (zb5 (ci 0) (gv 0) (gv 1) leI ltI))) zaj)
noncomputable def za2 : List D→Res D := fun ds => outR false (zbi (zak zdx.length ds))
theorem zjk {P : Program} {w : World} {K : PySem.W.Frag} {mg : Str→Option Value} {base : Heap} (T : Txt K mg) (A : DefAt K mg "is_below" zcZ) (c_is_whole : Callee P w K mg base "is_whole" zcy [] 1 false [Md.bw] zbV) : Callee P w K mg base "is_below" zcz [] 2 false q0 za2 := by
  refine zbx (k := 1) (fs := zbi) (m' := q0) A zet rfl (fun _ _ _ _ _ _ us hl => by obtain ⟨u0,u1,rfl⟩ := zcM us hl; kernel_rfl) fun f cdv A outer s H g E hr => ?_
  have hu1 := zbM hr
  have hu64 := hr.units
  exact (zaa (zbn (zdG (zaN (dds := []) c_is_whole (hr.mono (by decide)) (m_bw (vb_ 0) zba)) (zeu (zha zkX zhv zk4 zk3 (SE.toB zax) (vb_ 0) (vb_ 1)))))
      zai)
noncomputable abbrev zbZ : Stmt := top 8
noncomputable abbrev zcq : List Str := ["numbers","bound","ahead","place","number"]
noncomputable abbrev zbd : List Str := ["numbers","bound"]
theorem za8 : FnScope zcq zbd (defScope zbZ) := ⟨rfl,rfl,rfl,by decide +kernel,rfl,by decide +kernel,by decide +kernel⟩
noncomputable abbrev zav : FS :=
  (seqF (ifF q102 (fOr (fNot (fTru (zaz (zab (gv 4) (zab (gv 1) lNil)) [] za2))) (zay (f2 (gv 4) (gv 2) inD))) (seqF (retF q102 (gv 3)) zaj) zaj) (seqF (putF q102 2 (gv 4) (fun _ => Res.ok (D.bl true))) zaj))
noncomputable def zbg : FS :=
  (seqF (setF [.bw,.bw,.sh,.sh,.sh] 2 (fun _ => Res.ok (D.dic []))) (seqF (zd4 q102 (fEnu (gv 0)) (ftT (zaQ (ftN 3) (zaQ (ftN 4) zdd))) zav) (seqF (retF q102 (fC (zab (gv 0) lNil) lenD)) zaj)))
noncomputable def zaD : List D→Res D := fun ds => outR false (zbg (zak zcq.length ds))
theorem zg2 {P : Program} {w : World} {K : PySem.W.Frag} {mg : Str→Option Value} {base : Heap} (T : Txt K mg) (A : DefAt K mg "first_wrong" zbZ) (c_is_below : Callee P w K mg base "is_below" zcz [] 2 false q0 za2) : Callee P w K mg base "first_wrong" zbd [] 3 false q0 zaD := by
  refine zbx (k := 2) (fs := zbg) (m' := q102) A za8 rfl (fun _ _ _ _ _ _ us hl => by obtain ⟨u0,u1,rfl⟩ := zcM us hl; kernel_rfl) fun f cdv A outer s H g E hr => ?_
  have hu1 := zbM hr
  have hu64 := hr.units
  exact (zaa (zdV 2 za8.nd (by rfl) (by first | exact Or.inl rfl | exact Or.inr rfl) zk6)
      (zaa (zie PassesOwn.never rfl (zgu (by rfl) T.b_enumerate (vw_ 0)) (zlv rfl (zfa (zdc 3 za8.nd (by rfl) (by first | exact Or.inl rfl | exact Or.inr rfl)) (zfa (zdc 4 za8.nd (by rfl) (by first | exact Or.inl rfl | exact Or.inr rfl)) zlw))) (zaa (s_if (SW.toQ (q_or (zdl (zdk (SE.toB (zaN (dds := []) c_is_below (hr.mono (by decide)) (m_bw (vb_ 4) (m_bw (vb_ 1) zba)))))) (zhg (q_in hu1 (vb_ 4) (vb_ 2))))) (zaa (zbn (v_ 3))
      zai)
      zai)
      (zaa (zki 2 hu1 rfl (by rfl) (by first | exact Or.inl rfl | exact Or.inr (Or.inl rfl) | exact Or.inr (Or.inr rfl)) (vb_ 4) s_bl)
      zai)))
      (zaa (zbn (zbL (by rfl) T.b_len (zap (vb_ 0) zaH)))
      zai)))
noncomputable abbrev zcf : Stmt := top 9
noncomputable abbrev zcG : List Str := ["numbers","bound"]
noncomputable abbrev zbO : List Str := ["numbers","bound"]
theorem zdE : FnScope zcG zbO (defScope zcf) := ⟨rfl,rfl,rfl,by decide +kernel,rfl,by decide +kernel,by decide +kernel⟩
noncomputable def zbt : FS :=
  (seqF (retF q0 (f2 (zaz (zab (gv 0) (zab (gv 1) lNil)) [] zaD) (fC (zab (gv 0) lNil) lenD) eqD)) zaj)
noncomputable def zbr : List D→Res D := fun ds => outR false (zbt (zak zcG.length ds))
theorem zhx {P : Program} {w : World} {K : PySem.W.Frag} {mg : Str→Option Value} {base : Heap} (T : Txt K mg) (A : DefAt K mg "are_unlike" zcf) (c_first_wrong : Callee P w K mg base "first_wrong" zbd [] 3 false q0 zaD) : Callee P w K mg base "are_unlike" zbO [] 4 false q0 zbr := by
  refine zbx (k := 3) (fs := zbt) (m' := q0) A zdE rfl (fun _ _ _ _ _ _ us hl => by obtain ⟨u0,u1,rfl⟩ := zcM us hl; kernel_rfl) fun f cdv A outer s H g E hr => ?_
  have hu1 := zbM hr
  have hu64 := hr.units
  exact (zaa (zbn (s_eq hu64 (SE.toB (zaN (dds := []) c_first_wrong (hr.mono (by decide)) (m_bw (vb_ 0) (m_bw (vb_ 1) zba)))) (SE.toB (zbL (by rfl) T.b_len (zap (vb_ 0) zaH)))))
      zai)
noncomputable abbrev zbH : Stmt := top 10
noncomputable abbrev zbQ : List Str := ["numbers","bound"]
noncomputable abbrev zaJ : List Str := ["numbers","bound"]
theorem zcK : FnScope zbQ zaJ (defScope zbH) := ⟨rfl,rfl,rfl,by decide +kernel,rfl,by decide +kernel,by decide +kernel⟩
noncomputable def zaY : FS :=
  (seqF (retF q0 (vAnd (f2 (fC (zab (gv 0) lNil) lenD) (gv 1) eqD) (zaz (zab (gv 0) (zab (gv 1) lNil)) [] zbr))) zaj)
noncomputable def zaq : List D→Res D := fun ds => outR false (zaY (zak zbQ.length ds))
theorem zfG {P : Program} {w : World} {K : PySem.W.Frag} {mg : Str→Option Value} {base : Heap} (T : Txt K mg) (A : DefAt K mg "has_each_once" zbH) (c_are_unlike : Callee P w K mg base "are_unlike" zbO [] 4 false q0 zbr) : Callee P w K mg base "has_each_once" zaJ [] 5 false q0 zaq := by
  refine zbx (k := 4) (fs := zaY) (m' := q0) A zcK rfl (fun _ _ _ _ _ _ us hl => by obtain ⟨u0,u1,rfl⟩ := zcM us hl; kernel_rfl) fun f cdv A outer s H g E hr => ?_
  have hu1 := zbM hr
  have hu64 := hr.units
  exact (zaa (zbn (zdG (s_eq hu64 (SE.toB (zbL (by rfl) T.b_len (zap (vb_ 0) zaH))) (vb_ 1)) (zeu (zaN (dds := []) c_are_unlike (hr.mono (by decide)) (m_bw (vb_ 0) (m_bw (vb_ 1) zba))))))
      zai)
noncomputable abbrev zb6 : Stmt := top 11
noncomputable abbrev zdv : List Str := ["wishes","order"]
noncomputable abbrev zbz : List Str := ["wishes","order"]
theorem zc2 : FnScope zdv zbz (defScope zb6) := ⟨rfl,rfl,rfl,by decide +kernel,rfl,by decide +kernel,by decide +kernel⟩
noncomputable def za4 : FS :=
  (seqF (ifF q106 (zay (f2 (gv 1) (fun _ => Res.ok D.non) isD)) (seqF (retF q106 (fC (zab (fC (zab (gv 0) lNil) lenD) lNil) zdI)) zaj) zaj) (seqF (ifF q106 (fNot (fTru (zaz (zab (gv 1) (zab (fC (zab (gv 0) lNil) lenD) lNil)) [] zaq))) (seqF (fun _ => Out.stuck) zaj) zaj) (seqF (retF q106 (fC (zab (gv 1) lNil) zdm)) zaj)))
noncomputable def zaM : List D→Res D := fun ds => outR true (za4 (zak zdv.length ds))
theorem zji {P : Program} {w : World} {K : PySem.W.Frag} {mg : Str→Option Value} {base : Heap} (T : Txt K mg) (A : DefAtD K mg "order_of" zb6 [Value.none]) (c_has_each_once : Callee P w K mg base "has_each_once" zaJ [] 5 false q0 zaq) : Callee P w K mg base "order_of" zbz [] 6 true q106 zaM := by
  refine zgf (ds := []) (k := 5) (fs := za4) (m' := q106) A zc2 rfl 2 rfl (fun _ _ _ _ _ _ _ us hl => by obtain ⟨u0,u1,rfl⟩ := zcM us hl; exact ⟨_,rfl,rfl⟩) fun f cdv A outer s H g E hr => ?_
  have hu1 := zbM hr
  have hu64 := hr.units
  exact (zaa (s_if (q_is (vb_ 1) (SE.toB zdF)) (zaa (zdr (zc4 rfl (by rfl) T.b_list (by rfl) T.b_range (zap (SE.toB (zbL (by rfl) T.b_len (zap (vb_ 0) zaH))) zaH)))
      zai)
      zai)
      (zaa (s_if (zdl (zdk (SE.toB (zaN (dds := []) c_has_each_once (hr.mono (by decide)) (m_bw (vb_ 1) (m_bw (SE.toB (zbL (by rfl) T.b_len (zap (vb_ 0) zaH))) zba)))))) (zaa zfR
      zai)
      zai)
      (zaa (zdr (zd1 (by rfl) T.b_list (zap (vb_ 1) zaH)))
      zai)))
theorem ziq {P : Program} {w : World} {K : PySem.W.Frag} {mg : Str→Option Value} {base : Heap} (T : Txt K mg) (A : DefAtD K mg "order_of" zb6 [Value.none]) (c_has_each_once : Callee P w K mg base "has_each_once" zaJ [] 5 false q0 zaq) : Callee P w K mg base "order_of" zbz [Value.none] 6 true q106 zaM := by
  refine zgf (ds := [Value.none]) (k := 5) (fs := za4) (m' := q106) A zc2 rfl 1 rfl (fun _ _ _ _ _ _ _ us hl => by obtain ⟨u0,rfl⟩ := zlb us hl; exact ⟨_,rfl,rfl⟩) fun f cdv A outer s H g E hr => ?_
  have hu1 := zbM hr
  have hu64 := hr.units
  exact (zaa (s_if (q_is (vb_ 1) (SE.toB zdF)) (zaa (zdr (zc4 rfl (by rfl) T.b_list (by rfl) T.b_range (zap (SE.toB (zbL (by rfl) T.b_len (zap (vb_ 0) zaH))) zaH)))
      zai)
      zai)
      (zaa (s_if (zdl (zdk (SE.toB (zaN (dds := []) c_has_each_once (hr.mono (by decide)) (m_bw (vb_ 1) (m_bw (SE.toB (zbL (by rfl) T.b_len (zap (vb_ 0) zaH))) zba)))))) (zaa zfR
      zai)
      zai)
      (zaa (zdr (zd1 (by rfl) T.b_list (zap (vb_ 1) zaH)))
      zai)))
noncomputable abbrev zce : Stmt := top 11
noncomputable abbrev zcF : List Str := ["wishes","order"]
noncomputable abbrev zbN : List Str := ["wishes","order"]
theorem zdD : FnScope zcF zbN (defScope zce) := ⟨rfl,rfl,rfl,by decide +kernel,rfl,by decide +kernel,by decide +kernel⟩
noncomputable def zaT : FS :=
  (seqF (ifF q105 (zay (f2 (gv 1) (fun _ => Res.ok D.non) isD)) (seqF (retF q105 (fC (zab (fC (zab (gv 0) lNil) lenD) lNil) zdI)) zaj) zaj) (seqF (ifF q105 (fNot (fTru (zaz (zab (gv 1) (zab (fC (zab (gv 0) lNil) lenD) lNil)) [] zaq))) (seqF (zfV q105 "NoOrder" "at" (zab (zaz (zab (gv 1) (zab (fC (zab (gv 0) lNil) lenD) lNil)) [] zaD) lNil)) zaj) zaj) (seqF (retF q105 (fC (zab (gv 1) lNil) zdm)) zaj)))
noncomputable def zaB : List D→Res D := fun ds => outR true (zaT (zak zcF.length ds))
theorem zhw {P : Program} {w : World} {K : PySem.W.Frag} {mg : Str→Option Value} {base : Heap} (T : Txt K mg) (A : DefAtD K mg "order_of" zce [Value.none]) (c_has_each_once : Callee P w K mg base "has_each_once" zaJ [] 5 false q0 zaq) (c_first_wrong : Callee P w K mg base "first_wrong" zbd [] 3 false q0 zaD) {C_NoOrder : Addr} (xi_NoOrder : XCI P w K mg base "NoOrder" C_NoOrder "at") (xn_NoOrder : XN K "NoOrder" C_NoOrder) : CalleeX P w K mg base "order_of" zbN [] 6 true q105 zaB := by
  refine zhB (k := 5) (fs := zaT) (m' := q105) A zdD rfl (fun _ _ _ _ _ _ _ us hl => by obtain ⟨u0,u1,rfl⟩ := zcM us hl; exact ⟨_,rfl,rfl⟩) fun f cdv A outer s H g E hr => ?_
  have hu1 := zbM hr
  have hu64 := hr.units
  exact (zaa (s_if (q_is (vb_ 1) (SE.toB zdF)) (zaa (zdr (zc4 rfl (by rfl) T.b_list (by rfl) T.b_range (zap (SE.toB (zbL (by rfl) T.b_len (zap (vb_ 0) zaH))) zaH)))
      zai)
      zai)
      (zaa (s_if (zdl (zdk (SE.toB (zaN (dds := []) c_has_each_once (hr.mono (by decide)) (m_bw (vb_ 1) (m_bw (SE.toB (zbL (by rfl) T.b_len (zap (vb_ 0) zaH))) zba)))))) (zaa (zg8 rfl xi_NoOrder xn_NoOrder (hr.mono (by decide)) (by rfl) (zbJ (zaN (dds := []) c_first_wrong (hr.mono (by decide)) (m_bw (vb_ 1) (m_bw (SE.toB (zbL (by rfl) T.b_len (zap (vb_ 0) zaH))) zba))) zdQ))
      zai)
      zai)
      (zaa (zdr (zd1 (by rfl) T.b_list (zap (vb_ 1) zaH)))
      zai)))
noncomputable abbrev zaS : Stmt := top 19
noncomputable abbrev zaX : List Str := ["_law_found","_law_due_here"]
noncomputable abbrev zbl : List Str := ["_law_found","_law_due_here"]
theorem zbI : FnScope zaX zbl (defScope zaS) := ⟨rfl,rfl,rfl,by decide +kernel,rfl,by decide +kernel,by decide +kernel⟩
noncomputable def zaZ : FS :=
  (seqF (retF q0 (vAnd (f1 (gv 0) (isiD "list")) (vAnd (f2 (gv 0) (gv 1) eqD) (vNot (fC (zab (zec 1 [] (fSeq zeO (gv 0)) (ftN 0) (fun _ => Res.ok true) (f1 (gv 0) (isiD "bool"))) lNil) anyD))))) zaj)
noncomputable def zaA : List D→Res D := fun ds => outR false (zaZ (zak zaX.length ds))
theorem zfH {P : Program} {w : World} {K : PySem.W.Frag} {mg : Str→Option Value} {base : Heap} (T : Txt K mg) (A : DefAt K mg "_law_is_order" zaS) : Callee P w K mg base "_law_is_order" zbl [] 1 false q0 zaA := by
  refine zbx (k := 0) (fs := zaZ) (m' := q0) A zbI rfl (fun _ _ _ _ _ _ us hl => by obtain ⟨u0,u1,rfl⟩ := zcM us hl; kernel_rfl) fun f cdv A outer s H g E hr => ?_
  have hu1 := zbM hr
  have hu64 := hr.units
  exact (zaa (zbn (zdG (zew "list" "list" rfl (zhG _) (by rfl) T.b_isinstance (by rfl) T.b_list (vb_ 0)) (zdG (s_eq hu64 (vb_ 0) (vb_ 1)) (zeu (ziU (zmb rfl (by rfl) T.b_any (zap (SO.toB (ziu (X := (cxOf CX0 P w K mg base zaX "_law_is_order" (defScope zaS) f cdv A outer s H E).nox) (N' := ["_law_one"]) (nl := 1) (cap := []) zbI.nd rfl (zed (osc := (defScope zaS)) (ON := zaX) rfl rfl (by decide +kernel)) (zlr (vb_ 0)) (fun _ _ _ _ _ _ => (zdc 0 (show List.Nodup (["_law_one"] : List Str) by decide +kernel) (by rfl) (by first | exact Or.inl rfl | exact Or.inr rfl))) (ziB (by decide)) (fun _ _ _ _ _ _ => zij) (fun _ _ _ _ _ _ => (zew "bool" "bool" rfl (zcV _) (by rfl) T.b_isinstance (by rfl) T.b_bool (vb_ 0))))) zaH)))))))
      zai)
noncomputable abbrev zeU : Stmt := top 12
noncomputable abbrev zg1 : List Str := ["wishes","hand","one","other","row"]
noncomputable abbrev zeQ : List Str := ["wishes","hand","one","other"]
theorem zeW : FnScope zg1 zeQ (defScope zeU) := ⟨rfl,rfl,rfl,by decide +kernel,rfl,by decide +kernel,by decide +kernel⟩
noncomputable def zdS : FS :=
  (seqF (setF q112 4 (f2 (gv 0) (gv 1) ixA)) (seqF (retF q112 (f2 (fM "tuple" (gv 4) (zab (gv 2) lNil) zcx) (fM "tuple" (gv 4) (zab (gv 3) lNil) zcx) ltI)) zaj))
noncomputable def zdR : List D→Res D := fun ds => outR false (zdS (zak zg1.length ds))
theorem zlV {P : Program} {w : World} {K : PySem.W.Frag} {mg : Str→Option Value} {base : Heap} (T : Txt K mg) (A : DefAt K mg "likes" zeU) : Callee P w K mg base "likes" zeQ [] 1 false q109 zdR := by
  refine zbx (k := 0) (fs := zdS) (m' := q112) A zeW rfl (fun _ _ _ _ _ _ us hl => by obtain ⟨u0,u1,u2,u3,rfl⟩ := zla us hl; kernel_rfl) fun f cdv A outer s H g E hr => ?_
  have hu1 := zbM hr
  have hu64 := hr.units
  exact (zaa (zbc 4 zeW.nd (by rfl) (by first | exact Or.inl rfl | exact Or.inr rfl) (zdW hu1 (vb_ 0) (vb_ 1)))
      (zaa (zbn (s_lt (SE.toB (s_bm PySem.F.plainAttrs_tuple PySem.F.slot_tuple_index PySem.F.type_tuple_index zcl zcn (vb_ 4) (zap (vb_ 2) zaH))) (SE.toB (s_bm PySem.F.plainAttrs_tuple PySem.F.slot_tuple_index PySem.F.type_tuple_index zcl zcn (vb_ 4) (zap (vb_ 3) zaH)))))
      zai))
noncomputable abbrev zcg : Stmt := top 20
noncomputable abbrev zcH : List Str := ["_law_wishes_here","_law_cell_here","_law_hand","_law_row_here","_law_one","_law_other","_law_found"]
noncomputable abbrev zbP : List Str := ["_law_wishes_here","_law_cell_here"]
theorem zaL : FnScope zcH zbP (defScope zcg) := ⟨rfl,rfl,rfl,by decide +kernel,rfl,by decide +kernel,by decide +kernel⟩
noncomputable def zbu : FS :=
  (seqF (setF q108 2 (f2 (gv 1) (fC (zab (gv 0) lNil) lenD) modI)) (seqF (setF q108 3 (f2 (gv 0) (gv 2) ixA)) (seqF (setF q108 4 (f2 (gv 3) (f2 (f2 (gv 1) (ci 7) zcN) (fC (zab (gv 3) lNil) lenD) modI) ixA)) (seqF (setF q108 5 (f2 (gv 3) (f2 (f2 (gv 1) (ci 56) zcN) (fC (zab (gv 3) lNil) lenD) modI) ixA)) (seqF (setF q108 6 (zaz (zab (gv 0) (zab (gv 2) (zab (gv 4) (zab (gv 5) lNil)))) [] zdR)) (seqF (retF q108 (vAnd (f1 (gv 6) (isiD "bool")) (f2 (gv 6) (f2 (fM "tuple" (gv 3) (zab (gv 4) lNil) zcx) (fM "tuple" (gv 3) (zab (gv 5) lNil) zcx) ltI) eqD))) zaj))))))
noncomputable def zbs : List D→Res D := fun ds => outR false (zbu (zak zcH.length ds))
theorem zhy {P : Program} {w : World} {K : PySem.W.Frag} {mg : Str→Option Value} {base : Heap} (T : Txt K mg) (A : DefAt K mg "_law_liked" zcg) (c_likes : Callee P w K mg base "likes" zeQ [] 1 false q109 zdR) : Callee P w K mg base "_law_liked" zbP [] 2 false q0 zbs := by
  refine zbx (k := 1) (fs := zbu) (m' := q108) A zaL rfl (fun _ _ _ _ _ _ us hl => by obtain ⟨u0,u1,rfl⟩ := zcM us hl; kernel_rfl) fun f cdv A outer s H g E hr => ?_
  have hu1 := zbM hr
  have hu64 := hr.units
  exact (zaa (zbc 2 zaL.nd (by rfl) (by first | exact Or.inl rfl | exact Or.inr rfl) (zb7 (vb_ 1) (SE.toB (zbL (by rfl) T.b_len (zap (vb_ 0) zaH)))))
      (zaa (zbc 3 zaL.nd (by rfl) (by first | exact Or.inl rfl | exact Or.inr rfl) (zdW hu1 (vb_ 0) (vb_ 2)))
      (zaa (zbc 4 zaL.nd (by rfl) (by first | exact Or.inl rfl | exact Or.inr rfl) (zdW hu1 (vb_ 3) (SE.toB (zb7 (SE.toB (zc3 (vb_ 1) (SE.toB zax))) (SE.toB (zbL (by rfl) T.b_len (zap (vb_ 3) zaH)))))))
      (zaa (zbc 5 zaL.nd (by rfl) (by first | exact Or.inl rfl | exact Or.inr rfl) (zdW hu1 (vb_ 3) (SE.toB (zb7 (SE.toB (zc3 (vb_ 1) (SE.toB zax))) (SE.toB (zbL (by rfl) T.b_len (zap (vb_ 3) zaH)))))))
      (zaa (zbc 6 zaL.nd (by rfl) (by first | exact Or.inl rfl | exact Or.inr rfl) (zaN (dds := []) c_likes (hr.mono (by decide)) (m_bw (vb_ 0) (m_bw (vb_ 2) (m_bw (vb_ 4) (m_bw (vb_ 5) zba))))))
      (zaa (zbn (zdG (zew "bool" "bool" rfl (zcV _) (by rfl) T.b_isinstance (by rfl) T.b_bool (vb_ 6)) (zeu (s_eq hu64 (vb_ 6) (SE.toB (s_lt (SE.toB (s_bm PySem.F.plainAttrs_tuple PySem.F.slot_tuple_index PySem.F.type_tuple_index zcl zcn (vb_ 3) (zap (vb_ 4) zaH))) (SE.toB (s_bm PySem.F.plainAttrs_tuple PySem.F.slot_tuple_index PySem.F.type_tuple_index zcl zcn (vb_ 3) (zap (vb_ 5) zaH)))))))))
      zai))))))
noncomputable abbrev zic : Stmt := top 21
noncomputable abbrev zlT : List Str := ["_law_script","_law_first","_law_n","_law_m","_law_wishes_here","_law_order","_law_due_here","_law_given","_law_found","_law_at","_law_plain","e"]
noncomputable abbrev zlS : List Str := ["_law_script"]
theorem zbk : FnScope zlT zlS (defScope zic) := ⟨rfl,rfl,rfl,by decide +kernel,rfl,by decide +kernel,by decide +kernel⟩
noncomputable def zh7 : FS :=
  (seqF (setF q101 1 (zaz (zab (gv 0) (zab (ci 1) lNil)) [] zaw)) (seqF (setF q101 2 (f2 (ci 1) (f2 (gv 1) (ci 7) modI) addA)) (seqF (setF q101 3 (f2 (gv 2) (f2 (f2 (gv 1) (ci 7) zcN) (f2 (ci 9) (gv 2) subI) modI) addA)) (seqF (setF q101 4 (zaz (zab (gv 0) (zab (ci 4) (zab (gv 2) (zab (gv 3) lNil)))) [] zbf)) (seqF (setF q101 5 (zaz (zab (zaz (zab (gv 0) (zab (ci 2) lNil)) [] zaw) (zab (gv 2) (zab (zaz (zab (gv 0) (zab (ci 3) lNil)) [] zaw) lNil))) [] zbF)) (seqF (setF q101 6 (zaz (zab (gv 5) (zab (gv 2) lNil)) [] zbW)) (seqF (setF q101 7 (fC (zab (gv 5) lNil) zdm)) (seqF (setF q101 8 (fun _ => Res.ok D.non)) (seqF (setF q101 9 (fun _ => Res.ok D.non)) (seqF (setF q101 10 (fun _ => Res.ok (D.bl true))) (seqF (tryK q103 8 11 zbC (seqF (setF q101 8 (ownF (zeh (zab (gv 4) (zab (gv 7) lNil)) [] zaB))) zaj) (seqF (setF q101 9 (f1 (gv 11) (xatD zfl "at"))) (seqF (setF q101 10 (vAnd (f1 (gv 11) (isxD za6)) (vAnd (f1 (gv 11) (isxD za5)) (vNot (f1 (gv 11) (isxD zaR)))))) zaj))) (seqF (ifF q103 (fOr (zay (f2 (gv 7) (gv 5) neD)) (fOr (fNot (fTru (gv 10))) (fOr (zay (f2 (gv 9) (gv 6) neD)) (fNot (fTru (zaz (zab (gv 4) (zab (f2 (zaz (zab (gv 0) (zab (ci 3) lNil)) [] zaw) (ci 7) zcN) lNil)) [] zbs)))))) (seqF (retF q103 (fun _ => Res.ok (D.bl false))) zaj) zaj) (seqF (ifF q103 (fOr (fNot (fTru (zaz (zab (zaz (zab (gv 4) lNil) [D.non] zaM) (zab (fC (zab (gv 2) lNil) zdI) lNil)) [] zaA))) (zay (f2 (zaz (zab (gv 4) (zab (fun _ => Res.ok D.non) lNil)) [] zaM) (fC (zab (gv 2) lNil) zdI) neD))) (seqF (retF q103 (fun _ => Res.ok (D.bl false))) zaj) zaj) (seqF (ifF q103 (zay (f2 (gv 6) (fun _ => Res.ok D.non) isnD)) (seqF (retF q103 (fun _ => Res.ok (D.bl true))) zaj) zaj) (seqF (ifF q103 (fNot (fTru (zaz (zab (gv 8) (zab (gv 5) lNil)) [] zaA))) (seqF (retF q103 (fun _ => Res.ok (D.bl false))) zaj) zaj) (seqF (mutF "list" q103 8 (zab (ci 9) lNil) appD) (seqF (retF q103 (vAnd (f2 (gv 7) (gv 5) eqD) (f2 (zaz (zab (gv 4) (zab (gv 7) lNil)) [] zaM) (gv 5) eqD))) zaj)))))))))))))))))
noncomputable def zjU : List D→Res D := fun ds => outR false (zh7 (zak zlT.length ds))
theorem zmI {P : Program} {w : World} {K : PySem.W.Frag} {mg : Str→Option Value} {base : Heap} (T : Txt K mg) {fa : Addr} {fd : FuncData} (A : Fun K "law" "law" zic fa fd) (c__law_cell : Callee P w K mg base "_law_cell" zbE [] 1 false q0 zaw) (c__law_wishes : Callee P w K mg base "_law_wishes" zbD [] 2 false q109 zbf) (c__law_list : Callee P w K mg base "_law_list" zca [] 2 false [.sh,.sh,.bw] zbF) (c__law_due : Callee P w K mg base "_law_due" zcA [] 1 false q0 zbW) (c_order_of_x : CalleeX P w K mg base "order_of" zbN [] 6 true q105 zaB) (c__law_liked : Callee P w K mg base "_law_liked" zbP [] 2 false q0 zbs) (c_order_of : Callee P w K mg base "order_of" zbz [] 6 true q106 zaM) (c_order_of' : Callee P w K mg base "order_of" zbz [Value.none] 6 true q106 zaM) (c__law_is_order : Callee P w K mg base "_law_is_order" zbl [] 1 false q0 zaA) {C_NoOrder : Addr} {bm_NoOrder : List Value} (xa_NoOrder : XA K C_NoOrder bm_NoOrder) (xb_NoOrder : mg "NoOrder" = some (.ref C_NoOrder)) (hk_NoOrder : zh4 K C_NoOrder zbC) (at_at : zh8 K "at" zfl) {C_NoText : Addr} (xb_NoText : mg "NoText" = some (.ref C_NoText)) {C_NoOwn : Addr} (xb_NoOwn : mg "NoOwn" = some (.ref C_NoOwn)) (it_NoText_NoOwn : IsxT K [C_NoText,C_NoOwn] zaR) (ix_ValueError : IsxOk K (.type "ValueError") za5) {C_TradeError : Addr} (xb_TradeError : mg "TradeError" = some (.ref C_TradeError)) (ix_TradeError : IsxOk K (.ref C_TradeError) za6) : FnOk P w K mg base CX0 7 fa fd zlS (spM K false [Md.sh] zjU) := by
  refine ziD (k := 6) (fs := zh7) (m' := q103) A zbk rfl fun cdv A outer s H g E hr => ?_
  have hu1 := zbM hr
  have hu64 := hr.units
  exact (zaa (zbc 1 zbk.nd (by rfl) (by first | exact Or.inl rfl | exact Or.inr rfl) (zaN (dds := []) c__law_cell (hr.mono (by decide)) (m_bw (vb_ 0) (m_bw (SE.toB zax) zba))))
      (zaa (zbc 2 zbk.nd (by rfl) (by first | exact Or.inl rfl | exact Or.inr rfl) (zci (SE.toB zax) (SE.toB (zb7 (vb_ 1) (SE.toB zax)))))
      (zaa (zbc 3 zbk.nd (by rfl) (by first | exact Or.inl rfl | exact Or.inr rfl) (zci (vb_ 2) (SE.toB (zb7 (SE.toB (zc3 (vb_ 1) (SE.toB zax))) (SE.toB (zkh (SE.toB zax) (vb_ 2)))))))
      (zaa (zbc 4 zbk.nd (by rfl) (by first | exact Or.inl rfl | exact Or.inr rfl) (zaN (dds := []) c__law_wishes (hr.mono (by decide)) (m_bw (vb_ 0) (m_bw (SE.toB zax) (m_bw (vb_ 2) (m_bw (vb_ 3) zba))))))
      (zaa (zbc 5 zbk.nd (by rfl) (by first | exact Or.inl rfl | exact Or.inr rfl) (zaN (dds := []) c__law_list (hr.mono (by decide)) (m_sh (zaN (dds := []) c__law_cell (hr.mono (by decide)) (m_bw (vb_ 0) (m_bw (SE.toB zax) zba))) (m_sh (v_ 2) (m_bw (SE.toB (zaN (dds := []) c__law_cell (hr.mono (by decide)) (m_bw (vb_ 0) (m_bw (SE.toB zax) zba)))) zba)))))
      (zaa (zbc 6 zbk.nd (by rfl) (by first | exact Or.inl rfl | exact Or.inr rfl) (zaN (dds := []) c__law_due (hr.mono (by decide)) (m_bw (vb_ 5) (m_bw (vb_ 2) zba))))
      (zaa (zbc 7 zbk.nd (by rfl) (by first | exact Or.inl rfl | exact Or.inr rfl) (SO.toE (zd1 (by rfl) T.b_list (zap (vb_ 5) zaH))))
      (zaa (zbc 8 zbk.nd (by rfl) (by first | exact Or.inl rfl | exact Or.inr rfl) zdF)
      (zaa (zbc 9 zbk.nd (by rfl) (by first | exact Or.inl rfl | exact Or.inr rfl) zdF)
      (zaa (zbc 10 zbk.nd (by rfl) (by first | exact Or.inl rfl | exact Or.inr rfl) s_bl)
      (zaa (zkg (bmT := bm_NoOrder) (m1 := q103) 11 8 rfl rfl rfl rfl xb_NoOrder xa_NoOrder.ob xa_NoOrder.be hk_NoOrder (by rfl) zbk.nd (by rfl) (by rfl) (by rfl) (fun _ _ => (zaa (zdV 8 zbk.nd (by rfl) (by first | exact Or.inl rfl | exact Or.inr rfl) (zjq c_order_of_x (hr.mono (by decide)) (m_sh (v_ 4) (m_sh (v_ 7) zba))))
      zai)) (fun _ => (zaa (zbc 9 zbk.nd (by rfl) (by first | exact Or.inl rfl | exact Or.inr rfl) (zl3 at_at (vb_ 11)))
      (zaa (zbc 10 zbk.nd (by rfl) (by first | exact Or.inl rfl | exact Or.inr rfl) (zdG (zl7 xb_TradeError ix_TradeError (by rfl) (by rfl) T.b_isinstance (vb_ 11)) (zdG (zkl (x := "ValueError") rfl T.b_ValueError ix_ValueError (by rfl) (by rfl) T.b_isinstance (vb_ 11)) (zeu (ziU (zkk xb_NoText xb_NoOwn it_NoText_NoOwn (by rfl) (by rfl) (by rfl) T.b_isinstance (vb_ 11)))))))
      zai))))
      (zaa (s_if (SW.toQ (q_or (q_ne hu64 (vb_ 7) (vb_ 5)) (q_or (zdl (zdk (vb_ 10))) (q_or (q_ne hu64 (vb_ 9) (vb_ 6)) (zhg (zdl (zdk (SE.toB (zaN (dds := []) c__law_liked (hr.mono (by decide)) (m_bw (vb_ 4) (m_bw (SE.toB (zc3 (SE.toB (zaN (dds := []) c__law_cell (hr.mono (by decide)) (m_bw (vb_ 0) (m_bw (SE.toB zax) zba)))) (SE.toB zax))) zba))))))))))) (zaa (zbn s_bl)
      zai)
      zai)
      (zaa (s_if (SW.toQ (q_or (zdl (zdk (SE.toB (zaN (dds := []) c__law_is_order (hr.mono (by decide)) (m_bw (SE.toB (zeL (dvs := [.non]) (dds := [D.non]) c_order_of' (hr.mono (by decide)) (m_bw (vb_ 4) zba) (hd := .cons rfl .nil) (hsc := .cons .non .nil))) (m_bw (SO.toB (zc4 rfl (by rfl) T.b_list (by rfl) T.b_range (zap (vb_ 2) zaH))) zba)))))) (zhg (q_ne hu64 (SE.toB (zeL (dds := []) c_order_of (hr.mono (by decide)) (m_bw (vb_ 4) (m_sh zdF zba)))) (SO.toB (zc4 rfl (by rfl) T.b_list (by rfl) T.b_range (zap (vb_ 2) zaH))))))) (zaa (zbn s_bl)
      zai)
      zai)
      (zaa (s_if (zmc (vb_ 6) (SE.toB zdF)) (zaa (zbn s_bl)
      zai)
      zai)
      (zaa (s_if (zdl (zdk (SE.toB (zaN (dds := []) c__law_is_order (hr.mono (by decide)) (m_bw (vb_ 8) (m_bw (vb_ 5) zba)))))) (zaa (zbn s_bl)
      zai)
      zai)
      (zaa (zg9 8 rfl PySem.F.plainAttrs_list PySem.F.slot_list_append PySem.F.type_list_append zc5 ziG (by rfl) (by first | exact Or.inl rfl | exact Or.inr (Or.inl rfl) | exact Or.inr (Or.inr rfl)) (zbJ zax zdQ))
      (zaa (zbn (zdG (s_eq hu64 (vb_ 7) (vb_ 5)) (zeu (s_eq hu64 (SE.toB (zeL (dds := []) c_order_of (hr.mono (by decide)) (m_bw (vb_ 4) (m_sh (v_ 7) zba)))) (vb_ 5)))))
      zai)))))))))))))))))
end Law
end
section
namespace Law
open PySem L2 DL
noncomputable abbrev nD (k : Nat) : D := .int (k : Int)
noncomputable abbrev LN (l : List Nat) : D := .lst (l.map nD)
noncomputable abbrev TN (l : List Nat) : D := .tup (l.map nD)
noncomputable def oD : Option Nat→D
  | none => .non
  | some k => nD k
noncomputable abbrev WD (rows : List (List Nat)) : D := .tup (rows.map TN)
theorem szOk {ds : List D} (h : ds.length≤1000) : sz ds = some ds := zl2 (Nat.le_trans h (by rw [sizeLine_eq]; decide))
@[simp] theorem addA_int (a b : Int) : addA (.int a) (.int b) = some (.int (a + b)) := rfl
theorem zjr {a b : Int} (h : CMul a b) : mulI (.int a) (.int b) = some (.int (a * b)) := by rw [mulI,intsC_int,if_pos h]
theorem zge {a b : Int} (h : 0 < b) : modI (.int a) (.int b) = some (.int (a % b)) := by rw [modI,intsC_int,if_pos h]
theorem zhO {a b : Int} (h : CDiv a b) : zcN (.int a) (.int b) = some (.int (a / b)) := by rw [zcN,intsC_int,if_pos h]
theorem zah {s1 s2 : FS} {r r' : Rho} (h : s1 r = .nx r') : seqF s1 s2 r = s2 r' := by unfold seqF; rw [h]
theorem zar {s1 s2 : FS} {r : Rho} {d : D} (h : s1 r = .rt d) : seqF s1 s2 r = .rt d := by unfold seqF; rw [h]
theorem zaG {m : List Md} {i : Nat} {f : FE} {r : Rho} {d : D} (h : f r = .ok d) : setF m i f r = .nx (r.set i (some d)) := by unfold setF; rw [h]; rfl
theorem zaE {m : List Md} {f : FE} {r : Rho} {d : D} (h : f r = .ok d) : retF m f r = .rt d := by unfold retF; rw [h]; rfl
theorem zlq {m : List Md} {p : FQ} {s1 s2 : FS} {r : Rho} {b : Bool} (h : p r = .ok b) : ifF m p s1 s2 r = if b = true then s1 r else s2 r := by unfold ifF; rw [h]; rfl
theorem if_t {m : List Md} {p : FQ} {s1 s2 : FS} {r : Rho} (h : p r = .ok true) : ifF m p s1 s2 r = s1 r := by rw [zlq h,if_pos rfl]
theorem if_f {m : List Md} {p : FQ} {s1 s2 : FS} {r : Rho} (h : p r = .ok false) : ifF m p s1 s2 r = s2 r := by rw [zlq h,if_neg Bool.false_ne_true]
theorem zix {fl : Rho→Res (List D)} {r : Rho} {ds : List D} (h : fl r = .ok ds) (hl : ds.length≤1000) : mkL fl r = .ok (.lst ds) := by unfold mkL; rw [h,bind_ok,szOk hl]; rfl
theorem zgX {ds : List D} {d : D} (h : ds.length≤1000) : appD (.lst ds) [d] = some (.lst (ds++[d])) := by
  show (if ds.length < sizeLine then some (D.lst (ds++[d])) else none) = _
  rw [if_pos (by rw [sizeLine_eq]; omega)]
theorem zan {fl : Rho→Res (List D)} {dds zs : List D} {F : List D→Res D} {r : Rho} {d : D} (h1 : fl r = .ok zs) (h2 : F (zs++dds) = .ok d) : zaz fl dds F r = .ok d := by unfold zaz; rw [h1,bind_ok,h2]; rfl
theorem zdo {f : FE} {k : D→Option D} {r : Rho} {a d : D} (h1 : f r = .ok a) (h2 : k a = some d) : f1 f k r = .ok d := by unfold f1; rw [h1,bind_ok,h2]; rfl
theorem zam {f f' : FE} {k : D→D→Option D} {r : Rho} {a b d : D} (h1 : f r = .ok a) (h2 : f' r = .ok b) (h3 : k a b = some d) : f2 f f' k r = .ok d := by unfold f2; rw [h1,bind_ok,h2,bind_ok,h3]; rfl
theorem zbv {fl : Rho→Res (List D)} {k : List D→Option D} {r : Rho} {ds : List D} {d : D} (h1 : fl r = .ok ds) (h2 : k ds = some d) : fC fl k r = .ok d := by unfold fC; rw [h1,bind_ok,h2]; rfl
theorem zaf {f : FE} {fl : Rho→Res (List D)} {r : Rho} {d : D} {ds : List D} (h1 : f r = .ok d) (h2 : fl r = .ok ds) : zab f fl r = .ok (d::ds) := by unfold zab; rw [h1,bind_ok,h2]; rfl
theorem zal {r : Rho} : lNil r = .ok [] := rfl
theorem zau {f : FE} {r : Rho} {b : Bool} (h : f r = .ok (.bl b)) : zay f r = .ok b := by unfold zay; rw [h]; rfl
theorem zaI {f : FE} {r : Rho} {d : D} {b : Bool} (h : f r = .ok d) (h2 : truD d = some b) : fTru f r = .ok b := by unfold fTru; rw [h,bind_ok,h2]; rfl
theorem za9 {p : FQ} {r : Rho} {b : Bool} (h : p r = .ok b) : fNot p r = .ok (! b) := by unfold fNot; rw [h]; rfl
theorem zjQ {p q : FQ} {r : Rho} (h : p r = .ok true) : fAnd p q r = q r := by unfold fAnd; rw [h]; rfl
theorem zlQ {p q : FQ} {r : Rho} (h : p r = .ok false) : fAnd p q r = .ok false := by unfold fAnd; rw [h]; rfl
theorem or_t {p q : FQ} {r : Rho} (h : p r = .ok true) : fOr p q r = .ok true := by unfold fOr; rw [h]; rfl
theorem or_f {p q : FQ} {r : Rho} (h : p r = .ok false) : fOr p q r = q r := by unfold fOr; rw [h]; rfl
theorem zdq {f f' : FE} {r : Rho} (h : f r = .ok (.bl true)) : vAnd f f' r = f' r := by unfold vAnd; rw [h]; rfl
theorem zh9 {f f' : FE} {r : Rho} (h : f r = .ok (.bl false)) : vAnd f f' r = .ok (.bl false) := by unfold vAnd; rw [h]; rfl
theorem ziK {f : FE} {r : Rho} {b : Bool} (h : f r = .ok (.bl b)) : vNot f r = .ok (.bl (! b)) := by unfold vNot; rw [h]; rfl
theorem zc7 {m : List Md} {fi : FI} {ft : FT} {b : FS} {r : Rho} {ds : List D} (h : fi r = .ok ds) : zd4 m fi ft b r = forF ft b ds r := by unfold zd4; rw [h]; rfl
theorem zeH {ft : FT} {b : FS} {r : Rho} : forF ft b [] r = .nx r := by unfold forF; rfl
theorem zgy {ft : FT} {b : FS} {r r1 r' : Rho} {d : D} {ds : List D} (h1 : ft d r = some r1) (h2 : b r1 = .nx r') : forF ft b (d::ds) r = forF ft b ds r' := by
  conv => lhs; unfold forF
  simp only [h1,h2]
theorem ziC {ft : FT} {b : FS} {r r1 : Rho} {d v : D} {ds : List D} (h1 : ft d r = some r1) (h2 : b r1 = .rt v) : forF ft b (d::ds) r = .rt v := by
  conv => lhs; unfold forF
  simp only [h1,h2]
theorem zd2 {T : String} {m : List Md} {i : Nat} {fl : Rho→Res (List D)} {mk : D→List D→Option D} {r : Rho} {d d' : D} {ds : List D} (h1 : r[i]? = some (some d)) (h2 : tyB T d = true) (h3 : fl r = .ok ds) (h4 : mk d ds = some d') : mutF T m i fl mk r = .nx (r.set i (some d')) := by
  unfold mutF; rw [h1]; simp only [h2,if_true,h3,onE_ok,h4]
theorem zil {m : List Md} {i : Nat} {fk fv : FE} {r : Rho} {d k v d' : D} (h1 : r[i]? = some (some d)) (h2 : fv r = .ok v) (h3 : fk r = .ok k) (h4 : stoD d k v = some d') : DL.putF m i fk fv r = .nx (r.set i (some d')) := by
  unfold DL.putF; rw [h2,onE_ok]; simp only [h1,h3,onE_ok,h4]
theorem zjJ {fa fb fc : FE} {k k' : D→D→Option D} {r : Rho} {x y w d : D} (h1 : fa r = .ok x) (h2 : fb r = .ok y) (h3 : k x y = some (.bl true)) (h4 : fc r = .ok w) (h5 : k' y w = some d) : zb5 fa fb fc k k' r = .ok d := by
  unfold zb5; rw [h1,bind_ok,h2,bind_ok,h3,opt_some,bind_ok]
  show (fc r).bind _ = _
  rw [h4,bind_ok,h5]; rfl
theorem zgQ {ft : FT} {q : FQ} {fe : FE} {r0 : Rho} : zcp ft q fe r0 [] = .ok [] := by unfold zcp; rfl
theorem zee {ft : FT} {q : FQ} {fe : FE} {r0 : Rho} {α : Type} (e : α→D) (keep : α→Bool) (g : α→D) : ∀ (l : List α),(∀ a∈l,∃ r1,ft (e a) r0 = some r1∧q r1 = .ok (keep a)∧(keep a = true→fe r1 = .ok (g a)))→zcp ft q fe r0 (l.map e) = .ok ((l.filter keep).map g)
  | [],_ => zgQ
  | a::l,h => by
    obtain ⟨r1,h1,h2,h3⟩ := h a List.mem_cons_self
    have ih := zee (ft := ft) (q := q) (fe := fe) (r0 := r0) e keep g l fun b hb => h b (List.mem_cons_of_mem _ hb)
    rw [List.map_cons]
    conv => lhs; unfold zcp
    rw [h1,opt_some,bind_ok,h2,bind_ok]
    cases k : keep a with
    | true => rw [if_pos rfl,h3 k,bind_ok,ih,bind_ok,List.filter_cons,if_pos k]; rfl
    | false => rw [if_neg Bool.false_ne_true,ih,List.filter_cons,if_neg (by rw [k]; exact Bool.false_ne_true)]
theorem zgN {nl : Nat} {cap : List Nat} {fi : FI} {ft : FT} {q : FQ} {fe : FE} {r : Rho} {α : Type} {l : List α} (e : α→D) (keep : α→Bool) (g : α→D) (h1 : fi r = .ok (l.map e)) (hl : l.length≤1000)
    (h : ∀ a∈l,∃ r1,ft (e a) (capR nl cap r) = some r1∧q r1 = .ok (keep a)∧(keep a = true→fe r1 = .ok (g a))) : zec nl cap fi ft q fe r = .ok (.lst ((l.filter keep).map g)) := by
  unfold zec
  rw [h1,bind_ok,szOk (by simpa using hl),opt_some,bind_ok,zee e keep g l h,noXL_ok,bind_ok]
theorem zgg (a b : Nat) : ltI (nD a) (nD b) = some (.bl (decide (a < b))) := by
  show some (D.bl (decide ((a : Int) < (b : Int)))) = _
  simp only [Int.ofNat_lt]
theorem zlt (a b : Nat) : gtI (nD a) (nD b) = some (.bl (decide (b < a))) := by
  show some (D.bl (decide ((b : Int) < (a : Int)))) = _
  simp only [Int.ofNat_lt]
theorem zgF (a b : Nat) : eqD (nD a) (nD b) = some (.bl (decide (a = b))) := by
  unfold eqD
  rw [eqB_int]
  show some (D.bl ((a : Int) == (b : Int))) = _
  have : ((a : Int) == (b : Int)) = decide (a = b) := by rw [Bool.eq_iff_iff,beq_iff_eq,decide_eq_true_iff]; exact Int.ofNat_inj
  rw [this]
theorem zmq (a b : Nat) : neD (nD a) (nD b) = some (.bl (! decide (a = b))) := by
  unfold neD
  rw [eqB_int]
  show some (D.bl (!((a : Int) == (b : Int)))) = _
  have : ((a : Int) == (b : Int)) = decide (a = b) := by rw [Bool.eq_iff_iff,beq_iff_eq,decide_eq_true_iff]; exact Int.ofNat_inj
  rw [this]
theorem zbq {B : FS} {n : Nat} {ds : List D} {d : D} (h : B (zak n ds) = .rt d) : outR false (B (zak n ds)) = .ok d := by rw [h]; rfl
noncomputable abbrev kI (k : Nat) : Key := Sum.inl (k : Int)
theorem ziA (kvs : List (Nat × D)) (k : Nat) : hasK (kvs.map fun p => (kI p.1,p.2)) (kI k) = decide (k∈kvs.map (·.1)) := by
  unfold hasK
  rw [List.any_map,Bool.eq_iff_iff,List.any_eq_true,decide_eq_true_iff,List.mem_map]
  constructor
  · rintro ⟨p,h1,h2⟩
    refine ⟨p,h1,?_⟩
    simp only [Function.comp_apply,decide_eq_true_eq] at h2
    have : ((p.1 : Nat) : Int) = (k : Int) := Sum.inl.inj h2
    exact Int.ofNat.inj this
  · rintro ⟨p,h1,rfl⟩
    exact ⟨p,h1,by simp⟩
theorem zhj (kvs : List (Nat × D)) (k : Nat) (d : D) (h : k∉kvs.map (·.1)) : putD (kvs.map fun p => (kI p.1,p.2)) (kI k) d = (kvs++[(k,d)]).map fun p => (kI p.1,p.2) := by
  unfold putD
  have e : ((kvs.map fun p => (kI p.1,p.2)).any fun kv => decide (kv.1 = kI k)) = decide (k∈kvs.map (·.1)) := ziA kvs k
  rw [e,decide_eq_false h,if_neg Bool.false_ne_true,List.map_append]
  rfl
@[simp] theorem e_seq (s1 s2 : FS) (r : Rho) : seqF s1 s2 r = (match s1 r with | .nx r' => s2 r' | o => o) := rfl
@[simp] theorem e_skip (r : Rho) : zaj r = .nx r := rfl
@[simp] theorem e_set (m : List Md) (i : Nat) (f : FE) (r : Rho) : setF m i f r = onE m r (f r) fun d => .nx (r.set i (some d)) := rfl
@[simp] theorem e_ret (m : List Md) (f : FE) (r : Rho) : retF m f r = onE m r (f r) fun d => .rt d := rfl
@[simp] theorem e_if (m : List Md) (p : FQ) (s1 s2 : FS) (r : Rho) : ifF m p s1 s2 r = onE m r (p r) fun c => if c = true then s1 r else s2 r := rfl
@[simp] theorem e_getV (r : Rho) (i : Nat) : getV r i = (match r[i]? with | some (some d) => .ok d | _ => .stuck) := rfl
@[simp] theorem e_f1 (f : FE) (k : D→Option D) (r : Rho) : f1 f k r = (f r).bind fun d => opt (k d) := rfl
@[simp] theorem e_f2 (f f' : FE) (k : D→D→Option D) (r : Rho) : f2 f f' k r = (f r).bind fun a => (f' r).bind fun b => opt (k a b) := rfl
@[simp] theorem e_fC (fl : Rho→Res (List D)) (k : List D→Option D) (r : Rho) : fC fl k r = (fl r).bind fun ds => opt (k ds) := rfl
@[simp] theorem e_lN (r : Rho) : lNil r = .ok [] := rfl
@[simp] theorem e_lC (f : FE) (fl : Rho→Res (List D)) (r : Rho) : zab f fl r = (f r).bind fun d => (fl r).bind fun ds => .ok (d::ds) := rfl
@[simp] theorem e_test (f : FE) (r : Rho) : zay f r = (f r).bind fun d => opt (asB d) := rfl
@[simp] theorem e_tru (f : FE) (r : Rho) : fTru f r = (f r).bind fun d => opt (truD d) := rfl
@[simp] theorem e_not (p : FQ) (r : Rho) : fNot p r = (p r).bind fun c => .ok (! c) := rfl
@[simp] theorem e_and (p q : FQ) (r : Rho) : fAnd p q r = (p r).bind fun c => if c = true then q r else .ok false := rfl
@[simp] theorem e_or (p q : FQ) (r : Rho) : fOr p q r = (p r).bind fun c => if c = true then .ok true else q r := rfl
@[simp] theorem e_vand (f f' : FE) (r : Rho) : vAnd f f' r = (f r).bind fun d => (opt (asB d)).bind fun c => if c = true then f' r else .ok (.bl false) := rfl
@[simp] theorem e_vor (f f' : FE) (r : Rho) : vOr f f' r = (f r).bind fun d => (opt (asB d)).bind fun c => if c = true then .ok (.bl true) else f' r := rfl
@[simp] theorem e_vnot (f : FE) (r : Rho) : vNot f r = (f r).bind fun d => (opt (asB d)).bind fun c => .ok (.bl (! c)) := rfl
@[simp] theorem e_fIf (p : FQ) (f f' : FE) (r : Rho) : fIf p f f' r = (p r).bind fun c => if c = true then f r else f' r := rfl
@[simp] theorem e_call (fl : Rho→Res (List D)) (dds : List D) (F : List D→Res D) (r : Rho) : zaz fl dds F r = (fl r).bind fun ds => noX (F (ds++dds)) := rfl
@[simp] theorem e_asB (b : Bool) : asB (.bl b) = some b := rfl
@[simp] theorem e_truB (b : Bool) : truD (.bl b) = some b := rfl
@[simp] theorem e_truL (ds : List D) : truD (.lst ds) = some (! ds.isEmpty) := rfl
@[simp] theorem e_loop (m : List Md) (fi : FI) (ft : FT) (b : FS) (r : Rho) : zd4 m fi ft b r = onE m r (fi r) fun ds => forF ft b ds r := rfl
@[simp] theorem e_fSeq (k : D→Option (List D)) (f : FE) (r : Rho) : fSeq k f r = (f r).bind fun d => opt (k d) := rfl
@[simp] theorem e_asL (ds : List D) : zeO (.lst ds) = some ds := rfl
@[simp] theorem e_asT (ds : List D) : zeO (.tup ds) = some ds := rfl
@[simp] theorem e_mkT (fl : Rho→Res (List D)) (r : Rho) : mkT fl r = (fl r).bind fun ds => (opt (sz ds)).bind fun ds => .ok (.tup ds) := rfl
@[simp] theorem e_mkL (fl : Rho→Res (List D)) (r : Rho) : mkL fl r = (fl r).bind fun ds => (opt (sz ds)).bind fun ds => .ok (.lst ds) := rfl
@[simp] theorem e_sz0 : sz [] = some [] := szOk (by simp)
@[simp] theorem e_sz1 (a : D) : sz [a] = some [a] := szOk (by simp)
@[simp] theorem e_sz2 (a b : D) : sz [a,b] = some [a,b] := szOk (by simp)
@[simp] theorem e_sz3 (a b c : D) : sz [a,b,c] = some [a,b,c] := szOk (by simp)
@[simp] theorem e_lenL (ds : List D) : lenD [.lst ds] = some (.int ds.length) := rfl
@[simp] theorem e_lenT (ds : List D) : lenD [.tup ds] = some (.int ds.length) := rfl
@[simp] theorem e_lenK (ds : List (Key × D)) : lenD [.dic ds] = some (.int ds.length) := rfl
@[simp] theorem e_tupL (ds : List D) : tupD [.lst ds] = some (.tup ds) := rfl
@[simp] theorem e_listL (ds : List D) : zdm [.lst ds] = some (.lst ds) := rfl
@[simp] theorem e_listT (ds : List D) : zdm [.tup ds] = some (.lst ds) := rfl
@[simp] theorem e_isNN : isD .non .non = some (.bl true) := rfl
@[simp] theorem e_isLN (ds : List D) : isD (.lst ds) .non = some (.bl false) := rfl
@[simp] theorem e_isn1 : isnD .non .non = some (.bl false) := rfl
@[simp] theorem e_isn2 (i : Int) : isnD (.int i) .non = some (.bl true) := rfl
@[simp] theorem e_isn3 (ds : List D) : isnD (.tup ds) .non = some (.bl true) := rfl
@[simp] theorem e_valsD (kvs : List (Key × D)) : zlX (.dic kvs) = some (.lst (kvs.map (·.2))) := rfl
theorem zgq {ds : List D} {i : Nat} {d : D} (h : ds[i]? = some d) : ixA (.tup ds) (nD i) = some d := by
  have hl : i < ds.length := (List.getElem?_eq_some_iff.mp h).1
  show atI ds (i : Int) = some d
  unfold atI ixN
  rw [if_pos (Int.natCast_nonneg i),if_pos (by omega)]
  simpa using h
theorem zhI {ds : List D} {i : Nat} {d : D} (h : ds[i]? = some d) : ixA (.lst ds) (nD i) = some d := by
  have hl : i < ds.length := (List.getElem?_eq_some_iff.mp h).1
  show atI ds (i : Int) = some d
  unfold atI ixN
  rw [if_pos (Int.natCast_nonneg i),if_pos (by omega)]
  simpa using h
@[simp] theorem ixA_L0 (d : D) (ds : List D) : ixA (.lst (d::ds)) (.int 0) = some d := zhI (i := 0) rfl
@[simp] theorem ixA_T0 (d : D) (ds : List D) : ixA (.tup (d::ds)) (.int 0) = some d := zgq (i := 0) rfl
theorem anyE (l : List Nat) (k : Nat) : (l.map nD).any (fun y => eqs y (nD k)) = decide (k∈l) := by
  rw [List.any_map,Bool.eq_iff_iff,List.any_eq_true,decide_eq_true_iff]
  constructor
  · rintro ⟨x,h1,h2⟩
    have : (((x : Nat) : Int) == (k : Int)) = true := h2
    have := Int.ofNat_inj.mp (eq_of_beq this)
    subst this; exact h1
  · intro h
    exact ⟨k,h,by show (((k : Nat) : Int) == (k : Int)) = true; simp⟩
theorem zlD (l : List Nat) : (l.map nD).all zaV = true := by
  rw [List.all_eq_true]
  intro x hx
  obtain ⟨k,_,rfl⟩ := List.mem_map.mp hx
  rfl
theorem zlo (l : List Nat) (k : Nat) : inD (nD k) (LN l) = some (.bl (decide (k∈l))) := by
  show (if zaV (nD k) = true∧(l.map nD).all zaV = true then some ((l.map nD).any fun y => eqs y (nD k)) else none).map D.bl = _
  rw [if_pos ⟨rfl,zlD l⟩,anyE]; rfl
end Law
end
section
namespace Law
open PySem L2 DL
end Law
end
section
namespace Law
open PySem L2 DL
theorem zbT {α : Type} (f : α→D) (l : List α) : lenD [.tup (l.map f)] = some (nD l.length) := by
  show some (D.int ((l.map f).length : Int)) = _
  rw [List.length_map]
theorem zdK {α : Type} (f : α→D) (l : List α) : lenD [.lst (l.map f)] = some (nD l.length) := by
  show some (D.int ((l.map f).length : Int)) = _
  rw [List.length_map]
theorem zig (n : Nat) : rngD 0 n = (List.range n).map nD := by
  unfold rngD
  refine List.map_congr_left fun i _ => ?_
  show D.int (0 + (i : Int)) = D.int (i : Int)
  rw [Int.zero_add]
theorem zhC (j : Int) : zdI [.int j] = if -(2 ^ 62)≤j∧j < 2 ^ 62∧j.toNat≤sizeLine then some (.lst (rngD 0 j.toNat)) else none := rfl
theorem zgh {n : Nat} (h : n≤1000) : zdI [nD n] = some (LN (List.range n)) := by
  have hs : (n : Int).toNat≤sizeLine := by rw [Int.toNat_natCast,sizeLine_eq]; omega
  rw [zhC,if_pos ⟨by omega,by omega,hs⟩,Int.toNat_natCast,zig]
theorem ziY (j : Int) : rng1 [.int j] = if -(2 ^ 62)≤j∧j < 2 ^ 62 then some (rngD 0 j.toNat) else none := rfl
theorem zih {n : Nat} (h : n≤1000) : rng1 [nD n] = some ((List.range n).map nD) := by
  rw [ziY,if_pos ⟨by omega,by omega⟩,Int.toNat_natCast,zig]
theorem zgB {fl : Rho→Res (List D)} {k : List D→Option (List D)} {r : Rho} {ds es : List D} (h1 : fl r = .ok ds) (h2 : k ds = some es) : fRng k fl r = .ok es := by unfold fRng; rw [h1,bind_ok,h2]; rfl
noncomputable def own (owns : List (Option Nat)) (h : Nat) : Option Nat := (owns[h]?).join
end Law
end
section
namespace Law
open PySem L2 DL
noncomputable def putN (kvs : List (Nat × Nat)) (k v : Nat) : List (Nat × Nat) := if k∈kvs.map (·.1) then kvs.map fun p => if p.1 = k then (p.1,v) else p else kvs++[(k,v)]
theorem zfZ (kvs : List (Nat × Nat)) (k v j : Nat) : j∈(putN kvs k v).map (·.1)↔j∈kvs.map (·.1)∨j = k := by
  unfold putN
  by_cases h : k∈kvs.map (·.1)
  · rw [if_pos h,List.map_map]
    have : ((fun p : Nat × Nat => p.1) ∘ fun p => if p.1 = k then (p.1,v) else p) = fun p => p.1 := by
      funext p
      simp only [Function.comp_apply]
      split <;> rfl
    rw [this]
    constructor
    · exact .inl
    · rintro (z | rfl)
      · exact z
      · exact h
  · rw [if_neg h]; simp
theorem zhi {kvs : List (Nat × Nat)} {k v : Nat} {f : Nat→Nat} (h : ∀ p∈kvs,p.2 = f p.1) (hv : v = f k) : ∀ p∈putN kvs k v,p.2 = f p.1 := by
  intro p hp
  unfold putN at hp
  split at hp
  · obtain ⟨q,h1,rfl⟩ := List.mem_map.mp hp
    split
    · rename_i e; simp only; rw [e]; exact hv
    · exact h q h1
  · rcases List.mem_append.mp hp with z | z
    · exact h p z
    · rw [List.mem_singleton.mp z]; exact hv
structure GI (t : Nat→Nat) (kvs : List (Nat × Nat)) (L : List Nat) : Prop where
  nd : (kvs.map (·.1)).Nodup
  val : ∀ p∈kvs,p.2 = t p.1
  key : ∀ h,h∈kvs.map (·.1)↔h∈L
theorem zi0 {kvs : List (Nat × Nat)} {k v : Nat} (h : (kvs.map (·.1)).Nodup) : ((putN kvs k v).map (·.1)).Nodup := by
  unfold putN
  split
  · rw [List.map_map]
    have : ((fun p : Nat × Nat => p.1) ∘ fun p => if p.1 = k then (p.1,v) else p) = fun p => p.1 := by
      funext p
      simp only [Function.comp_apply]
      split <;> rfl
    rw [this]; exact h
  · rename_i hk
    rw [List.map_append]
    refine List.nodup_append.mpr ⟨h,by simp,fun a ha b hb => ?_⟩
    simp at hb
    rintro rfl
    exact hk (hb ▸ ha)
theorem GI.put {t : Nat→Nat} {kvs : List (Nat × Nat)} {L : List Nat} (g : GI t kvs L) (k : Nat) : GI t (putN kvs k (t k)) (L++[k]) :=
  ⟨zi0 g.nd,zhi g.val rfl,fun h => by rw [zfZ,g.key]; simp⟩
theorem GI.len {t : Nat→Nat} {kvs : List (Nat × Nat)} {L line : List Nat} (g : GI t kvs L) (hs : ∀ h∈L,h∈line) : kvs.length≤line.length := by
  have := Rg.zdJ (m := line) g.nd fun h hh => hs h ((g.key h).mp hh)
  simpa using this
theorem GI.congr {t t' : Nat→Nat} {kvs : List (Nat × Nat)} {L : List Nat} (g : GI t kvs L) (h : ∀ x∈L,t' x = t x) : GI t' kvs L :=
  ⟨g.nd,fun p hp => by rw [g.val p hp,h p.1 ((g.key _).mp (List.mem_map.mpr ⟨p,hp,rfl⟩))],g.key⟩
theorem GI.mem {t : Nat→Nat} {kvs : List (Nat × Nat)} {L M : List Nat} (g : GI t kvs L) (h : ∀ x,x∈L↔x∈M) : GI t kvs M := ⟨g.nd,g.val,fun x => (g.key x).trans (h x)⟩
theorem GI.nil (t : Nat→Nat) : GI t [] [] := ⟨by simp,fun _ hp => (nomatch hp),fun h => by simp⟩
theorem zeb {α : Type} (l : List α) : l.filter (fun _ => true) = l := List.filter_eq_self.mpr fun _ _ => rfl
end Law
end
section
namespace Law
open PySem L2 DL
theorem zcm {a b : Nat} (h : 0 < b) : modI (nD a) (nD b) = some (nD (a % b)) := by
  rw [zge (by omega : (0 : Int) < (b : Int))]
  show some (D.int _) = some (D.int _)
  rw [Int.natCast_emod]
theorem zb9 {a b : Nat} (h : 0 < b) (h2 : b < 1000) : zcN (nD a) (nD b) = some (nD (a / b)) := by
  rw [zhO (⟨by omega,by omega⟩ : CDiv (a : Int) (b : Int))]
  show some (D.int _) = some (D.int _)
  rw [Int.natCast_ediv]
theorem zen (a b : Nat) : addA (nD a) (nD b) = some (nD (a + b)) := by
  rw [addA_int]
  show some (D.int _) = some (D.int _)
  rw [Int.natCast_add]
section
variable {f f' : FE} {r : Rho}
theorem zfE {b : Int} (h : ∃ i : Int,f r = .ok (.int i)) (h' : f' r = .ok (.int b)) (hb : 0 < b) : ∃ c : Nat,f2 f f' modI r = .ok (nD c) := by
  obtain ⟨i,hi⟩ := h
  refine ⟨(i % b).toNat,zam hi h' ?_⟩
  rw [zge hb]
  show some (D.int _) = some (D.int _)
  rw [Int.toNat_of_nonneg (Int.emod_nonneg _ (by omega))]
theorem exN (h : ∃ c : Nat,f r = .ok (nD c)) : ∃ i : Int,f r = .ok (.int i) := let ⟨c,e⟩ := h; ⟨c,e⟩
theorem zde {b : Int} (h : ∃ i : Int,f r = .ok (.int i)) (h' : f' r = .ok (.int b)) (hb : -(2 ^ 64) < b∧b < 2 ^ 64) : ∃ i : Int,f2 f f' mulI r = .ok (.int i) := by
  obtain ⟨i,hi⟩ := h
  exact ⟨i * b,zam hi h' (zjr (.inr hb))⟩
theorem zhQ (h : ∃ i : Int,f r = .ok (.int i)) (h' : ∃ i : Int,f' r = .ok (.int i)) : ∃ i : Int,f2 f f' addA r = .ok (.int i) := by
  obtain ⟨i,hi⟩ := h
  obtain ⟨j,hj⟩ := h'
  exact ⟨i + j,zam hi hj rfl⟩
end
theorem zlE {m : List Md} {i : Nat} {f : FE} {s2 : FS} {r : Rho} (h : ∃ c : Nat,f r = .ok (nD c)) (k : ∀ c : Nat,∃ d : Nat,s2 (r.set i (some (nD c))) = .rt (nD d)) : ∃ d : Nat,seqF (setF m i f) s2 r = .rt (nD d) := by
  obtain ⟨c,hc⟩ := h
  obtain ⟨d,hd⟩ := k c
  exact ⟨d,(zah (zaG hc)).trans hd⟩
noncomputable abbrev IN (ns : List Int) : D := .lst (ns.map .int)
theorem zcQ (ns : List Int) (k : Nat) (hk : k≤1000) : ∃ c : Nat,zaw [IN ns,nD k] = .ok (nD c) := by
  suffices h : ∃ c : Nat,zbm (zak 4 [IN ns,nD k]) = .rt (nD c) by
    obtain ⟨c,hc⟩ := h
    exact ⟨c,zbq (B := zbm) (n := 4) hc⟩
  unfold zbm
  have st : seqF (setF q104 2 (ci 0)) = seqF (setF q104 2 (fun _ => Res.ok (nD 0))) := rfl
  rw [st]
  refine zlE ⟨0,rfl⟩ fun c1 => ?_
  show ∃ d : Nat,seqF _ _ [some (IN ns),some (nD k),some (nD c1),none] = _
  have key : ∃ c2 : Nat,(ifF q104 (zay (f2 (gv 1) (fC (zab (gv 0) lNil) lenD) ltI)) (seqF (setF q104 2 (f2 (f2 (gv 0) (gv 1) ixA) (f2 (ci 10) (ci 60) powI) modI)) zaj) zaj) [some (IN ns),some (nD k),some (nD c1),none] = .nx [some (IN ns),some (nD k),some (nD c2),none] := by
    have t := zau (zam (f := gv 1) (r := [some (IN ns),some (nD k),some (nD c1),none]) (a := nD k) rfl (zbv (zaf (f := gv 0) (d := IN ns) rfl zal) (zdK _ _)) (zgg k ns.length))
    by_cases hlt : k < ns.length
    · rw [decide_eq_true hlt] at t
      have hx : (ns.map D.int)[k]? = some (.int ns[k]) := by rw [List.getElem?_map,List.getElem?_eq_getElem hlt]; rfl
      have hp : powI (.int 10) (.int 60) = some (.int (10 ^ 60)) := by
        show zd8 CPow _ _ _ = _
        rw [intsC_int,if_pos (by unfold CPow; decide)]
        rfl
      obtain ⟨c2,h2⟩ := zfE (f := f2 (gv 0) (gv 1) ixA) (f' := f2 (ci 10) (ci 60) powI) (r := [some (IN ns),some (nD k),some (nD c1),none]) ⟨ns[k],zam (a := IN ns) (b := nD k) rfl rfl (zhI hx)⟩ (zam rfl rfl hp) (by decide)
      exact ⟨c2,(if_t t).trans ((zah (zaG h2)).trans rfl)⟩
    · rw [decide_eq_false hlt] at t
      exact ⟨c1,(if_f t).trans rfl⟩
  obtain ⟨c2,h2⟩ := key
  rw [zah h2]
  have kq : ∃ b,(fAnd (zay (f2 (fC (zab (gv 0) lNil) lenD) (ci 0) gtI)) (zay (f2 (f2 (f2 (gv 0) (ci 0) ixA) (ci 2) modI) (ci 0) eqD))) [some (IN ns),some (nD k),some (nD c2),none] = .ok b := by
    have t := zau (zam (f := fC (zab (gv 0) lNil) lenD) (f' := fun _ => Res.ok (D.int 0)) (r := [some (IN ns),some (nD k),some (nD c2),none]) (b := nD 0) (zbv (zaf (d := IN ns) rfl zal) (zdK _ _)) rfl (zlt ns.length 0))
    cases ns with
    | nil => exact ⟨false,zlQ t⟩
    | cons a ns =>
      rw [decide_eq_true (by simp)] at t
      obtain ⟨c3,h3⟩ := zfE (f := f2 (gv 0) (ci 0) ixA) (f' := fun _ => Res.ok (D.int 2)) (r := [some (IN (a::ns)),some (nD k),some (nD c2),none]) ⟨a,zam (a := IN (a::ns)) (b := .int 0) rfl rfl (ixA_L0 _ _)⟩ rfl (by decide)
      exact ⟨_,(zjQ t).trans (zau (zam h3 (b := nD 0) rfl (zgF c3 0)))⟩
  obtain ⟨b,hb⟩ := kq
  cases b with
  | true => exact ⟨c2,zar ((if_t hb).trans (zar (zaE (d := nD c2) rfl)))⟩
  | false =>
    rw [zah ((if_f (s2 := zaj) hb).trans (e_skip _))]
    refine zlE (zfE (zde (exN (zfE (zde (zhQ (zhQ (zhQ ⟨(c2 : Int),rfl⟩ (zde (b := (k : Int)) (zde (b := (k : Int)) ⟨7,rfl⟩ rfl (by omega)) rfl (by omega))) (zde (b := (k : Int)) ⟨13,rfl⟩ rfl (by omega))) ⟨5,rfl⟩) rfl (by decide)) rfl (by decide))) rfl (by decide)) rfl (by decide)) fun c3 => ?_
    obtain ⟨c4,h4⟩ := zfE (f := (f2 (f2 (f2 (f2 (gv 3) (ci 1) addA) (ci 40692) mulI) (ci 2147483629) modI) (ci 39373) mulI)) (f' := fun _ => Res.ok (D.int 999999937)) (r := [some (IN ns),some (nD k),some (nD c2),some (nD c3)]) (zde (exN (zfE (zde (zhQ ⟨(c3 : Int),rfl⟩ ⟨1,rfl⟩) rfl (by decide)) rfl (by decide))) rfl (by decide)) rfl (by decide)
    exact ⟨c4,zar (zaE h4)⟩
theorem zhJ {row : List Nat} {i : Int} {x : Nat} : insL (row.map nD) i (nD x) = (insL row i x).map nD := by
  unfold insL
  rw [List.length_map,List.map_append,List.map_cons,List.map_take,List.map_drop]
theorem zgs {row : List Nat} {i : Int} {x : Nat} : (insL row i x).Perm (x::row) := by
  unfold insL
  refine List.perm_middle.trans ?_
  rw [List.take_append_drop]
theorem zeY (m : Nat) : ∀ (j i c : Nat) (row : List Nat) (x : Option D),row.Perm (List.range i)→i + j≤60 →
    ∃ (c' : Nat) (row' : List Nat) (x' : Option D),row'.Perm (List.range (i + j))∧forF (ftN 3) zcI ((List.range' i j).map nD) [some (nD c),some (nD m),some (LN row),x] = .nx [some (nD c'),some (nD m),some (LN row'),x']
  | 0,i,c,row,x,hp,_ => ⟨c,row,x,hp,zeH⟩
  | j + 1,i,c,row,x,hp,hl => by
    have hlen : row.length = i := by rw [hp.length_eq]; simp
    obtain ⟨c',row',x',h1,h2⟩ := zeY m j (i + 1) (c / (i + 1)) (insL row ((c % (i + 1) : Nat) : Int) i) (some (nD i)) (by
      refine zgs.trans ?_
      rw [List.range_succ]
      exact (List.Perm.cons i hp).trans (List.perm_append_singleton i _).symm) (by omega)
    refine ⟨c',row',x',by rw [show i + (j + 1) = i + 1 + j by omega]; exact h1,?_⟩
    rw [← h2]
    have hmod : c % (i + 1) < i + 1 := Nat.mod_lt _ (by omega)
    refine zgy (r1 := [some (nD c),some (nD m),some (LN row),some (nD i)]) rfl ?_
    refine (zah (zd2 (d := LN row) (ds := [nD (c % (i + 1)),nD i]) (d' := LN (insL row ((c % (i + 1) : Nat) : Int) i)) rfl rfl (zaf (zam (a := nD c) (b := nD (i + 1)) rfl (zam (a := nD i) (b := nD 1) rfl rfl (zen i 1)) (zcm (by omega))) (zaf (d := nD i) rfl zal)) ?_)).trans ?_
    · show (if _ then some (D.lst (insL _ _ _)) else none) = _
      rw [if_pos ⟨by rw [List.length_map,sizeLine_eq]; omega,by omega,by omega⟩,zhJ]
    · exact zah (zaG (d := nD (c / (i + 1))) (zam (a := nD c) (b := nD (i + 1)) rfl (zam (a := nD i) (b := nD 1) rfl rfl (zen i 1)) (zb9 (by omega) (by omega))))
theorem zfS (c m : Nat) (hm : m≤60) : ∃ row : List Nat,row.Perm (List.range m)∧za3 [nD c,nD m] = .ok (TN row) := by
  obtain ⟨c',row',x',h1,h2⟩ := zeY m m 0 c [] none (by simp) (by omega)
  rw [Nat.zero_add] at h1
  rw [← List.range_eq_range'] at h2
  refine ⟨row',h1,zbq (B := zbX) (n := 4) ?_⟩
  unfold zbX
  refine (zah (zaG (d := LN []) (zix zal (by simp)))).trans ?_
  refine (zah ((zc7 (ds := (List.range m).map nD) (zgB (zaf (d := nD m) rfl zal) (zih (by omega)))).trans h2)).trans ?_
  exact zar (zaE (zbv (zaf (d := LN row') rfl zal) rfl))
end Law
end
section
namespace Law
open PySem L2 DL
theorem zfv (ns : List Int) (at' n m : Nat) (ha : at'≤60) (hn : n≤60) (hm : m≤60) : ∃ rows : List (List Nat),rows.length = n∧(∀ row∈rows,row.Perm (List.range m))∧zbf [IN ns,nD at',nD n,nD m] = .ok (WD rows) := by
  have h : ∀ h : Nat,∃ row : List Nat,h≤60→row.Perm (List.range m)∧∃ c : Nat,zaw [IN ns,nD (at' + h)] = .ok (nD c)∧za3 [nD c,nD m] = .ok (TN row) := by
    intro h
    by_cases hh : h≤60
    · obtain ⟨c,hc⟩ := zcQ ns (at' + h) (by omega)
      obtain ⟨row,h1,h2⟩ := zfS c m hm
      exact ⟨row,fun _ => ⟨h1,c,hc,h2⟩⟩
    · exact ⟨[],fun z => absurd z hh⟩
  obtain ⟨g,hg⟩ := Classical.axiomOfChoice h
  refine ⟨(List.range n).map g,by simp,fun row hr => ?_,zbq (B := zbh) (n := 4) ?_⟩
  · obtain ⟨i,hi,rfl⟩ := List.mem_map.mp hr
    exact (hg i (by have := List.mem_range.mp hi; omega)).1
  · unfold zbh
    refine zar (zaE (zbv (zaf (zgN (l := List.range n) nD (fun _ => true) (fun h => TN (g h)) (zgB (zaf (d := nD n) rfl zal) (zih (by omega))) (by simp; omega) fun h hh => ⟨[some (nD h),some (nD m),some (IN ns),some (nD at')],rfl,rfl,fun _ => ?_⟩) zal) ?_))
    · obtain ⟨_,c,h1,h2⟩ := hg h (by have := List.mem_range.mp hh; omega)
      exact zan (zaf (zan (zaf (d := IN ns) rfl (zaf (zam (a := nD at') (b := nD h) rfl rfl (zen at' h)) zal)) h1) (zaf (d := nD m) rfl zal)) h2
    · rw [zeb,e_tupL]
      show some (D.tup _) = some (D.tup _)
      rw [List.map_map]; rfl
end Law
end
section
namespace Law
open PySem PyProof.Rows L2 DL
theorem zmA (a b : Nat) : eqs (nD a) (nD b) = decide (a = b) := by
  show (((a : Nat) : Int) == (b : Int)) = _
  rw [Bool.eq_iff_iff,beq_iff_eq,decide_eq_true_iff]; exact Int.ofNat_inj
theorem zgA (k : Nat) : ∀ l : List Nat,k∈l→zdn (nD k) (l.map nD) = some (l.idxOf k)
  | [],h => by cases h
  | a::l,h => by
    show (if eqs (nD a) (nD k) = true then some 0 else (zdn (nD k) (l.map nD)).map (· + 1)) = _
    rw [zmA]
    by_cases e : a = k
    · rw [if_pos (by simpa using e)]; subst e; simp
    · rw [if_neg (by simpa using e),zgA k l ((List.mem_cons.mp h).resolve_left fun z => e z.symm)]
      have hf : (a == k) = false := by simpa using e
      rw [List.idxOf_cons,hf]; rfl
theorem zcW {k : Nat} {l : List Nat} (h : k∈l) : zcx (TN l) [nD k] = some (nD (l.idxOf k)) := by
  show (if zaV (nD k) = true∧(l.map nD).all zaV = true then (zdn (nD k) (l.map nD)).map fun j => D.int j else none) = _
  rw [if_pos ⟨rfl,zlD l⟩,zgA k l h]; rfl
theorem zhP {T : String} {fo : FE} {fl : Rho→Res (List D)} {k : D→List D→Option D} {r : Rho} {d d' : D} {ds : List D} (h1 : fo r = .ok d) (ht : tyM T d = true) (h2 : fl r = .ok ds) (h3 : k d ds = some d') : fM T fo fl k r = .ok d' := by
  unfold fM; rw [h1,bind_ok,if_pos ht,h2,bind_ok,h3]; rfl
section
variable {a : Nat → Nat} {n : Nat}
end
end Law
end
section
namespace Law
open PySem PyProof.Rows L2 DL
theorem zke {ds : List D} {i : Nat} {v : D} (h : i < ds.length) : stoD (.lst ds) (nD i) v = some (.lst (ds.set i v)) := by
  show (ixN ds.length (i : Int)).map _ = _
  unfold ixN
  rw [if_pos (Int.natCast_nonneg i),if_pos (by omega)]
  simp
end Law
end
section
namespace Law
open PySem PyProof.Rows L2 DL
theorem zeq {s1 s2 : FS} {r r' : Rho} {x : D} (h : s1 r = .exc x r') : seqF s1 s2 r = .exc x r' := by unfold seqF; rw [h]
theorem zkr {m : List Md} {nm f : Str} {fl : Rho→Res (List D)} {r : Rho} {i : Int} (h : fl r = .ok [.int i]) (hi : i.natAbs.log2 < 64) : zfV m nm f fl r = .exc (xD nm [(f,.int i)]) (forget m r) := by
  unfold zfV
  rw [h,onE_ok]
  show (if i.natAbs.log2 < 64 then _ else _) = _
  rw [if_pos hi]
theorem zgj {k : Nat} (h : k≤60) : ((k : Nat) : Int).natAbs.log2 < 64 := by
  rw [Int.natAbs_natCast]
  have := Nat.log2_le_self k
  omega
theorem zfi {fl : Rho→Res (List D)} {zs : List D} {F : List D→Res D} {r : Rho} {x : Res D} (h1 : fl r = .ok zs) (h2 : F zs = x) : zeh fl [] F r = x := by unfold zeh; rw [h1,bind_ok,List.append_nil,h2]
theorem ziR {m : List Md} {i : Nat} {f : FE} {r : Rho} {d : D} (h : f r = .exc d) : setF m i f r = .exc d (forget m r) := by unfold setF; rw [h]; rfl
theorem zez {B : FS} {n : Nat} {ds : List D} {d : D} (h : B (zak n ds) = .rt d) : outR true (B (zak n ds)) = .ok d := by rw [h]; rfl
theorem zhc {B : FS} {n : Nat} {ds : List D} {x : D} {r' : Rho} (h : B (zak n ds) = .exc x r') : outR true (B (zak n ds)) = .exc x := by rw [h]; rfl
inductive Fl : D→Prop where
  | non : Fl .non
  | int (i : Int) : Fl (.int i)
  | bl (b : Bool) : Fl (.bl b)
theorem Fl.shp {d : D} (h : Fl d) (k : Nat) : Shp k d := by
  cases h with
  | non => cases k <;> trivial
  | int i => cases k <;> trivial
  | bl b => cases k <;> trivial
theorem zgD : ∀ {l : List D},(∀ d∈l,Fl d)→PyData.eqvAll (zcJ l) (zcJ l) = true
  | [],_ => by simp [zcJ,PyData.eqvAll]
  | d::l,h => by
    have ih := zgD (l := l) fun x hx => h x (List.mem_cons_of_mem _ hx)
    have hd := h d List.mem_cons_self
    simp only [zcJ,PyData.eqvAll,ih]
    cases hd with
    | non => simp [toPy,PyData.eqv]
    | int i => simp [toPy,PyData.eqv]
    | bl b => simp [toPy,PyData.eqv]
theorem ziw {l : List D} (h : ∀ d∈l,Fl d) : neD (.lst l) (.lst l) = some (.bl false) := by
  unfold neD
  rw [zfe rfl (zcs.mpr fun d hd => (h d hd).shp _) (zcs.mpr fun d hd => (h d hd).shp _)]
  unfold eqb
  simp only [toPy,PyData.eqv,zgD h]
  rfl
theorem zgE {l : List D} (h : ∀ d∈l,Fl d) : eqD (.lst l) (.lst l) = some (.bl true) := by
  unfold eqD
  rw [zfe rfl (zcs.mpr fun d hd => (h d hd).shp _) (zcs.mpr fun d hd => (h d hd).shp _)]
  unfold eqb
  simp only [toPy,PyData.eqv,zgD h]
  rfl
theorem lenL (zs : List D) : lenD [.lst zs] = some (nD zs.length) := rfl
theorem zjy {ds : List D} {i : Nat} {d : D} (h : ds.length≤1000) (hi : i≤1000) : insD (.lst ds) [nD i,d] = some (.lst (insL ds (i : Int) d)) := by
  show (if ds.length < sizeLine∧-(2 ^ 63)≤((i : Nat) : Int)∧((i : Nat) : Int) < 2 ^ 63 then _ else _) = _
  rw [if_pos ⟨by rw [sizeLine_eq]; omega,by omega,by omega⟩]
theorem mem_insL {ds : List D} {i : Int} {d x : D} (h : x∈insL ds i d) : x = d∨x∈ds := by
  unfold insL at h
  rcases List.mem_append.mp h with z | z
  · exact .inr (List.mem_of_mem_take z)
  · rcases List.mem_cons.mp z with z | z
    · exact .inl z
    · exact .inr (List.mem_of_mem_drop z)
theorem zhE {ds : List D} {i : Int} {d : D} : (insL ds i d).length≤ds.length + 1 := by
  unfold insL
  simp only [List.length_append,List.length_take,List.length_cons,List.length_drop]
  omega
theorem zhb {c n o : Nat} (h1 : 1≤n) (hn : n≤7) : ∃ zs : List D,(∀ d∈zs,Fl d)∧zs.length≤8∧zbF [nD c,nD n,nD o] = .ok (.lst zs) := by
  obtain ⟨row,p1,p2⟩ := zfS c n (by omega)
  have pl : row.length = n := by rw [p1.length_eq]; simp
  have hat : o / 10 % n < n := Nat.mod_lt _ (by omega)
  have hs2 : o / 70 % n < n := Nat.mod_lt _ (by omega)
  have hw : o % 10 < 10 := Nat.mod_lt _ (by decide)
  have hf : ∀ d∈row.map nD,Fl d := fun d hd => by obtain ⟨j,_,rfl⟩ := List.mem_map.mp hd; exact .int _
  have hl : (row.map nD).length = n := by rw [List.length_map,pl]
  suffices h : ∃ zs : List D,(∀ d∈zs,Fl d)∧zs.length≤8∧zbG (zak 6 [nD c,nD n,nD o]) = .rt (.lst zs) by
    obtain ⟨zs,a,b,e⟩ := h
    exact ⟨zs,a,b,zbq e⟩
  unfold zbG
  rw [zah (r' := [some (nD c),some (nD n),some (nD o),some (.lst (row.map nD)),none,none]) (zaG (zbv (zaf (d := TN row) (zan (zaf (d := nD c) rfl (zaf (d := nD n) rfl zal)) p2) zal) rfl))]
  clear p2 p1 pl
  generalize row.map nD = z0 at hf hl
  rw [zah (r' := [some (nD c),some (nD n),some (nD o),some (.lst z0),some (nD (o % 10)),none]) (zaG (zam (a := nD o) (b := nD 10) rfl rfl (zcm (by decide))))]
  rw [zah (r' := [some (nD c),some (nD n),some (nD o),some (.lst z0),some (nD (o % 10)),some (nD (o / 10 % n))]) (zaG (zam (a := nD (o / 10)) (b := nD n) (zam (a := nD o) (b := nD 10) rfl rfl (zb9 (by decide) (by decide))) rfl (zcm (by omega))))]
  generalize o % 10 = way at hw
  generalize o / 10 % n = at' at hat
  have t1 : ∀ zs : List D,zay (f2 (gv 4) (ci 1) eqD) [some (nD c),some (nD n),some (nD o),some (.lst zs),some (nD way),some (nD at')] = .ok (decide (way = 1)) := fun zs => zau (zam (a := nD way) (b := nD 1) rfl rfl (zgF _ _))
  have t2 : ∀ zs : List D,zay (f2 (gv 4) (ci 2) eqD) [some (nD c),some (nD n),some (nD o),some (.lst zs),some (nD way),some (nD at')] = .ok (decide (way = 2)) := fun zs => zau (zam (a := nD way) (b := nD 2) rfl rfl (zgF _ _))
  have t3 : ∀ zs : List D,zay (f2 (gv 4) (ci 2) gtI) [some (nD c),some (nD n),some (nD o),some (.lst zs),some (nD way),some (nD at')] = .ok (decide (2 < way)) := fun zs => zau (zam (a := nD way) (b := nD 2) rfl rfl (zlt _ _))
  have t4 : ∀ zs : List D,zay (f2 (gv 4) (ci 7) ltI) [some (nD c),some (nD n),some (nD o),some (.lst zs),some (nD way),some (nD at')] = .ok (decide (way < 7)) := fun zs => zau (zam (a := nD way) (b := nD 7) rfl rfl (zgg _ _))
  have n34 : ∀ zs : List D,¬ (2 < way∧way < 7)→(fAnd (zay (f2 (gv 4) (ci 2) gtI)) (zay (f2 (gv 4) (ci 7) ltI))) [some (nD c),some (nD n),some (nD o),some (.lst zs),some (nD way),some (nD at')] = .ok false := fun zs z => by
    by_cases c3 : 2 < way
    · have e3 := t3 zs; rw [decide_eq_true c3] at e3
      have e4 := t4 zs; rw [decide_eq_false (fun y => z ⟨c3,y⟩)] at e4
      exact (zjQ e3).trans e4
    · have e3 := t3 zs; rw [decide_eq_false c3] at e3
      exact zlQ e3
  by_cases c1 : way = 1
  · have e1 := t1 z0; rw [decide_eq_true c1] at e1
    have hp : ze0 (.lst z0) [nD at'] = some (.lst (z0.eraseIdx at')) := by
      show (if 0≤((at' : Nat) : Int)∧((at' : Nat) : Int).toNat < z0.length∧z0.length≤1000 then some (D.lst (z0.eraseIdx ((at' : Nat) : Int).toNat)) else none) = _
      rw [Int.toNat_natCast,if_pos ⟨by omega,by omega,by omega⟩]
    rw [zah (r' := [some (nD c),some (nD n),some (nD o),some (.lst (z0.eraseIdx at')),some (nD way),some (nD at')]) ((if_t e1).trans (zah (s2 := zaj) (zd2 (d := .lst z0) (ds := [nD at']) rfl rfl (zaf (d := nD at') rfl zal) hp)))]
    have e2 := t2 (z0.eraseIdx at'); rw [decide_eq_false (by omega)] at e2
    refine ⟨z0.eraseIdx at',fun d hd => hf d (List.mem_of_mem_eraseIdx hd),by have := List.length_eraseIdx_le z0 at'; omega,?_⟩
    exact (zah ((if_f e2).trans (e_skip _))).trans ((zah ((if_f (n34 _ (by omega))).trans (e_skip _))).trans (zar (zaE rfl)))
  · have e1 := t1 z0; rw [decide_eq_false c1] at e1
    rw [zah ((if_f e1).trans (e_skip _))]
    by_cases c2 : way = 2
    · have e2 := t2 z0; rw [decide_eq_true c2] at e2
      obtain ⟨v,hv⟩ : ∃ v,z0[o / 70 % n]? = some v := ⟨_,List.getElem?_eq_getElem (by omega)⟩
      rw [zah (r' := [some (nD c),some (nD n),some (nD o),some (.lst (insL z0 (at' : Int) v)),some (nD way),some (nD at')]) ((if_t e2).trans (zah (s2 := zaj) (zd2 (d := .lst z0) (ds := [nD at',v]) rfl rfl (zaf (d := nD at') rfl (zaf (d := v) (zam (a := .lst z0) (b := nD (o / 70 % n)) rfl (zam (a := nD (o / 70)) (b := nD n) (zam (a := nD o) (b := nD 70) rfl rfl (zb9 (by decide) (by decide))) rfl (zcm (by omega))) (zhI hv)) zal)) (zjy (by omega) (by omega)))))]
      refine ⟨insL z0 (at' : Int) v,fun d hd => ?_,?_,?_⟩
      · rcases mem_insL hd with z | z
        · rw [z]; exact hf v (List.mem_of_getElem? hv)
        · exact hf d z
      · have := zhE (ds := z0) (i := (at' : Int)) (d := v); omega
      · exact (zah ((if_f (n34 _ (by omega))).trans (e_skip _))).trans (zar (zaE rfl))
    · have e2 := t2 z0; rw [decide_eq_false c2] at e2
      rw [zah ((if_f e2).trans (e_skip _))]
      by_cases c3 : 2 < way∧way < 7
      · have e3 := t3 z0; rw [decide_eq_true c3.1] at e3
        have e4 := t4 z0; rw [decide_eq_true c3.2] at e4
        have hs : subI (nD way) (.int 3) = some (nD (way - 3)) := by
          have e : ((way : Nat) : Int) - 3 = ((way - 3 : Nat) : Int) := by omega
          show some (D.int (((way : Nat) : Int) - 3)) = some (D.int _)
          rw [e]
        have hj : way - 3 < 4 := by omega
        obtain ⟨v,hv,hfv⟩ : ∃ v : D,([nD n,.int (-1),.bl true,.non] : List D)[way - 3]? = some v∧Fl v := by
          generalize way - 3 = j at hj
          match j,hj with
          | 0,_ => exact ⟨_,rfl,.int _⟩
          | 1,_ => exact ⟨_,rfl,.int _⟩
          | 2,_ => exact ⟨_,rfl,.bl _⟩
          | 3,_ => exact ⟨_,rfl,.non⟩
        refine ⟨z0.set at' v,fun d hd => (List.mem_or_eq_of_mem_set hd).elim (hf d) (fun e => by rw [e]; exact hfv),by simp; omega,?_⟩
        refine (zah (r' := [some (nD c),some (nD n),some (nD o),some (.lst (z0.set at' v)),some (nD way),some (nD at')]) ((if_t ((zjQ e3).trans e4)).trans (zah (s2 := zaj) ?_))).trans (zar (zaE rfl))
        exact zil (d := .lst z0) (k := nD at') (v := v) (d' := .lst (z0.set at' v)) rfl (zam (a := .lst [nD n,.int (-1),.bl true,.non]) (b := nD (way - 3)) (zix (zaf (d := nD n) rfl (zaf (d := .int (-1)) rfl (zaf (d := .bl true) rfl (zaf (d := .non) rfl zal)))) (by simp)) (zam (a := nD way) (b := .int 3) rfl rfl hs) (zhI hv)) rfl (zke (by omega))
      · exact ⟨z0,hf,by omega,(zah ((if_f (n34 _ c3)).trans (e_skip _))).trans (zar (zaE rfl))⟩
end Law
end
section
namespace Law
open PySem PyProof.Rows L2 DL
noncomputable abbrev zbw (pre : List Nat) : D := .dic ((pre.map fun k => (k,D.bl true)).map fun p => (kI p.1,p.2))
noncomputable def okI (m : Nat) (pre : List Nat) : D→Option (List Nat)
  | .int i => if 0≤i∧i < (m : Int)∧i.toNat∉pre then some (pre++[i.toNat]) else none
  | _ => none
noncomputable def ob (m : Nat) : List Nat→Nat→List D→Option Nat
  | _,_,[] => none
  | pre,k,d::ds => match okI m pre d with
    | none => some k
    | some pre' => ob m pre' (k + 1) ds
theorem zjo {m : Nat} : ∀ {ds : List D} {pre : List Nat} {k j : Nat},ob m pre k ds = some j→j < k + ds.length
  | [],_,_,_,h => by simp [ob] at h
  | d::ds,pre,k,j,h => by
    unfold ob at h
    split at h
    · cases h; simp
    · have := zjo h; simp; omega
theorem zga {m : Nat} {pre pre' : List Nat} {d : D} (h : okI m pre d = some pre') : pre'.length = pre.length + 1 := by
  unfold okI at h
  split at h
  · split at h
    · cases h; simp
    · cases h
  · cases h
noncomputable def good (m : Nat) (row : List D) : Bool := decide (row.length = m∧ob m [] 0 row = none)
theorem ziJ (i : Int) : zbV [.int i] = .ok (.bl true) := rfl
theorem zeM (i : Int) (m : Nat) : za2 [.int i,nD m] = .ok (.bl (decide (0≤i∧i < (m : Int)))) := by
  refine zbq (B := zbi) (n := 2) ?_
  unfold zbi
  refine zar (zaE ?_)
  rw [zdq (zan (zaf (d := .int i) rfl zal) (ziJ i))]
  unfold zb5
  show (if decide ((0 : Int)≤i) = true then Res.ok (D.bl (decide (i < (m : Int)))) else Res.ok (D.bl false)) = _
  by_cases c : (0 : Int)≤i
  · rw [decide_eq_true c,if_pos rfl]; congr 2; rw [decide_eq_decide]; exact ⟨fun z => ⟨c,z⟩,fun z => z.2⟩
  · rw [decide_eq_false c,if_neg Bool.false_ne_true,decide_eq_false (fun z => c z.1)]
theorem zfk {d : D} (m : Nat) (h : d = .non∨∃ b,d = .bl b) : za2 [d,nD m] = .ok (.bl false) := by
  refine zbq (B := zbi) (n := 2) ?_
  unfold zbi
  refine zar (zaE ?_)
  refine zh9 (zan (zaf (d := d) rfl zal) ?_)
  rcases h with rfl | ⟨b,rfl⟩ <;> rfl
theorem zcw {i : Int} (h : 0≤i) : D.int i = nD i.toNat := by show D.int i = D.int (i.toNat : Int); rw [Int.toNat_of_nonneg h]
theorem zgt (pre : List Nat) (k : Nat) : inD (nD k) (zbw pre) = some (.bl (decide (k∈pre))) := by
  show (some (hasK _ (kI k))).map D.bl = _
  rw [ziA,List.map_map]
  have : decide (k∈pre.map ((fun p : Nat × D => p.1) ∘ fun k => (k,D.bl true))) = decide (k∈pre) := by
    rw [decide_eq_decide]; simp [Function.comp_def]
  rw [this]; rfl
theorem zg4 {pre : List Nat} {k : Nat} (hk : k∉pre) (hl : pre.length≤60) : stoD (zbw pre) (nD k) (.bl true) = some (zbw (pre++[k])) := by
  show (if _ then some (D.dic (putD _ (kI k) (.bl true))) else none) = _
  rw [if_pos (by rw [List.length_map,List.length_map,sizeLine_eq]; omega),zhj _ _ _ (by rw [List.map_map]; simpa [Function.comp_def] using hk)]
  simp
section
variable {T : D} {m : Nat}
theorem zlA {pre : List Nat} {d : D} (hf : Fl d) (h : okI m pre d = none) {k : Nat} : zav [some T,some (nD m),some (zbw pre),some (nD k),some d] = .rt (nD k) := by
  refine zar ((if_t ?_).trans (zar (zaE rfl)))
  have bad : za2 [d,nD m] = .ok (.bl false)→(fOr (fNot (fTru (zaz (zab (gv 4) (zab (gv 1) lNil)) [] za2))) (zay (f2 (gv 4) (gv 2) inD))) [some T,some (nD m),some (zbw pre),some (nD k),some d] = .ok true := fun hb =>
    or_t (za9 (b := false) (zaI (d := .bl false) (zan (zaf (d := d) rfl (zaf (d := nD m) rfl zal)) hb) rfl))
  cases hf with
  | non => exact bad (zfk m (.inl rfl))
  | bl b => exact bad (zfk m (.inr ⟨b,rfl⟩))
  | int i =>
    by_cases c : 0≤i∧i < (m : Int)
    · have hp : i.toNat∈pre := by
        by_cases z : i.toNat∈pre
        · exact z
        · have h : (if 0≤i∧i < (m : Int)∧i.toNat∉pre then some (pre++[i.toNat]) else none) = none := h
          rw [if_pos ⟨c.1,c.2,z⟩] at h; cases h
      have hb := zeM i m
      rw [decide_eq_true c] at hb
      refine (or_f (za9 (b := true) (zaI (d := .bl true) (zan (zaf (d := .int i) rfl (zaf (d := nD m) rfl zal)) hb) rfl))).trans ?_
      refine zau (zam (a := .int i) (b := zbw pre) rfl rfl ?_)
      rw [zcw c.1,zgt,decide_eq_true hp]
    · have hb := zeM i m
      rw [decide_eq_false c] at hb
      exact bad hb
theorem zjF {pre pre' : List Nat} {d : D} (h : okI m pre d = some pre') (hl : pre.length≤60) {k : Nat} : zav [some T,some (nD m),some (zbw pre),some (nD k),some d] = .nx [some T,some (nD m),some (zbw pre'),some (nD k),some d] := by
  unfold okI at h
  split at h
  · rename_i i
    split at h
    · rename_i c
      cases h
      have hb := zeM i m
      rw [decide_eq_true ⟨c.1,c.2.1⟩] at hb
      refine (zah ((if_f ?_).trans (e_skip _))).trans (zah ?_)
      · refine (or_f (za9 (b := true) (zaI (d := .bl true) (zan (zaf (d := .int i) rfl (zaf (d := nD m) rfl zal)) hb) rfl))).trans ?_
        refine zau (zam (a := .int i) (b := zbw pre) rfl rfl ?_)
        rw [zcw c.1,zgt,decide_eq_false c.2.2]
      · refine zil (d := zbw pre) (k := .int i) (v := .bl true) (d' := zbw (pre++[i.toNat])) rfl rfl rfl ?_
        rw [zcw c.1]
        exact zg4 c.2.2 hl
    · cases h
  · cases h
theorem zgx : ∀ (zs : List D) (pre : List Nat) (k : Nat) (x y : Option D),(∀ d∈zs,Fl d)→pre.length + zs.length≤60 →
    (∀ j,ob m pre k zs = some j→forF (ftT (zaQ (ftN 3) (zaQ (ftN 4) zdd))) zav (enuD k zs) [some T,some (nD m),some (zbw pre),x,y] = .rt (nD j)) ∧
    (ob m pre k zs = none→∃ pre' x' y',forF (ftT (zaQ (ftN 3) (zaQ (ftN 4) zdd))) zav (enuD k zs) [some T,some (nD m),some (zbw pre),x,y] = .nx [some T,some (nD m),some (zbw pre'),x',y'])
  | [],pre,k,x,y,_,_ => ⟨fun j h => (nomatch h),fun _ => ⟨pre,x,y,zeH⟩⟩
  | d::zs,pre,k,x,y,hf,hl => by
    simp only [List.length_cons] at hl
    have hd := hf d List.mem_cons_self
    cases e : okI m pre d with
    | none =>
      have h := zlA (T := T) hd e (k := k)
      have ho : ob m pre k (d::zs) = some k := by unfold ob; rw [e]
      rw [ho]
      refine ⟨fun j z => ?_,fun z => (nomatch z)⟩
      cases z
      exact ziC (r1 := [some T,some (nD m),some (zbw pre),some (nD k),some d]) rfl h
    | some pre' =>
      have h := zjF (T := T) e (by omega) (k := k)
      have ho : ob m pre k (d::zs) = ob m pre' (k + 1) zs := by conv => lhs; unfold ob; rw [e]
      have hp := zga e
      obtain ⟨i1,i2⟩ := zgx zs pre' (k + 1) (some (nD k)) (some d) (fun z hz => hf z (List.mem_cons_of_mem _ hz)) (by omega)
      have st : forF (ftT (zaQ (ftN 3) (zaQ (ftN 4) zdd))) zav (enuD k (d::zs)) [some T,some (nD m),some (zbw pre),x,y] = forF (ftT (zaQ (ftN 3) (zaQ (ftN 4) zdd))) zav (enuD (k + 1) zs) [some T,some (nD m),some (zbw pre'),some (nD k),some d] :=
        zgy (r1 := [some T,some (nD m),some (zbw pre),some (nD k),some d]) rfl h
      rw [ho,st]
      exact ⟨i1,i2⟩
theorem zif {row : List D} (ha : zeO T = some row) (ht : lenD [T] = some (nD row.length)) (hf : ∀ d∈row,Fl d) (hl : row.length≤60) : zaD [T,nD m] = .ok (nD ((ob m [] 0 row).getD row.length)) := by
  obtain ⟨i1,i2⟩ := zgx (T := T) (m := m) row [] 0 none none hf (by simpa using hl)
  refine zbq (B := zbg) (n := 5) ?_
  unfold zbg
  refine (zah (r' := [some T,some (nD m),some (zbw []),none,none]) rfl).trans ?_
  have hi : fEnu (gv 0) [some T,some (nD m),some (zbw []),none,none] = .ok (enuD 0 row) := by
    unfold fEnu
    show (Res.ok T).bind _ = _
    rw [bind_ok,ha]; rfl
  cases e : ob m [] 0 row with
  | none =>
    obtain ⟨pre',x',y',h⟩ := i2 e
    refine (zah ((zc7 hi).trans h)).trans ?_
    exact zar (zaE (zbv (zaf (d := T) rfl zal) ht))
  | some j => exact zar ((zc7 hi).trans (i1 j e))
theorem zeX {row : List D} (ha : zeO T = some row) (ht : lenD [T] = some (nD row.length)) (hf : ∀ d∈row,Fl d) (hl : row.length≤60) : zaq [T,nD m] = .ok (.bl (good m row)) := by
  have fw := zif (T := T) (m := m) ha ht hf hl
  have un : zbr [T,nD m] = .ok (.bl (decide (ob m [] 0 row = none))) := by
    refine zbq (B := zbt) (n := 2) ?_
    unfold zbt
    refine zar (zaE (zam (a := nD ((ob m [] 0 row).getD row.length)) (b := nD row.length) (zan (zaf (d := T) rfl (zaf (d := nD m) rfl zal)) fw) (zbv (zaf (d := T) rfl zal) ht) ?_))
    rw [zgF]
    congr 2
    rw [decide_eq_decide]
    cases e : ob m [] 0 row with
    | none => simp
    | some j => have := zjo e; simp; omega
  refine zbq (B := zaY) (n := 2) ?_
  unfold zaY
  refine zar (zaE ?_)
  have t : f2 (fC (zab (gv 0) lNil) lenD) (gv 1) eqD (zak 2 [T,nD m]) = .ok (.bl (decide (row.length = m))) := zam (a := nD row.length) (b := nD m) (zbv (zaf (d := T) rfl zal) ht) rfl (zgF _ _)
  unfold good
  by_cases c : row.length = m
  · rw [decide_eq_true c] at t
    refine (zdq t).trans (zan (zaf (d := T) rfl (zaf (d := nD m) rfl zal)) ?_)
    rw [List.append_nil,un]
    congr 2
    rw [decide_eq_decide]
    exact ⟨fun z => ⟨c,z⟩,fun z => z.2⟩
  · rw [decide_eq_false c] at t
    rw [decide_eq_false (fun z => c z.1)]
    exact zh9 t
end
theorem zit {m : Nat} : ∀ {ds : List D} {pre : List Nat} {k : Nat},ob m pre k ds = none→pre.Nodup→(∀ x∈pre,x < m)→pre.length + ds.length≤m
  | [],pre,k,_,hn,hb => by
    have := Rg.zdJ (m := List.range m) hn fun x hx => List.mem_range.mpr (hb x hx)
    simpa using this
  | d::ds,pre,k,h,hn,hb => by
    unfold ob at h
    split at h
    · cases h
    · rename_i pre' e
      unfold okI at e
      split at e
      · rename_i i
        split at e
        · rename_i c
          cases e
          have := zit h (List.nodup_append.mpr ⟨hn,by simp,fun a ha b hb' => by rw [List.mem_singleton.mp hb']; rintro rfl; exact c.2.2 ha⟩) (fun x hx => by
            rcases List.mem_append.mp hx with z | z
            · exact hb x z
            · rw [List.mem_singleton.mp z]; omega)
          simp at this ⊢; omega
        · cases e
      · cases e
theorem zk5 {m : Nat} : ∀ {ds : List D} {pre : List Nat} {k : Nat},ob m pre k ds = none→∀ d∈ds,isiD "bool" d = some (.bl false)
  | [],_,_,_ => fun _ hd => (nomatch hd)
  | d::ds,pre,k,h => by
    intro x hx
    unfold ob at h
    split at h
    · cases h
    · rename_i pre' e
      rcases List.mem_cons.mp hx with z | z
      · subst z
        cases x with
        | int i => rfl
        | _ => cases e
      · exact zk5 h x z
noncomputable def dueD : Option Nat→D
  | none => .non
  | some j => nD j
noncomputable def dueN (n : Nat) (zs : List D) : Option Nat := match ob n [] 0 zs with
  | some j => some j
  | none => if zs.length < n then some zs.length else none
section
variable {T : D} {m : Nat}
theorem zlJ {pre : List Nat} {d : D} (hf : Fl d) (h : okI m pre d = none) {k : Nat} : zaK [some T,some (nD m),some (LN pre),some (nD k),some d] = .rt (nD k) := by
  refine zar ((if_t ?_).trans (zar (zaE rfl)))
  cases hf with
  | non => exact or_t (za9 (b := false) (zaI (d := .bl false) (zdo (a := .non) rfl rfl) rfl))
  | bl b =>
    refine (or_f (za9 (b := true) (zaI (d := .bl true) (zdo (a := .bl b) rfl rfl) rfl))).trans ?_
    exact or_t (zaI (d := .bl true) (zdo (a := .bl b) rfl rfl) rfl)
  | int i =>
    refine (or_f (za9 (b := true) (zaI (d := .bl true) (zdo (a := .int i) rfl rfl) rfl))).trans ?_
    refine (or_f (zaI (d := .bl false) (zdo (a := .int i) rfl rfl) rfl)).trans ?_
    have ch : zb5 (ci 0) (gv 4) (gv 1) leI ltI [some T,some (nD m),some (LN pre),some (nD k),some (.int i)] = .ok (.bl (decide (0≤i∧i < (m : Int)))) := by
      unfold zb5
      show (if decide ((0 : Int)≤i) = true then Res.ok (D.bl (decide (i < (m : Int)))) else Res.ok (D.bl false)) = _
      by_cases c : (0 : Int)≤i
      · rw [decide_eq_true c,if_pos rfl]; congr 2; rw [decide_eq_decide]; exact ⟨fun z => ⟨c,z⟩,fun z => z.2⟩
      · rw [decide_eq_false c,if_neg Bool.false_ne_true,decide_eq_false (fun z => c z.1)]
    by_cases c : 0≤i∧i < (m : Int)
    · have hp : i.toNat∈pre := by
        by_cases z : i.toNat∈pre
        · exact z
        · have h : (if 0≤i∧i < (m : Int)∧i.toNat∉pre then some (pre++[i.toNat]) else none) = none := h
          rw [if_pos ⟨c.1,c.2,z⟩] at h; cases h
      rw [decide_eq_true c] at ch
      refine (or_f (za9 (b := true) (zau ch))).trans ?_
      refine zau (zam (a := .int i) (b := LN pre) rfl rfl ?_)
      rw [zcw c.1,zlo,decide_eq_true hp]
    · rw [decide_eq_false c] at ch
      exact or_t (za9 (b := false) (zau ch))
theorem zjH {pre pre' : List Nat} {d : D} (h : okI m pre d = some pre') (hl : pre.length≤60) {k : Nat} : zaK [some T,some (nD m),some (LN pre),some (nD k),some d] = .nx [some T,some (nD m),some (LN pre'),some (nD k),some d] := by
  unfold okI at h
  split at h
  · rename_i i
    split at h
    · rename_i c
      cases h
      refine (zah ((if_f ?_).trans (e_skip _))).trans (zah ?_)
      · refine (or_f (za9 (b := true) (zaI (d := .bl true) (zdo (a := .int i) rfl rfl) rfl))).trans ?_
        refine (or_f (zaI (d := .bl false) (zdo (a := .int i) rfl rfl) rfl)).trans ?_
        refine (or_f (za9 (b := true) (zau (zjJ (x := .int 0) (y := .int i) (w := nD m) (d := .bl true) rfl rfl ?_ rfl ?_)))).trans ?_
        · show some (D.bl (decide ((0 : Int)≤i))) = _
          rw [decide_eq_true c.1]
        · show some (D.bl (decide (i < (m : Int)))) = _
          rw [decide_eq_true c.2.1]
        · refine zau (zam (a := .int i) (b := LN pre) rfl rfl ?_)
          rw [zcw c.1,zlo,decide_eq_false c.2.2]
      · refine zd2 (d := LN pre) (ds := [.int i]) (d' := LN (pre++[i.toNat])) rfl rfl (zaf (d := .int i) rfl zal) ?_
        rw [zcw c.1,zgX (by simp; omega)]
        simp
    · cases h
  · cases h
theorem zgG : ∀ (zs : List D) (pre : List Nat) (k : Nat) (x y : Option D),(∀ d∈zs,Fl d)→pre.length + zs.length≤60 →
    (∀ j,ob m pre k zs = some j→forF (ftT (zaQ (ftN 3) (zaQ (ftN 4) zdd))) zaK (enuD k zs) [some T,some (nD m),some (LN pre),x,y] = .rt (nD j)) ∧
    (ob m pre k zs = none→∃ pre' x' y',pre'.length = pre.length + zs.length∧forF (ftT (zaQ (ftN 3) (zaQ (ftN 4) zdd))) zaK (enuD k zs) [some T,some (nD m),some (LN pre),x,y] = .nx [some T,some (nD m),some (LN pre'),x',y'])
  | [],pre,k,x,y,_,_ => ⟨fun j h => (nomatch h),fun _ => ⟨pre,x,y,rfl,zeH⟩⟩
  | d::zs,pre,k,x,y,hf,hl => by
    simp only [List.length_cons] at hl
    have hd := hf d List.mem_cons_self
    cases e : okI m pre d with
    | none =>
      have h := zlJ (T := T) hd e (k := k)
      have ho : ob m pre k (d::zs) = some k := by unfold ob; rw [e]
      rw [ho]
      refine ⟨fun j z => ?_,fun z => (nomatch z)⟩
      cases z
      exact ziC (r1 := [some T,some (nD m),some (LN pre),some (nD k),some d]) rfl h
    | some pre' =>
      have h := zjH (T := T) e (by omega) (k := k)
      have ho : ob m pre k (d::zs) = ob m pre' (k + 1) zs := by conv => lhs; unfold ob; rw [e]
      have hp := zga e
      obtain ⟨i1,i2⟩ := zgG zs pre' (k + 1) (some (nD k)) (some d) (fun z hz => hf z (List.mem_cons_of_mem _ hz)) (by omega)
      have st : forF (ftT (zaQ (ftN 3) (zaQ (ftN 4) zdd))) zaK (enuD k (d::zs)) [some T,some (nD m),some (LN pre),x,y] = forF (ftT (zaQ (ftN 3) (zaQ (ftN 4) zdd))) zaK (enuD (k + 1) zs) [some T,some (nD m),some (LN pre'),some (nD k),some d] :=
        zgy (r1 := [some T,some (nD m),some (LN pre),some (nD k),some d]) rfl h
      rw [ho,st]
      refine ⟨i1,fun z => ?_⟩
      obtain ⟨p2,x',y',l2,e2⟩ := i2 z
      exact ⟨p2,x',y',by rw [l2,hp,List.length_cons]; omega,e2⟩
end
theorem ziX {zs : List D} {n : Nat} (hf : ∀ d∈zs,Fl d) (hl : zs.length≤60) : zbW [.lst zs,nD n] = .ok (dueD (dueN n zs)) := by
  obtain ⟨i1,i2⟩ := zgG (T := .lst zs) (m := n) zs [] 0 none none hf (by simpa using hl)
  refine zbq (B := zbY) (n := 5) ?_
  unfold zbY
  refine (zah (r' := [some (.lst zs),some (nD n),some (LN []),none,none]) rfl).trans ?_
  unfold dueN
  cases e : ob n [] 0 zs with
  | some j => exact zar ((zc7 (ds := enuD 0 zs) rfl).trans (i1 j e))
  | none =>
    obtain ⟨pre',x',y',l,h⟩ := i2 e
    simp only [List.length_nil,Nat.zero_add] at l
    refine (zah ((zc7 (ds := enuD 0 zs) rfl).trans h)).trans ?_
    have ln : fC (zab (gv 2) lNil) lenD [some (.lst zs),some (nD n),some (LN pre'),x',y'] = .ok (nD zs.length) := zbv (zaf (d := LN pre') rfl zal) (by rw [zdK,l])
    have t : zay (f2 (fC (zab (gv 2) lNil) lenD) (gv 1) ltI) [some (.lst zs),some (nD n),some (LN pre'),x',y'] = .ok (decide (zs.length < n)) := zau (zam (a := nD zs.length) (b := nD n) ln rfl (zgg _ _))
    by_cases c : zs.length < n
    · rw [decide_eq_true c] at t
      rw [if_pos c]
      exact zar ((if_t t).trans (zar (zaE ln)))
    · rw [decide_eq_false c] at t
      rw [if_neg c]
      exact (zah ((if_f t).trans (e_skip _))).trans (zar (zaE rfl))
theorem zlH {n j : Nat} {zs : List D} (h : dueN n zs = some j) : j≤zs.length := by
  unfold dueN at h
  split at h
  · rename_i i e
    have := zjo e
    cases h; omega
  · split at h
    · cases h; omega
    · cases h
theorem zfg {n : Nat} {zs : List D} : good n zs = decide (dueN n zs = none) := by
  unfold good
  rw [decide_eq_decide]
  unfold dueN
  cases e : ob n [] 0 zs with
  | some j => simp
  | none =>
    have := zit e (by simp) (by simp)
    simp at this
    by_cases c : zs.length < n
    · rw [if_pos c]; simp; omega
    · rw [if_neg c]; simp; omega
theorem zlI {n j : Nat} {zs : List D} (h : dueN n zs = some j) : (ob n [] 0 zs).getD zs.length = j := by
  unfold dueN at h
  cases e : ob n [] 0 zs with
  | some i => rw [e] at h; cases h; rfl
  | none =>
    rw [e] at h
    dsimp only at h
    split at h
    · cases h; rfl
    · cases h
section
variable {rows : List (List Nat)} {n : Nat}
theorem zdj (hr : rows.length = n) (hn : n≤60) : zaM [WD rows,.non] = .ok (LN (List.range n)) := by
  refine zez (B := za4) (n := 2) ?_
  unfold za4
  refine zar ((if_t (zau (zam (a := .non) (b := .non) (d := .bl true) rfl rfl rfl))).trans (zar (zaE (zbv (zaf (d := nD n) (zbv (zaf (d := WD rows) rfl zal) (by rw [zbT,hr])) zal) (zgh (by omega))))))
theorem zdX {zs : List D} (hr : rows.length = n) (hf : ∀ d∈zs,Fl d) (hl : zs.length≤60) (h : dueN n zs = none) : zaM [WD rows,.lst zs] = .ok (.lst zs) := by
  have hg := zeX (T := .lst zs) (m := n) rfl (lenL zs) hf hl
  rw [zfg,decide_eq_true h] at hg
  refine zez (B := za4) (n := 2) ?_
  unfold za4
  refine (zah ((if_f (zau (zam (a := .lst zs) (b := .non) (d := .bl false) rfl rfl rfl))).trans (e_skip _))).trans ?_
  refine (zah ((if_f (za9 (b := true) (zaI (d := .bl true) (zan (zaf (d := .lst zs) rfl (zaf (d := nD n) (zbv (zaf (d := WD rows) rfl zal) (by rw [zbT,hr])) zal)) hg) rfl))).trans (e_skip _))).trans ?_
  exact zar (zaE (zbv (zaf (d := .lst zs) rfl zal) rfl))
theorem zey {zs : List D} (hr : rows.length = n) (hf : ∀ d∈zs,Fl d) (hl : zs.length≤60) :
    (∀ j,dueN n zs = some j→zaB [WD rows,.lst zs] = .exc (xD "NoOrder" [("at",nD j)]))∧(dueN n zs = none→zaB [WD rows,.lst zs] = .ok (.lst zs)) := by
  have hg := zeX (T := .lst zs) (m := n) rfl (lenL zs) hf hl
  have hw := zif (T := .lst zs) (m := n) rfl (lenL zs) hf hl
  rw [zfg] at hg
  have ln : fC (zab (gv 0) lNil) lenD (zak 2 [WD rows,.lst zs]) = .ok (nD n) := zbv (zaf (d := WD rows) rfl zal) (by rw [zbT,hr])
  have st : zaT (zak 2 [WD rows,.lst zs]) = seqF (ifF q105 (fNot (fTru (zaz (zab (gv 1) (zab (fC (zab (gv 0) lNil) lenD) lNil)) [] zaq))) (seqF (zfV q105 "NoOrder" "at" (zab (zaz (zab (gv 1) (zab (fC (zab (gv 0) lNil) lenD) lNil)) [] zaD) lNil)) zaj) zaj) (seqF (retF q105 (fC (zab (gv 1) lNil) zdm)) zaj) (zak 2 [WD rows,.lst zs]) := by
    unfold zaT
    exact zah ((if_f (zau (zam (a := .lst zs) (b := .non) (d := .bl false) rfl rfl rfl))).trans (e_skip _))
  constructor
  · intro j h
    rw [decide_eq_false (by rw [h]; exact fun z => nomatch z)] at hg
    rw [zlI h] at hw
    have := zlH h
    refine zhc (B := zaT) (n := 2) (r' := forget q105 (zak 2 [WD rows,.lst zs])) (st.trans (zeq ((if_t (za9 (b := false) (zaI (d := .bl false) (zan (zaf (d := .lst zs) rfl (zaf ln zal)) hg) rfl))).trans (zeq (zkr (i := (j : Int)) (zaf (d := nD j) (zan (zaf (d := .lst zs) rfl (zaf ln zal)) hw) zal) (zgj (by omega)))))))
  · intro h
    rw [decide_eq_true h] at hg
    refine zez (B := zaT) (n := 2) (st.trans ((zah ((if_f (za9 (b := true) (zaI (d := .bl true) (zan (zaf (d := .lst zs) rfl (zaf ln zal)) hg) rfl))).trans (e_skip _))).trans ?_))
    exact zar (zaE (zbv (zaf (d := .lst zs) rfl zal) rfl))
end
end Law
end
section
namespace Law
open PySem PyProof.Rows L2 DL
theorem zk7 : neD .non .non = some (.bl false) := rfl
theorem zh2 {f : FE} {fi : FI} {nl : Nat} {cap : List Nat} {ft : FT} {r : Rho} {zs : List D} (h1 : fi r = .ok zs) (hl : zs.length≤1000) (h2 : ∀ d∈zs,∃ r1,ft d (capR nl cap r) = some r1∧f r1 = .ok (.bl false)) : fC (zab (zec nl cap fi ft (fun _ => Res.ok true) f) lNil) anyD r = .ok (.bl false) := by
  have e := zgN (nl := nl) (cap := cap) (fi := fi) (ft := ft) (q := fun _ => Res.ok true) (fe := f) (r := r) (l := zs) id (fun _ => true) (fun _ => .bl false) (by rw [List.map_id]; exact h1) hl (fun d hd => by
    obtain ⟨r1,a,b⟩ := h2 d hd
    exact ⟨r1,a,rfl,fun _ => b⟩)
  refine zbv (zaf e zal) ?_
  rw [zeb]
  show (zdP _).map (fun bs => D.bl (bs.any id)) = _
  have : ∀ l : List D,zdP (l.map fun _ => D.bl false) = some (l.map fun _ => false) := by
    intro l
    induction l with
    | nil => rfl
    | cons d l ih => simp [zdP,ih]
  rw [this]
  simp
theorem zcD {zs : List D} (hf : ∀ d∈zs,Fl d) (hl : zs.length≤60) (hb : ∀ d∈zs,isiD "bool" d = some (.bl false)) : zaA [.lst zs,.lst zs] = .ok (.bl true) := by
  refine zbq (B := zaZ) (n := 2) ?_
  unfold zaZ
  refine zar (zaE ?_)
  refine (zdq (zdo (a := .lst zs) rfl rfl)).trans ((zdq (zam (a := .lst zs) (b := .lst zs) rfl rfl (zgE hf))).trans ?_)
  exact ziK (b := false) (zh2 (zs := zs) rfl (by omega) fun d hd => ⟨[some d],rfl,zdo (a := d) rfl (hb d hd)⟩)
theorem zfT {rows : List (List Nat)} {n m c : Nat} (hr : rows.length = n) (hn : 1≤n) (hm : 1≤m) (hp : ∀ row∈rows,row.Perm (List.range m)) : zbs [WD rows,nD c] = .ok (.bl true) := by
  have hh : c % n < n := Nat.mod_lt _ (by omega)
  obtain ⟨row,hrow⟩ : ∃ row,rows[c % n]? = some row := ⟨_,List.getElem?_eq_getElem (by omega)⟩
  have pr := hp row (List.mem_of_getElem? hrow)
  have pl : row.length = m := by rw [pr.length_eq]; simp
  have hr0 : (rows.map TN)[c % n]? = some (TN row) := by rw [List.getElem?_map,hrow]; rfl
  have h1 : c / 7 % m < m := Nat.mod_lt _ (by omega)
  have h2 : c / 56 % m < m := Nat.mod_lt _ (by omega)
  obtain ⟨x,hx⟩ : ∃ x,row[c / 7 % m]? = some x := ⟨_,List.getElem?_eq_getElem (by omega)⟩
  obtain ⟨y,hy⟩ : ∃ y,row[c / 56 % m]? = some y := ⟨_,List.getElem?_eq_getElem (by omega)⟩
  have lk : zdR [WD rows,nD (c % n),nD x,nD y] = .ok (.bl (decide (row.idxOf x < row.idxOf y))) := by
    refine zbq (B := zdS) (n := 5) ?_
    unfold zdS
    refine (zah (r' := [some (WD rows),some (nD (c % n)),some (nD x),some (nD y),some (TN row)]) (zaG (zam (a := WD rows) (b := nD (c % n)) rfl rfl (zgq hr0)))).trans ?_
    exact zar (zaE (zam (a := nD (row.idxOf x)) (b := nD (row.idxOf y)) (zhP (d := TN row) rfl rfl (zaf (d := nD x) rfl zal) (zcW (List.mem_of_getElem? hx))) (zhP (d := TN row) rfl rfl (zaf (d := nD y) rfl zal) (zcW (List.mem_of_getElem? hy))) (zgg _ _)))
  refine zbq (B := zbu) (n := 7) ?_
  unfold zbu
  refine (zah (r' := [some (WD rows),some (nD c),some (nD (c % n)),none,none,none,none]) (zaG (zam (a := nD c) (b := nD n) rfl (zbv (zaf (d := WD rows) rfl zal) (by rw [zbT,hr])) (zcm (by omega))))).trans ?_
  refine (zah (r' := [some (WD rows),some (nD c),some (nD (c % n)),some (TN row),none,none,none]) (zaG (zam (a := WD rows) (b := nD (c % n)) rfl rfl (zgq hr0)))).trans ?_
  refine (zah (r' := [some (WD rows),some (nD c),some (nD (c % n)),some (TN row),some (nD x),none,none]) (zaG (zam (a := TN row) (b := nD (c / 7 % m)) rfl (zam (a := nD (c / 7)) (b := nD m) (zam (a := nD c) (b := nD 7) rfl rfl (zb9 (by decide) (by decide))) (zbv (zaf (d := TN row) rfl zal) (by rw [zbT,pl])) (zcm (by omega))) (zgq (by rw [List.getElem?_map,hx]; rfl))))).trans ?_
  refine (zah (r' := [some (WD rows),some (nD c),some (nD (c % n)),some (TN row),some (nD x),some (nD y),none]) (zaG (zam (a := TN row) (b := nD (c / 56 % m)) rfl (zam (a := nD (c / 56)) (b := nD m) (zam (a := nD c) (b := nD 56) rfl rfl (zb9 (by decide) (by decide))) (zbv (zaf (d := TN row) rfl zal) (by rw [zbT,pl])) (zcm (by omega))) (zgq (by rw [List.getElem?_map,hy]; rfl))))).trans ?_
  refine (zah (r' := [some (WD rows),some (nD c),some (nD (c % n)),some (TN row),some (nD x),some (nD y),some (.bl (decide (row.idxOf x < row.idxOf y)))]) (zaG (zan (zaf (d := WD rows) rfl (zaf (d := nD (c % n)) rfl (zaf (d := nD x) rfl (zaf (d := nD y) rfl zal)))) lk))).trans ?_
  refine zar (zaE ?_)
  refine (zdq (zdo (a := .bl (decide (row.idxOf x < row.idxOf y))) rfl rfl)).trans (zam (a := .bl (decide (row.idxOf x < row.idxOf y))) (b := .bl (decide (row.idxOf x < row.idxOf y))) rfl (zam (a := nD (row.idxOf x)) (b := nD (row.idxOf y)) (zhP (d := TN row) rfl rfl (zaf (d := nD x) rfl zal) (zcW (List.mem_of_getElem? hx))) (zhP (d := TN row) rfl rfl (zaf (d := nD y) rfl zal) (zcW (List.mem_of_getElem? hy))) (zgg _ _)) ?_)
  cases decide (row.idxOf x < row.idxOf y) <;> rfl
theorem zjd {f : FE} {r : Rho} {x : D} (h : f r = .exc x) : ownF f r = .exc x := by unfold ownF; rw [h]; rfl
theorem zjc {f : FE} {r : Rho} {zs : List D} (h : f r = .ok (.lst zs)) : ownF f r = .ok (.lst zs) := by unfold ownF; rw [h]; rfl
theorem zms (ns : List Int) : zjU [IN ns] = .ok (.bl true) := by
  obtain ⟨c1,h1⟩ := zcQ ns 1 (by decide)
  obtain ⟨c2,h2⟩ := zcQ ns 2 (by decide)
  obtain ⟨c3,h3⟩ := zcQ ns 3 (by decide)
  have hn : c1 % 7 < 7 := Nat.mod_lt _ (by decide)
  have hq : c1 / 7 % (9 - (1 + c1 % 7)) < 9 - (1 + c1 % 7) := Nat.mod_lt _ (by omega)
  obtain ⟨rows,r1,r2,r3⟩ := zfv ns 4 (1 + c1 % 7) (1 + c1 % 7 + c1 / 7 % (9 - (1 + c1 % 7))) (by omega) (by omega) (by omega)
  have hsub : subI (.int 9) (nD (1 + c1 % 7)) = some (nD (9 - (1 + c1 % 7))) := by
    have e : (9 : Int) - ((1 + c1 % 7 : Nat) : Int) = ((9 - (1 + c1 % 7) : Nat) : Int) := by omega
    show some (D.int ((9 : Int) - ((1 + c1 % 7 : Nat) : Int))) = some (D.int _)
    rw [e]
  generalize en : 1 + c1 % 7 = n at r1 r2 r3 hsub hq
  generalize em : n + c1 / 7 % (9 - n) = m at r2 r3
  have hn1 : 1≤n := by omega
  have hn7 : n≤7 := by omega
  have hm8 : m≤8 := by omega
  obtain ⟨zs,z1,z2,z3⟩ := zhb (c := c2) (n := n) (o := c3) hn1 hn7
  have hd := ziX (n := n) z1 (by omega)
  obtain ⟨o1,o2⟩ := zey (rows := rows) (n := n) r1 z1 (by omega)
  have o3 := zdj (rows := rows) (n := n) r1 (by omega)
  have lk := zfT (c := c3 / 7) r1 hn1 (by omega) r2
  have fr : ∀ d∈(List.range n).map nD,Fl d := fun d hd => by obtain ⟨j,_,rfl⟩ := List.mem_map.mp hd; exact .int _
  have io : zaA [LN (List.range n),LN (List.range n)] = .ok (.bl true) := zcD fr (by simp; omega) fun d hd => by obtain ⟨j,_,rfl⟩ := List.mem_map.mp hd; rfl
  refine zbq (B := zh7) (n := 12) ?_
  unfold zh7
  refine (zah (zaG (zan (zaf (d := IN ns) rfl (zaf (d := nD 1) rfl zal)) h1))).trans ?_
  refine (zah (zaG (d := nD n) (zam (a := nD 1) (b := nD (c1 % 7)) rfl (zam (a := nD c1) (b := nD 7) rfl rfl (zcm (by decide))) (by rw [zen,en])))).trans ?_
  refine (zah (zaG (d := nD m) (zam (a := nD n) (b := nD (c1 / 7 % (9 - n))) rfl (zam (a := nD (c1 / 7)) (b := nD (9 - n)) (zam (a := nD c1) (b := nD 7) rfl rfl (zb9 (by decide) (by decide))) (zam (a := .int 9) (b := nD n) rfl rfl hsub) (zcm (by omega))) (by rw [zen,em])))).trans ?_
  refine (zah (zaG (zan (zaf (d := IN ns) rfl (zaf (d := nD 4) rfl (zaf (d := nD n) rfl (zaf (d := nD m) rfl zal)))) r3))).trans ?_
  refine (zah (zaG (d := .lst zs) (zan (zaf (d := nD c2) (zan (zaf (d := IN ns) rfl (zaf (d := nD 2) rfl zal)) h2) (zaf (d := nD n) rfl (zaf (d := nD c3) (zan (zaf (d := IN ns) rfl (zaf (d := nD 3) rfl zal)) h3) zal))) z3))).trans ?_
  refine (zah (zaG (d := dueD (dueN n zs)) (zan (zaf (d := .lst zs) rfl (zaf (d := nD n) rfl zal)) hd))).trans ?_
  refine (zah (zaG (d := .lst zs) (zbv (zaf (d := .lst zs) rfl zal) rfl))).trans ?_
  refine (zah (zaG (d := .non) rfl)).trans ?_
  refine (zah (zaG (d := .non) rfl)).trans ?_
  refine (zah (zaG (d := .bl true) rfl)).trans ?_
  obtain ⟨fnd,hfn,ht⟩ : ∃ fnd : Option D,(dueN n zs = none→fnd = some (.lst zs))∧tryK q103 8 11 zbC (seqF (setF q101 8 (ownF (zeh (zab (gv 4) (zab (gv 7) lNil)) [] zaB))) zaj) (seqF (setF q101 9 (f1 (gv 11) (xatD zfl "at"))) (seqF (setF q101 10 (vAnd (f1 (gv 11) (isxD za6)) (vAnd (f1 (gv 11) (isxD za5)) (vNot (f1 (gv 11) (isxD zaR)))))) zaj)) [some (IN ns),some (nD c1),some (nD n),some (nD m),some (WD rows),some (.lst zs),some (dueD (dueN n zs)),some (.lst zs),some .non,some .non,some (.bl true),none] = .nx [some (IN ns),some (nD c1),some (nD n),some (nD m),some (WD rows),some (.lst zs),some (dueD (dueN n zs)),some (.lst zs),fnd,some (dueD (dueN n zs)),some (.bl true),none] := by
    cases eo : dueN n zs with
    | none =>
      refine ⟨some (.lst zs),fun _ => rfl,?_⟩
      have e : seqF (setF q101 8 (ownF (zeh (zab (gv 4) (zab (gv 7) lNil)) [] zaB))) zaj [some (IN ns),some (nD c1),some (nD n),some (nD m),some (WD rows),some (.lst zs),some (dueD none),some (.lst zs),some .non,some .non,some (.bl true),none] = .nx [some (IN ns),some (nD c1),some (nD n),some (nD m),some (WD rows),some (.lst zs),some (dueD none),some (.lst zs),some (.lst zs),some .non,some (.bl true),none] :=
        zah (zaG (d := .lst zs) (zjc (zfi (zaf (d := WD rows) rfl (zaf (d := .lst zs) rfl zal)) (o2 eo))))
      unfold tryK
      rw [e]
      rfl
    | some j =>
      refine ⟨none,fun z => (nomatch z),?_⟩
      have e : seqF (setF q101 8 (ownF (zeh (zab (gv 4) (zab (gv 7) lNil)) [] zaB))) zaj [some (IN ns),some (nD c1),some (nD n),some (nD m),some (WD rows),some (.lst zs),some (dueD (some j)),some (.lst zs),some .non,some .non,some (.bl true),none] = .exc (xD "NoOrder" [("at",nD j)]) [some (IN ns),some (nD c1),some (nD n),some (nD m),some (WD rows),some (.lst zs),some (dueD (some j)),some (.lst zs),some .non,some .non,some (.bl true),none] :=
        zeq (ziR (zjd (zfi (zaf (d := WD rows) rfl (zaf (d := .lst zs) rfl zal)) (o1 j eo))))
      unfold tryK
      rw [e]
      rfl
  refine (zah ht).trans ?_
  have cal : f2 (zaz (zab (gv 0) (zab (ci 3) lNil)) [] zaw) (ci 7) zcN [some (IN ns),some (nD c1),some (nD n),some (nD m),some (WD rows),some (.lst zs),some (dueD (dueN n zs)),some (.lst zs),fnd,some (dueD (dueN n zs)),some (.bl true),none] = .ok (nD (c3 / 7)) := zam (a := nD c3) (b := nD 7) (zan (zaf (d := IN ns) rfl (zaf (d := nD 3) rfl zal)) h3) rfl (zb9 (by decide) (by decide))
  refine (zah ((if_f ?_).trans (e_skip _))).trans ?_
  · refine (or_f (zau (zam (a := .lst zs) (b := .lst zs) rfl rfl (ziw z1)))).trans ?_
    refine (or_f (za9 (b := true) (zaI (d := .bl true) rfl rfl))).trans ?_
    refine (or_f (zau (zam (a := dueD (dueN n zs)) (b := dueD (dueN n zs)) rfl rfl ?_))).trans ?_
    · cases dueN n zs with
      | none => exact zk7
      | some j => show neD (nD j) (nD j) = _; rw [zmq,decide_eq_true rfl]; rfl
    · exact za9 (b := true) (zaI (d := .bl true) (zan (zaf (d := WD rows) rfl (zaf cal zal)) lk) rfl)
  have lr : fC (zab (gv 2) lNil) zdI [some (IN ns),some (nD c1),some (nD n),some (nD m),some (WD rows),some (.lst zs),some (dueD (dueN n zs)),some (.lst zs),fnd,some (dueD (dueN n zs)),some (.bl true),none] = .ok (LN (List.range n)) := zbv (zaf (d := nD n) rfl zal) (zgh (by omega))
  refine (zah ((if_f ?_).trans (e_skip _))).trans ?_
  · refine (or_f (za9 (b := true) (zaI (d := .bl true) (zan (zaf (d := LN (List.range n)) (zan (zaf (d := WD rows) rfl zal) o3) (zaf lr zal)) io) rfl))).trans ?_
    exact zau (zam (a := LN (List.range n)) (b := LN (List.range n)) (zan (zaf (d := WD rows) rfl (zaf (d := .non) rfl zal)) o3) lr (ziw fr))
  cases eo : dueN n zs with
  | some j => exact zar ((if_t (zau (zam (a := nD j) (b := .non) (d := .bl true) rfl rfl rfl))).trans (zar (zaE rfl)))
  | none =>
    have := hfn eo
    subst this
    have hob : ob n [] 0 zs = none := by
      unfold dueN at eo
      cases e : ob n [] 0 zs with
      | none => rfl
      | some j => rw [e] at eo; cases eo
    refine (zah ((if_f (zau (zam (a := .non) (b := .non) (d := .bl false) rfl rfl rfl))).trans (e_skip _))).trans ?_
    refine (zah ((if_f (za9 (b := true) (zaI (d := .bl true) (zan (zaf (d := .lst zs) rfl (zaf (d := .lst zs) rfl zal)) (zcD z1 (by omega) (zk5 hob))) rfl))).trans (e_skip _))).trans ?_
    refine (zah (r' := [some (IN ns),some (nD c1),some (nD n),some (nD m),some (WD rows),some (.lst zs),some (dueD none),some (.lst zs),some (.lst (zs++[.int 9])),some (dueD none),some (.bl true),none]) (zd2 (d := .lst zs) (ds := [.int 9]) rfl rfl (zaf (d := .int 9) rfl zal) (zgX (by omega)))).trans ?_
    refine zar (zaE ((zdq (zam (a := .lst zs) (b := .lst zs) rfl rfl (zgE z1))).trans (zam (a := .lst zs) (b := .lst zs) (zan (zaf (d := WD rows) rfl (zaf (d := .lst zs) rfl zal)) (zdX r1 z1 (by omega) eo)) rfl (zgE z1))))
theorem main (ns : List Int) (_ : ns.length≤63) : zjU [.lst (ns.map .int)] = .ok (.bl true) := zms ns
end Law
end
open PySem PySem.W PyProof.Rows
namespace Law
open PySem PySem.Spec PyProof.Rows L2 DL
theorem pack {P : Program} {w : World} {K : PySem.W.Frag} {h : Heap} {mg : Str→Option Value} (KX : K.In h) (G : h.Ns mainGlobals mg) {c_TradeError : Addr} {c_NoOwn : Addr} {c_NoOrder : Addr} {c_NoText : Addr} {b_TradeError : List Value} {b_NoOwn : List Value} {b_NoOrder : List Value} {b_NoText : List Value} {n_NoOrder : Addr} {n_NoText : Addr} {f_NoOrder : Addr} {oc_NoOrder kV_NoOrder doc_NoOrder pm_NoOrder cdv_NoOrder ct_NoOrder : Value} {od_NoOrder an_NoOrder : Option Addr} {osl_NoOrder : Array (Option Value)}
    (a_TradeError : PySem.W.nsIn K mainGlobals "TradeError" = some (some (.ref c_TradeError)))
    (a_NoOwn : PySem.W.nsIn K mainGlobals "NoOwn" = some (some (.ref c_NoOwn)))
    (a_NoOrder : PySem.W.nsIn K mainGlobals "NoOrder" = some (some (.ref c_NoOrder)))
    (a_NoText : PySem.W.nsIn K mainGlobals "NoText" = some (some (.ref c_NoText)))
    (o_TradeError : DL.xoIn K c_TradeError = some (b_TradeError,(Str.ofString "TradeError")))
    (be_TradeError : b_TradeError.contains (Value.type "BaseException") = true)
    (bo_TradeError : b_TradeError.contains (Value.type "object") = true)
    (ga_TradeError : PySem.W.findIn K (.ref c_TradeError) "__getattribute__" = some (some (.builtin "BaseException.__getattribute__")))
    (gn_TradeError : PySem.W.findIn K (.ref c_TradeError) "__getattr__" = some (none))
    (gc_TradeError : PySem.W.findIn K (.ref c_TradeError) "__class__" = some (some (.builtin "object.__class__")))
    (un_TradeError : DL.unIn K "TradeError" c_TradeError = true)
    (o_NoOwn : DL.xoIn K c_NoOwn = some (b_NoOwn,(Str.ofString "NoOwn")))
    (be_NoOwn : b_NoOwn.contains (Value.type "BaseException") = true)
    (bo_NoOwn : b_NoOwn.contains (Value.type "object") = true)
    (ga_NoOwn : PySem.W.findIn K (.ref c_NoOwn) "__getattribute__" = some (some (.builtin "BaseException.__getattribute__")))
    (gn_NoOwn : PySem.W.findIn K (.ref c_NoOwn) "__getattr__" = some (none))
    (gc_NoOwn : PySem.W.findIn K (.ref c_NoOwn) "__class__" = some (some (.builtin "object.__class__")))
    (un_NoOwn : DL.unIn K "NoOwn" c_NoOwn = true)
    (o_NoOrder : DL.xoIn K c_NoOrder = some (b_NoOrder,(Str.ofString "NoOrder")))
    (be_NoOrder : b_NoOrder.contains (Value.type "BaseException") = true)
    (bo_NoOrder : b_NoOrder.contains (Value.type "object") = true)
    (ga_NoOrder : PySem.W.findIn K (.ref c_NoOrder) "__getattribute__" = some (some (.builtin "BaseException.__getattribute__")))
    (gn_NoOrder : PySem.W.findIn K (.ref c_NoOrder) "__getattr__" = some (none))
    (gc_NoOrder : PySem.W.findIn K (.ref c_NoOrder) "__class__" = some (some (.builtin "object.__class__")))
    (un_NoOrder : DL.unIn K "NoOrder" c_NoOrder = true)
    (o_NoText : DL.xoIn K c_NoText = some (b_NoText,(Str.ofString "NoText")))
    (be_NoText : b_NoText.contains (Value.type "BaseException") = true)
    (bo_NoText : b_NoText.contains (Value.type "object") = true)
    (ga_NoText : PySem.W.findIn K (.ref c_NoText) "__getattribute__" = some (some (.builtin "BaseException.__getattribute__")))
    (gn_NoText : PySem.W.findIn K (.ref c_NoText) "__getattr__" = some (none))
    (gc_NoText : PySem.W.findIn K (.ref c_NoText) "__class__" = some (some (.builtin "object.__class__")))
    (un_NoText : DL.unIn K "NoText" c_NoText = true)
    (gg : PySem.W.specialIn K (.builtin "object.__class__") "__get__" = some (some (.builtin "getset_descriptor.__get__")))
    (gt : PySem.W.takesIn K (.builtin "object.__class__") = some true)
    (h_NoOrder_NoOrder : (Value.ref c_NoOrder::b_NoOrder).contains (.ref c_NoOrder) = true)
    (ns_NoOrder : DL.nsOf K c_NoOrder = some n_NoOrder)
    (z_NoOrder : DL.zkIn K c_NoOrder n_NoOrder = true)
    (g0_NoOrder : PySem.W.findIn K (.ref c_NoOrder) "__setattr__" = some (some (.builtin "object.__setattr__")))
    (g1_NoOrder : PySem.W.findIn K (.ref c_NoOrder) "at" = some none)
    (ns_NoText : DL.nsOf K c_NoText = some n_NoText)
    (z_NoText : DL.zkIn K c_NoText n_NoText = true)
    (g0_NoText : PySem.W.findIn K (.ref c_NoText) "__setattr__" = some (some (.builtin "object.__setattr__")))
    (g1_NoText : PySem.W.findIn K (.ref c_NoText) "at" = some none)
    (nt_NoText_NoOwn : PySem.W.kitAny K (.type "NoneType") ([c_NoText,c_NoOwn].map Value.ref) = some false)
    (kt_NoText_NoOwn_TradeError : PySem.W.kitAny K (.ref c_TradeError) ([c_NoText,c_NoOwn].map Value.ref) = Law.zaR "TradeError")
    (kt_NoText_NoOwn_NoOwn : PySem.W.kitAny K (.ref c_NoOwn) ([c_NoText,c_NoOwn].map Value.ref) = Law.zaR "NoOwn")
    (kt_NoText_NoOwn_NoOrder : PySem.W.kitAny K (.ref c_NoOrder) ([c_NoText,c_NoOwn].map Value.ref) = Law.zaR "NoOrder")
    (kt_NoText_NoOwn_NoText : PySem.W.kitAny K (.ref c_NoText) ([c_NoText,c_NoOwn].map Value.ref) = Law.zaR "NoText")
    (nn_ValueError : PySem.W.kitOne K (.type "NoneType") (.type "ValueError") = some false)
    (k_ValueError_TradeError : PySem.W.kitOne K (.ref c_TradeError) (.type "ValueError") = Law.za5 "TradeError")
    (k_ValueError_NoOwn : PySem.W.kitOne K (.ref c_NoOwn) (.type "ValueError") = Law.za5 "NoOwn")
    (k_ValueError_NoOrder : PySem.W.kitOne K (.ref c_NoOrder) (.type "ValueError") = Law.za5 "NoOrder")
    (k_ValueError_NoText : PySem.W.kitOne K (.ref c_NoText) (.type "ValueError") = Law.za5 "NoText")
    (nn_TradeError : PySem.W.kitOne K (.type "NoneType") (.ref c_TradeError) = some false)
    (k_TradeError_TradeError : PySem.W.kitOne K (.ref c_TradeError) (.ref c_TradeError) = Law.za6 "TradeError")
    (k_TradeError_NoOwn : PySem.W.kitOne K (.ref c_NoOwn) (.ref c_TradeError) = Law.za6 "NoOwn")
    (k_TradeError_NoOrder : PySem.W.kitOne K (.ref c_NoOrder) (.ref c_TradeError) = Law.za6 "NoOrder")
    (k_TradeError_NoText : PySem.W.kitOne K (.ref c_NoText) (.ref c_TradeError) = Law.za6 "NoText")
    (sp_TradeError : PySem.W.specialIn K (.ref c_TradeError) "__getattribute__" = some (some (.builtin "type.__getattribute__")))
    (rd_TradeError : PySem.W.readsIn K c_TradeError (.type "type") = true)
    (fn_TradeError : PySem.W.findCls K (.ref c_TradeError) (.type "type") "__init__" = some (.val (.builtin "ValueError.__init__")))
    (i_NoOrder : PySem.W.nsIn K n_NoOrder "__init__" = some (some (.ref f_NoOrder)))
    (kp_NoOrder : PySem.W.keepIn K (.ref c_NoOrder) = true)
    (l_NoOrder : K.lookup f_NoOrder = some ⟨oc_NoOrder,od_NoOrder,.func (PySem.W.fnOf "__init__" "NoOrder.__init__" (L2.defArgs Law.zbj) (L2.defBody Law.zbj) (L2.defScope Law.zbj) .none kV_NoOrder doc_NoOrder pm_NoOrder an_NoOrder cdv_NoOrder ct_NoOrder),osl_NoOrder⟩)
    (cd_NoOrder : PySem.W.codeIn K cdv_NoOrder "NoOrder.__init__" = true)
    (kk_NoOrder : PySem.W.keepIn K (.ref f_NoOrder) = true)
    (fc_NoOrder : PySem.W.typeIn K (.ref f_NoOrder) = some (.type "function")) : ∃ (C_TradeError : Addr) (C_NoOwn : Addr) (C_NoOrder : Addr) (C_NoText : Addr) (bm_TradeError : List Value) (bm_NoOwn : List Value) (bm_NoOrder : List Value) (bm_NoText : List Value),(XA K C_NoOrder bm_NoOrder)∧(mg "NoOrder" = some (.ref C_NoOrder))∧(zh4 K C_NoOrder zbC)∧(zh8 K "at" zfl)∧(mg "NoText" = some (.ref C_NoText))∧(mg "NoOwn" = some (.ref C_NoOwn))∧(IsxT K [C_NoText,C_NoOwn] zaR)∧(IsxOk K (.type "ValueError") za5)∧(mg "TradeError" = some (.ref C_TradeError))∧(IsxOk K (.ref C_TradeError) za6)∧(∀ base,XCI P w K mg base "NoOrder" C_NoOrder "at")∧(XN K "NoOrder" C_NoOrder) :=
  ⟨c_TradeError,c_NoOwn,c_NoOrder,c_NoText,b_TradeError,b_NoOwn,b_NoOrder,b_NoText,(DL.zmQ o_NoOrder be_NoOrder bo_NoOrder ga_NoOrder gn_NoOrder gc_NoOrder gg gt un_NoOrder).xa,
    PySem.W.mg_of KX G a_NoOrder,
    DL.zmL [((Str.ofString "NoOrder"),c_NoOrder,b_NoOrder)] (by intro q hq; simp only [List.mem_cons,List.not_mem_nil,or_false] at hq; rcases hq with rfl <;> first | exact ⟨(DL.zmQ o_NoOrder be_NoOrder bo_NoOrder ga_NoOrder gn_NoOrder gc_NoOrder gg gt un_NoOrder),h_NoOrder_NoOrder⟩) (fun nm h => by
      have h2 := List.contains_iff_mem.mp h
      simp only [List.mem_cons,List.not_mem_nil,or_false] at h2
      rcases h2 with rfl <;> simp),
    DL.zmN [((Str.ofString "NoOrder"),c_NoOrder,b_NoOrder),((Str.ofString "NoText"),c_NoText,b_NoText)] (by intro q hq; simp only [List.mem_cons,List.not_mem_nil,or_false] at hq; rcases hq with rfl | rfl <;> first | exact ⟨(DL.zmQ o_NoOrder be_NoOrder bo_NoOrder ga_NoOrder gn_NoOrder gc_NoOrder gg gt un_NoOrder),(DL.zmO z_NoOrder o_NoOrder g0_NoOrder g1_NoOrder)⟩ | exact ⟨(DL.zmQ o_NoText be_NoText bo_NoText ga_NoText gn_NoText gc_NoText gg gt un_NoText),(DL.zmO z_NoText o_NoText g0_NoText g1_NoText)⟩) (fun nm h => by
      have h2 := List.contains_iff_mem.mp h
      simp only [List.mem_cons,List.not_mem_nil,or_false] at h2
      rcases h2 with rfl | rfl <;> simp),
    PySem.W.mg_of KX G a_NoText,
    PySem.W.mg_of KX G a_NoOwn,
    DL.zmu [((Str.ofString "TradeError"),c_TradeError,b_TradeError),((Str.ofString "NoOwn"),c_NoOwn,b_NoOwn),((Str.ofString "NoOrder"),c_NoOrder,b_NoOrder),((Str.ofString "NoText"),c_NoText,b_NoText)] nt_NoText_NoOwn (by intro q hq; simp only [List.mem_cons,List.not_mem_nil,or_false] at hq; rcases hq with rfl | rfl | rfl | rfl <;> first | exact ⟨(DL.zmQ o_TradeError be_TradeError bo_TradeError ga_TradeError gn_TradeError gc_TradeError gg gt un_TradeError),kt_NoText_NoOwn_TradeError⟩ | exact ⟨(DL.zmQ o_NoOwn be_NoOwn bo_NoOwn ga_NoOwn gn_NoOwn gc_NoOwn gg gt un_NoOwn),kt_NoText_NoOwn_NoOwn⟩ | exact ⟨(DL.zmQ o_NoOrder be_NoOrder bo_NoOrder ga_NoOrder gn_NoOrder gc_NoOrder gg gt un_NoOrder),kt_NoText_NoOwn_NoOrder⟩ | exact ⟨(DL.zmQ o_NoText be_NoText bo_NoText ga_NoText gn_NoText gc_NoText gg gt un_NoText),kt_NoText_NoOwn_NoText⟩) (fun nm b h => by
      unfold Law.zaR at h
      have h2 : nm∈(["TradeError","NoOwn","NoOrder","NoText"] : List Str) := by
        split at h
        · rename_i z; have z := List.contains_iff_mem.mp z; simp only [List.mem_cons,List.not_mem_nil,or_false] at z ⊢; rcases z with rfl | rfl <;> simp
        · split at h
          · rename_i z; have z := List.contains_iff_mem.mp z; simp only [List.mem_cons,List.not_mem_nil,or_false] at z ⊢; rcases z with rfl | rfl <;> simp
          · cases h
      simp only [List.mem_cons,List.not_mem_nil,or_false] at h2
      rcases h2 with rfl | rfl | rfl | rfl <;> simp),
    DL.zmK [((Str.ofString "TradeError"),c_TradeError,b_TradeError),((Str.ofString "NoOwn"),c_NoOwn,b_NoOwn),((Str.ofString "NoOrder"),c_NoOrder,b_NoOrder),((Str.ofString "NoText"),c_NoText,b_NoText)] nn_ValueError (by intro q hq; simp only [List.mem_cons,List.not_mem_nil,or_false] at hq; rcases hq with rfl | rfl | rfl | rfl <;> first | exact ⟨(DL.zmQ o_TradeError be_TradeError bo_TradeError ga_TradeError gn_TradeError gc_TradeError gg gt un_TradeError),k_ValueError_TradeError⟩ | exact ⟨(DL.zmQ o_NoOwn be_NoOwn bo_NoOwn ga_NoOwn gn_NoOwn gc_NoOwn gg gt un_NoOwn),k_ValueError_NoOwn⟩ | exact ⟨(DL.zmQ o_NoOrder be_NoOrder bo_NoOrder ga_NoOrder gn_NoOrder gc_NoOrder gg gt un_NoOrder),k_ValueError_NoOrder⟩ | exact ⟨(DL.zmQ o_NoText be_NoText bo_NoText ga_NoText gn_NoText gc_NoText gg gt un_NoText),k_ValueError_NoText⟩) (fun nm b h => by
      unfold Law.za5 at h
      have h2 : nm∈([(Str.ofString "TradeError"),(Str.ofString "NoOwn"),(Str.ofString "NoOrder"),(Str.ofString "NoText")] : List Str) := by
        split at h
        · rename_i z; have z := List.contains_iff_mem.mp z; simp only [List.mem_cons,List.not_mem_nil,or_false] at z ⊢; rcases z with rfl | rfl | rfl | rfl <;> simp
        · split at h
          · rename_i z; simp at z
          · cases h
      simp only [List.mem_cons,List.not_mem_nil,or_false] at h2
      rcases h2 with rfl | rfl | rfl | rfl <;> simp),
    PySem.W.mg_of KX G a_TradeError,
    DL.zmK [((Str.ofString "TradeError"),c_TradeError,b_TradeError),((Str.ofString "NoOwn"),c_NoOwn,b_NoOwn),((Str.ofString "NoOrder"),c_NoOrder,b_NoOrder),((Str.ofString "NoText"),c_NoText,b_NoText)] nn_TradeError (by intro q hq; simp only [List.mem_cons,List.not_mem_nil,or_false] at hq; rcases hq with rfl | rfl | rfl | rfl <;> first | exact ⟨(DL.zmQ o_TradeError be_TradeError bo_TradeError ga_TradeError gn_TradeError gc_TradeError gg gt un_TradeError),k_TradeError_TradeError⟩ | exact ⟨(DL.zmQ o_NoOwn be_NoOwn bo_NoOwn ga_NoOwn gn_NoOwn gc_NoOwn gg gt un_NoOwn),k_TradeError_NoOwn⟩ | exact ⟨(DL.zmQ o_NoOrder be_NoOrder bo_NoOrder ga_NoOrder gn_NoOrder gc_NoOrder gg gt un_NoOrder),k_TradeError_NoOrder⟩ | exact ⟨(DL.zmQ o_NoText be_NoText bo_NoText ga_NoText gn_NoText gc_NoText gg gt un_NoText),k_TradeError_NoText⟩) (fun nm b h => by
      unfold Law.za6 at h
      have h2 : nm∈([(Str.ofString "TradeError"),(Str.ofString "NoOwn"),(Str.ofString "NoOrder"),(Str.ofString "NoText")] : List Str) := by
        split at h
        · rename_i z; have z := List.contains_iff_mem.mp z; simp only [List.mem_cons,List.not_mem_nil,or_false] at z ⊢; rcases z with rfl | rfl | rfl | rfl <;> simp
        · split at h
          · rename_i z; simp at z
          · cases h
      simp only [List.mem_cons,List.not_mem_nil,or_false] at h2
      rcases h2 with rfl | rfl | rfl | rfl <;> simp),
    DL.zmH KX G a_NoOrder kp_NoOrder z_NoOrder o_NoOrder (DL.zmO z_NoOrder o_NoOrder g0_NoOrder g1_NoOrder) i_NoOrder (L2.fun_mk l_NoOrder cd_NoOrder kk_NoOrder) fc_NoOrder Law.zjV (Law.zjB (L2.fun_mk l_NoOrder cd_NoOrder kk_NoOrder) (DL.zmO z_NoOrder o_NoOrder g0_NoOrder g1_NoOrder) (PySem.W.mg_of KX G a_TradeError) ⟨sp_TradeError,rd_TradeError,fn_TradeError⟩),
    (DL.zmQ o_NoOrder be_NoOrder bo_NoOrder ga_NoOrder gn_NoOrder gc_NoOrder gg gt un_NoOrder).xn⟩
end Law
set_option maxRecDepth 100000 in
set_option maxHeartbeats 0 in
theorem PySem.Challenge.cw_ringtrade_k03_orders_made_holds : PySem.Challenge.rw_ringtrade_k03_orders_made.Holds := by
  w_on; o_law; k_head; (case hw => w_witness2)
  k_fill
  refine DL.zmP (l := PySem.Challenge.rw_ringtrade_k03_orders_made) (k := 7) (x := "_law_script") (F := Law.zjU) rfl rfl ⟨rfl,by decide,by decide⟩ (fun w h Y => PySem.W.kIn_of Y) Law.main ?C
  intro w mg fa h KX G hmg
  have T : Law.Txt (L2.KOf KX) mg := by
    dsimp only [L2.KOf]
    refine ⟨?b_len,?b_range,?b_tuple,?b_list,?b_enumerate,?b_isinstance,?b_bool,?b_int,?b_any,?b_ValueError⟩
    case b_len => (refine' PySem.W.mg_none_of KX G ?z_b_len; k_is)
    case b_range => (refine' PySem.W.mg_none_of KX G ?z_b_range; k_is)
    case b_tuple => (refine' PySem.W.mg_none_of KX G ?z_b_tuple; k_is)
    case b_list => (refine' PySem.W.mg_none_of KX G ?z_b_list; k_is)
    case b_enumerate => (refine' PySem.W.mg_none_of KX G ?z_b_enumerate; k_is)
    case b_isinstance => (refine' PySem.W.mg_none_of KX G ?z_b_isinstance; k_is)
    case b_bool => (refine' PySem.W.mg_none_of KX G ?z_b_bool; k_is)
    case b_int => (refine' PySem.W.mg_none_of KX G ?z_b_int; k_is)
    case b_any => (refine' PySem.W.mg_none_of KX G ?z_b_any; k_is)
    case b_ValueError => (refine' PySem.W.mg_none_of KX G ?z_b_ValueError; k_is)
  obtain ⟨C_TradeError,C_NoOwn,C_NoOrder,C_NoText,bm_TradeError,bm_NoOwn,bm_NoOrder,bm_NoText,xa_NoOrder,xb_NoOrder,hk_NoOrder,at_at,xb_NoText,xb_NoOwn,it_NoText_NoOwn,ix_ValueError,xb_TradeError,ix_TradeError,xi_NoOrder,xn_NoOrder⟩ : ∃ (C_TradeError : Addr) (C_NoOwn : Addr) (C_NoOrder : Addr) (C_NoText : Addr) (bm_TradeError : List Value) (bm_NoOwn : List Value) (bm_NoOrder : List Value) (bm_NoText : List Value),(DL.XA (L2.KOf KX) C_NoOrder bm_NoOrder)∧(mg "NoOrder" = some (.ref C_NoOrder))∧(DL.zh4 (L2.KOf KX) C_NoOrder Law.zbC)∧(DL.zh8 (L2.KOf KX) "at" Law.zfl)∧(mg "NoText" = some (.ref C_NoText))∧(mg "NoOwn" = some (.ref C_NoOwn))∧(DL.IsxT (L2.KOf KX) [C_NoText,C_NoOwn] Law.zaR)∧(DL.IsxOk (L2.KOf KX) (.type "ValueError") Law.za5)∧(mg "TradeError" = some (.ref C_TradeError))∧(DL.IsxOk (L2.KOf KX) (.ref C_TradeError) Law.za6)∧(∀ base,DL.XCI PySem.Challenge.rw_ringtrade_k03_orders_made.prog w (L2.KOf KX) mg base "NoOrder" C_NoOrder "at")∧(DL.XN (L2.KOf KX) "NoOrder" C_NoOrder) := by
    dsimp only [L2.KOf]
    refine' Law.pack KX G ?a_TradeError ?a_NoOwn ?a_NoOrder ?a_NoText ?o_TradeError ?be_TradeError ?bo_TradeError ?ga_TradeError ?gn_TradeError ?gc_TradeError ?un_TradeError ?o_NoOwn ?be_NoOwn ?bo_NoOwn ?ga_NoOwn ?gn_NoOwn ?gc_NoOwn ?un_NoOwn ?o_NoOrder ?be_NoOrder ?bo_NoOrder ?ga_NoOrder ?gn_NoOrder ?gc_NoOrder ?un_NoOrder ?o_NoText ?be_NoText ?bo_NoText ?ga_NoText ?gn_NoText ?gc_NoText ?un_NoText ?gg ?gt ?h_NoOrder_NoOrder ?ns_NoOrder ?z_NoOrder ?g0_NoOrder ?g1_NoOrder ?ns_NoText ?z_NoText ?g0_NoText ?g1_NoText ?nt_NoText_NoOwn ?kt_NoText_NoOwn_TradeError ?kt_NoText_NoOwn_NoOwn ?kt_NoText_NoOwn_NoOrder ?kt_NoText_NoOwn_NoText ?nn_ValueError ?k_ValueError_TradeError ?k_ValueError_NoOwn ?k_ValueError_NoOrder ?k_ValueError_NoText ?nn_TradeError ?k_TradeError_TradeError ?k_TradeError_NoOwn ?k_TradeError_NoOrder ?k_TradeError_NoText ?sp_TradeError ?rd_TradeError ?fn_TradeError ?i_NoOrder ?kp_NoOrder ?l_NoOrder ?cd_NoOrder ?kk_NoOrder ?fc_NoOrder
    (case a_TradeError => k_is)
    (case a_NoOwn => k_is)
    (case a_NoOrder => k_is)
    (case a_NoText => k_is)
    (case o_TradeError => exact rfl)
    (case be_TradeError => decide +kernel)
    (case bo_TradeError => decide +kernel)
    (case ga_TradeError => k_is)
    (case gn_TradeError => k_is)
    (case gc_TradeError => k_is)
    (case un_TradeError => kernel_rfl)
    (case o_NoOwn => exact rfl)
    (case be_NoOwn => decide +kernel)
    (case bo_NoOwn => decide +kernel)
    (case ga_NoOwn => k_is)
    (case gn_NoOwn => k_is)
    (case gc_NoOwn => k_is)
    (case un_NoOwn => kernel_rfl)
    (case o_NoOrder => exact rfl)
    (case be_NoOrder => decide +kernel)
    (case bo_NoOrder => decide +kernel)
    (case ga_NoOrder => k_is)
    (case gn_NoOrder => k_is)
    (case gc_NoOrder => k_is)
    (case un_NoOrder => kernel_rfl)
    (case o_NoText => exact rfl)
    (case be_NoText => decide +kernel)
    (case bo_NoText => decide +kernel)
    (case ga_NoText => k_is)
    (case gn_NoText => k_is)
    (case gc_NoText => k_is)
    (case un_NoText => kernel_rfl)
    (case gg => k_is)
    (case gt => k_is)
    (case h_NoOrder_NoOrder => decide +kernel)
    (case ns_NoOrder => exact rfl)
    (case z_NoOrder => kernel_rfl)
    (case g0_NoOrder => k_is)
    (case g1_NoOrder => k_is)
    (case ns_NoText => exact rfl)
    (case z_NoText => kernel_rfl)
    (case g0_NoText => k_is)
    (case g1_NoText => k_is)
    (case nt_NoText_NoOwn => kernel_rfl)
    (case kt_NoText_NoOwn_TradeError => kernel_rfl)
    (case kt_NoText_NoOwn_NoOwn => kernel_rfl)
    (case kt_NoText_NoOwn_NoOrder => kernel_rfl)
    (case kt_NoText_NoOwn_NoText => kernel_rfl)
    (case nn_ValueError => kernel_rfl)
    (case k_ValueError_TradeError => kernel_rfl)
    (case k_ValueError_NoOwn => kernel_rfl)
    (case k_ValueError_NoOrder => kernel_rfl)
    (case k_ValueError_NoText => kernel_rfl)
    (case nn_TradeError => kernel_rfl)
    (case k_TradeError_TradeError => kernel_rfl)
    (case k_TradeError_NoOwn => kernel_rfl)
    (case k_TradeError_NoOrder => kernel_rfl)
    (case k_TradeError_NoText => kernel_rfl)
    (case sp_TradeError => k_is)
    (case rd_TradeError => kernel_rfl)
    (case fn_TradeError => kernel_rfl)
    (case i_NoOrder => k_is)
    (case kp_NoOrder => k_is)
    (case l_NoOrder => k_is)
    (case cd_NoOrder => k_is)
    (case kk_NoOrder => k_is)
    (case fc_NoOrder => k_is)
  have A__law_cell : DL.DefAt (L2.KOf KX) mg "_law_cell" Law.zcC := by
    dsimp only [L2.KOf]
    refine' DL.zmM KX G ?a ?l ?c ?k
    (case a => k_is)
    (case l => k_is)
    (case c => k_is)
    (case k => k_is)
  have A__law_row : DL.DefAt (L2.KOf KX) mg "_law_row" Law.zc0 := by
    dsimp only [L2.KOf]
    refine' DL.zmM KX G ?a ?l ?c ?k
    (case a => k_is)
    (case l => k_is)
    (case c => k_is)
    (case k => k_is)
  have A__law_wishes : DL.DefAt (L2.KOf KX) mg "_law_wishes" Law.za7 := by
    dsimp only [L2.KOf]
    refine' DL.zmM KX G ?a ?l ?c ?k
    (case a => k_is)
    (case l => k_is)
    (case c => k_is)
    (case k => k_is)
  have A__law_list : DL.DefAt (L2.KOf KX) mg "_law_list" Law.zcB := by
    dsimp only [L2.KOf]
    refine' DL.zmM KX G ?a ?l ?c ?k
    (case a => k_is)
    (case l => k_is)
    (case c => k_is)
    (case k => k_is)
  have A__law_due : DL.DefAt (L2.KOf KX) mg "_law_due" Law.zc1 := by
    dsimp only [L2.KOf]
    refine' DL.zmM KX G ?a ?l ?c ?k
    (case a => k_is)
    (case l => k_is)
    (case c => k_is)
    (case k => k_is)
  have A_is_whole : DL.DefAt (L2.KOf KX) mg "is_whole" Law.zcY := by
    dsimp only [L2.KOf]
    refine' DL.zmM KX G ?a ?l ?c ?k
    (case a => k_is)
    (case l => k_is)
    (case c => k_is)
    (case k => k_is)
  have A_is_below : DL.DefAt (L2.KOf KX) mg "is_below" Law.zcZ := by
    dsimp only [L2.KOf]
    refine' DL.zmM KX G ?a ?l ?c ?k
    (case a => k_is)
    (case l => k_is)
    (case c => k_is)
    (case k => k_is)
  have A_first_wrong : DL.DefAt (L2.KOf KX) mg "first_wrong" Law.zbZ := by
    dsimp only [L2.KOf]
    refine' DL.zmM KX G ?a ?l ?c ?k
    (case a => k_is)
    (case l => k_is)
    (case c => k_is)
    (case k => k_is)
  have A_are_unlike : DL.DefAt (L2.KOf KX) mg "are_unlike" Law.zcf := by
    dsimp only [L2.KOf]
    refine' DL.zmM KX G ?a ?l ?c ?k
    (case a => k_is)
    (case l => k_is)
    (case c => k_is)
    (case k => k_is)
  have A_has_each_once : DL.DefAt (L2.KOf KX) mg "has_each_once" Law.zbH := by
    dsimp only [L2.KOf]
    refine' DL.zmM KX G ?a ?l ?c ?k
    (case a => k_is)
    (case l => k_is)
    (case c => k_is)
    (case k => k_is)
  have A_order_of : DL.DefAtD (L2.KOf KX) mg "order_of" Law.zb6 [Value.none] := by
    dsimp only [L2.KOf]
    refine' DL.zmD KX G ?a ?l ?t ?c ?k
    (case a => k_is)
    (case l => k_is)
    (case t => k_is)
    (case c => k_is)
    (case k => k_is)
  have A_order_of_x : DL.DefAtD (L2.KOf KX) mg "order_of" Law.zce [Value.none] := by
    dsimp only [L2.KOf]
    refine' DL.zmD KX G ?a ?l ?t ?c ?k
    (case a => k_is)
    (case l => k_is)
    (case t => k_is)
    (case c => k_is)
    (case k => k_is)
  have A__law_is_order : DL.DefAt (L2.KOf KX) mg "_law_is_order" Law.zaS := by
    dsimp only [L2.KOf]
    refine' DL.zmM KX G ?a ?l ?c ?k
    (case a => k_is)
    (case l => k_is)
    (case c => k_is)
    (case k => k_is)
  have A_likes : DL.DefAt (L2.KOf KX) mg "likes" Law.zeU := by
    dsimp only [L2.KOf]
    refine' DL.zmM KX G ?a ?l ?c ?k
    (case a => k_is)
    (case l => k_is)
    (case c => k_is)
    (case k => k_is)
  have A__law_liked : DL.DefAt (L2.KOf KX) mg "_law_liked" Law.zcg := by
    dsimp only [L2.KOf]
    refine' DL.zmM KX G ?a ?l ?c ?k
    (case a => k_is)
    (case l => k_is)
    (case c => k_is)
    (case k => k_is)
  have A_law : DL.DefAt (L2.KOf KX) mg "law" Law.zic := by
    dsimp only [L2.KOf]
    refine' DL.zmM KX G ?a ?l ?c ?k
    (case a => k_is)
    (case l => k_is)
    (case c => k_is)
    (case k => k_is)
  refine DL.zmJ hmg A_law (fun _ _ _ _ _ _ us hl => match us,hl with | [_],_ => rfl) fun f fd Fn base => ?_
  have C__law_cell := Law.zis (P := PySem.Challenge.rw_ringtrade_k03_orders_made.prog) (w := w) (base := base) T A__law_cell
  have C__law_row := Law.zjl (P := PySem.Challenge.rw_ringtrade_k03_orders_made.prog) (w := w) (base := base) T A__law_row
  have C__law_wishes := Law.zg3 (P := PySem.Challenge.rw_ringtrade_k03_orders_made.prog) (w := w) (base := base) T A__law_wishes C__law_cell C__law_row
  have C__law_list := Law.zir (P := PySem.Challenge.rw_ringtrade_k03_orders_made.prog) (w := w) (base := base) T A__law_list C__law_row
  have C__law_due := Law.zjm (P := PySem.Challenge.rw_ringtrade_k03_orders_made.prog) (w := w) (base := base) T A__law_due
  have C_is_whole := Law.zjj (P := PySem.Challenge.rw_ringtrade_k03_orders_made.prog) (w := w) (base := base) T A_is_whole
  have C_is_below := Law.zjk (P := PySem.Challenge.rw_ringtrade_k03_orders_made.prog) (w := w) (base := base) T A_is_below C_is_whole
  have C_first_wrong := Law.zg2 (P := PySem.Challenge.rw_ringtrade_k03_orders_made.prog) (w := w) (base := base) T A_first_wrong C_is_below
  have C_are_unlike := Law.zhx (P := PySem.Challenge.rw_ringtrade_k03_orders_made.prog) (w := w) (base := base) T A_are_unlike C_first_wrong
  have C_has_each_once := Law.zfG (P := PySem.Challenge.rw_ringtrade_k03_orders_made.prog) (w := w) (base := base) T A_has_each_once C_are_unlike
  have C_order_of := Law.zji (P := PySem.Challenge.rw_ringtrade_k03_orders_made.prog) (w := w) (base := base) T A_order_of C_has_each_once
  have C_order_of' := Law.ziq (P := PySem.Challenge.rw_ringtrade_k03_orders_made.prog) (w := w) (base := base) T A_order_of C_has_each_once
  have C_order_of_x := Law.zhw (P := PySem.Challenge.rw_ringtrade_k03_orders_made.prog) (w := w) (base := base) T A_order_of_x C_has_each_once C_first_wrong (xi_NoOrder base) xn_NoOrder
  have C__law_is_order := Law.zfH (P := PySem.Challenge.rw_ringtrade_k03_orders_made.prog) (w := w) (base := base) T A__law_is_order
  have C_likes := Law.zlV (P := PySem.Challenge.rw_ringtrade_k03_orders_made.prog) (w := w) (base := base) T A_likes
  have C__law_liked := Law.zhy (P := PySem.Challenge.rw_ringtrade_k03_orders_made.prog) (w := w) (base := base) T A__law_liked C_likes
  exact Law.zmI T Fn C__law_cell C__law_wishes C__law_list C__law_due C_order_of_x C__law_liked C_order_of C_order_of' C__law_is_order xa_NoOrder xb_NoOrder hk_NoOrder at_at xb_NoText xb_NoOwn it_NoText_NoOwn ix_ValueError xb_TradeError ix_TradeError
