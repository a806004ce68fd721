import PyProof.Rows.All
import Wide.All
import OpenK.AllK
import Wide.FinOn
import Lean
import PyProof.EqAt
import PyProof.EqKinds
import PyProof.TupleCall
import PyProof.Rows.SetFrom
import KE.KSortTup
import PyProof.Draws
import PyProof.EnumMake
import PyProof.ListRange
import PyProof.Rows.EnumRows
import PyProof.SetRoads
import PyProof.Rows.MinMaxN
import PyProof.Rows.MaxTwoN
import PyProof.ZipIter
import PySem.Challenge.RW_ringtrade_k04_texts_there_and_back
set_option Elab.async false
set_option linter.all false
set_option maxRecDepth 100000
set_option maxHeartbeats 4000000
section
namespace L2
open PySem PySem.Spec PyProof.Rows
noncomputable abbrev Key := Sum Int Str
noncomputable def zhb : Key→Value→Bool
  | .inl k,v => Value.isInt k v
  | .inr x,v => Value.isStrOf x v
noncomputable def keyH (w : World) : Key→Int
  | .inl k => hashInt k
  | .inr x => hashStr w x
theorem keyIs_shape : ∀ {k : Key} {v : Value},zhb k v = true→(∃ i t,k = Sum.inl i∧v = Value.int i t)∨(∃ x t,k = Sum.inr x∧v = Value.str x t)
  | .inl i,v,h => by
    obtain ⟨t,e⟩ := Value.isInt_shape (k := i) (v := v) h
    exact .inl ⟨i,t,rfl,e⟩
  | .inr x,v,h => by
    obtain ⟨t,e⟩ := Value.isStrOf_shape (x := x) (v := v) h
    exact .inr ⟨x,t,rfl,e⟩
theorem zie (i : Int) (t : Tok) : zhb (.inl i) (.int i t) = true := by simp [zhb,Value.isInt]
theorem zid (x : Str) (t : Tok) : zhb (.inr x) (.str x t) = true := by simp [zhb,Value.isStrOf]
theorem zmS (a b : Int) : decide ((Sum.inl a : Key) = Sum.inl b) = (a == b) := by
  by_cases e : a = b
  · subst e; simp
  · have h : ¬ (Sum.inl a : Key) = Sum.inl b := fun q => e (Sum.inl.inj q)
    rw [decide_eq_false h]
    exact (beq_eq_false_iff_ne.mpr e).symm
theorem zmP (a b : Str) : decide ((Sum.inr a : Key) = Sum.inr b) = decide (a = b) := by
  by_cases e : a = b
  · subst e; simp
  · have h : ¬ (Sum.inr a : Key) = Sum.inr b := fun q => e (Sum.inr.inj q)
    rw [decide_eq_false h,decide_eq_false e]
theorem zmR (a : Int) (b : Str) : decide ((Sum.inl a : Key) = Sum.inr b) = false := decide_eq_false (fun q => nomatch q)
theorem zmQ (a : Str) (b : Int) : decide ((Sum.inr a : Key) = Sum.inl b) = false := decide_eq_false (fun q => nomatch q)
noncomputable def za0 (prog : Program) (w : World) : PySem.KeyKind prog w Key where
  is := zhb
  hash := keyH w
  inj := fun v a b ha hb => by
    rcases keyIs_shape ha with ⟨i,t,rfl,rfl⟩ | ⟨x,t,rfl,rfl⟩
    · rcases keyIs_shape hb with ⟨j,u,rfl,e⟩ | ⟨y,u,rfl,e⟩
      · injection e with e1 _; rw [e1]
      · exact nomatch e
    · rcases keyIs_shape hb with ⟨j,u,rfl,e⟩ | ⟨y,u,rfl,e⟩
      · exact nomatch e
      · injection e with e1 _; rw [e1]
  byValue := fun k v h => by
    rcases keyIs_shape h with ⟨i,t,rfl,rfl⟩ | ⟨x,t,rfl,rfl⟩ <;> rfl
  pyHash := fun hv h => by
    rcases keyIs_shape hv with ⟨i,t,rfl,rfl⟩ | ⟨x,t,rfl,rfl⟩
    · exact wpAny_pyHash_int h
    · exact wpAny_pyHash_str h
  eqBool := fun hu hv h => by
    rcases keyIs_shape hu with ⟨i,t,rfl,rfl⟩ | ⟨x,t,rfl,rfl⟩
    · rcases keyIs_shape hv with ⟨j,u,rfl,rfl⟩ | ⟨y,u,rfl,rfl⟩
      · rw [zmS] at h; exact wpAny_eqBool_int h
      · rw [zmR] at h; exact SeqAt.EqAt.int_str i t y u _ _ _ _ h
    · rcases keyIs_shape hv with ⟨j,u,rfl,rfl⟩ | ⟨y,u,rfl,rfl⟩
      · rw [zmQ] at h; exact SeqAt.EqAt.str_int x t j u _ _ _ _ h
      · rw [zmP] at h; exact wpAny_eqBool_str h
  «strs» := fun k x t v h => by
    rcases keyIs_shape h with ⟨i,u,rfl,e⟩ | ⟨y,u,rfl,e⟩
    · exact nomatch e
    · injection e with e1 _
      subst e1
      cases v <;> rfl
theorem zf6 (prog : Program) (w : World) (i : Int) (t : Tok) : (za0 prog w).is (.inl i) (.int i t) = true := zie i t
theorem zf5 (prog : Program) (w : World) (x : Str) (t : Tok) : (za0 prog w).is (.inr x) (.str x t) = true := zid x t
end L2
namespace L2
open PySem PySem.Spec PyProof.Rows
inductive V where
  | non | bl (b : Bool) | int (i : Int) | str (x : Str) | byt (b : Array UInt8) | flt (b : UInt64) | ref (a : Addr) | ty (n : String)
  deriving DecidableEq
noncomputable def RelV : V→Value→Prop
  | .non,u => u = Value.none
  | .bl b,u => u = Value.bool b
  | .int i,u => ∃ t,u = Value.int i t
  | .str x,u => ∃ t,u = Value.str x t
  | .byt b,u => ∃ t,u = Value.bytes b t
  | .flt b,u => ∃ t,u = Value.float b t
  | .ref a,u => u = Value.ref a
  | .ty n,u => u = Value.type n
noncomputable abbrev Vals : List V→List Value→Prop := Paired RelV
theorem Vals.length {xs : List V} {us : List Value} (r : Vals xs us) : xs.length = us.length := Paired.length r
theorem Vals.get : ∀ {xs : List V} {us : List Value} {i : Nat} {x : V},Vals xs us→xs[i]? = some x→∃ u,us[i]? = some u∧RelV x u
  | _,_,_,_,.nil,e => by simp at e
  | _,_,0,_,.cons r _,e => by simp at e; subst e; exact ⟨_,rfl,r⟩
  | _,_,i + 1,x,.cons _ t,e => by
    obtain ⟨u,h1,h2⟩ := Vals.get (i := i) (x := x) t (by simpa using e)
    exact ⟨u,by simpa using h1,h2⟩
theorem Vals.set {x : V} {u : Value} (r : RelV x u) : ∀ {xs : List V} {us : List Value} (i : Nat),Vals xs us→Vals (xs.set i x) (us.set i u)
  | _,_,_,.nil => .nil
  | _,_,0,.cons _ t => .cons r t
  | _,_,i + 1,.cons q t => .cons q (Vals.set r i t)
theorem Vals.append {xs ys : List V} {us ws : List Value} (h : Vals xs us) (h' : Vals ys ws) : Vals (xs++ys) (us++ws) := by
  induction h with
  | nil => exact h'
  | cons r _ ih => exact .cons r ih
theorem Vals.take : ∀ {xs : List V} {us : List Value} (n : Nat),Vals xs us→Vals (xs.take n) (us.take n)
  | _,_,0,_ => .nil
  | _,_,_ + 1,.nil => .nil
  | _,_,n + 1,.cons r t => .cons r (Vals.take n t)
theorem Vals.drop : ∀ {xs : List V} {us : List Value} (n : Nat),Vals xs us→Vals (xs.drop n) (us.drop n)
  | _,_,0,r => r
  | _,_,_ + 1,.nil => .nil
  | _,_,n + 1,.cons _ t => Vals.drop n t
theorem Vals.none_of : ∀ {xs : List V} {us : List Value} {i : Nat},Vals xs us→xs[i]? = none→us[i]? = none := fun {xs us i} r e => by
  have h1 := r.length
  have h2 : xs.length≤i := List.getElem?_eq_none_iff.mp e
  exact List.getElem?_eq_none_iff.mpr (by omega)
noncomputable def RelO : Option V→Option Value→Prop
  | some v,some u => RelV v u
  | none,none => True
  | _,_ => False
noncomputable def KV {κ : Type} : List (κ × V)→List (κ × Value)→Prop := Paired fun (p : κ × V) (q : κ × Value) => p.1 = q.1∧RelV p.2 q.2
noncomputable def kV : Key→V
  | .inl i => .int i
  | .inr x => .str x
inductive HO where
  | lst (xs : List V)
  | tup (xs : List V)
  | dK (kvs : List (Key × V)) | dT (kvs : List (List Key × V))
  | set (S : Int→Bool) (n : Nat)
  | ins (C dx : Addr) (fs : List (Str × V))
  | own (x : Addr)
  | xd (fs : List (Str × V))
  | met (f x : Addr)
  | rng (lo hi : Int)
  | frz (o : Obj) (u : HO)
  | tbl (ps : Array Value)
  | ext (φ : Heap→Prop)
noncomputable abbrev Hp := Addr→Option HO
noncomputable def upd (H : Hp) (a : Addr) (o : HO) : Hp := fun b => if b = a then some o else H b
theorem zar {H : Hp} {a : Addr} {o : HO} : upd H a o a = some o := by unfold upd; rw [if_pos rfl]
theorem zam {H : Hp} {a b : Addr} {o : HO} (h : b≠a) : upd H a o b = H b := by unfold upd; rw [if_neg h]
theorem zn3 {H : Hp} {a b : Addr} {o u : HO} (h : H a = some o) (h' : H b = some u) (d : o≠u) : a≠b := by
  intro e; subst e; rw [h] at h'; exact d (Option.some.inj h')
theorem za6 {H : Hp} {a b : Addr} {o : HO} (h : H a = some o) (h' : H b = none) : a≠b := by
  intro e; subst e; rw [h] at h'; cases h'
section
variable (P : Program) (w : World)
noncomputable def zaW (H : Hp) (h : Heap) (a : Addr) : HO→Prop
  | .lst xs => xs.length≤sizeLine∧∃ (its : List Value) (n : Nat),Vals xs its∧h.get? a = some { cls := .type "list",data := .seq its.toArray n }
  | .tup xs => xs.length≤sizeLine∧∃ its : List Value,Vals xs its∧IsTup h a its.toArray∧∃ o,h.get? a = some o∧o.dict = none
  | .dK kvs => kvs.length≤sizeLine∧(a == sysModules) = false∧∃ vs,KV kvs vs∧h.DictOf (za0 P w) a vs
  | .dT kvs => kvs.length≤sizeLine∧(a == sysModules) = false∧∃ xs : List (List Key × Addr × Value),
      Paired (fun (p : List Key × V) (q : List Key × Addr × Value) => p.1 = q.1∧H q.2.1 = some (.tup (p.1.map kV))∧RelV p.2 q.2.2) kvs xs ∧
      ∃ o es ep,h.get? a = some o∧o.ExactDict∧o.data = .dict es ep∧es.toList = xs.map (entryOfKey (tupleKind (za0 P w)))∧(xs.map (·.1)).Nodup
  | .set S n => h.SetOf (intKind P w) a S n
  | .ins C dx fs => H dx = some (.own a)∧fs.length≤1000∧dx≠a∧h.get? a = some (PySem.W.instObj C dx) ∧
      ∃ mA,h.Ns1 dx mA∧(∀ f,RelO (fs.lookup f) (mA f))∧PySem.Within mA (fs.map (·.1))
  | .own _ => ∃ o,h.get? a = some o
  | .xd fs => ∃ mA,h.Ns1 a mA∧∀ f,RelO (fs.lookup f) (mA f)
  | .rng lo hi => ∃ t u v,h.get? a = some { cls := .type "range",data := .fields #[.int lo t,.int hi u,.int 1 v] }
  | .frz o u => h.get? a = some o∧zaW H h a u
  | .tbl ps => h.get? a = some { cls := .none,data := .fields ps }
  | .met f x => h.get? a = some (PySem.W.methodObj (.ref f) (.ref x))
  | .ext φ => φ h∧(∃ o,h.get? a = some o)∧∀ h1 h2 : Heap,φ h1→(∀ o,h1.get? a = some o→h2.get? a = some o)→φ h2
noncomputable def HOk (H : Hp) (h : Heap) : Prop := ∀ a o,H a = some o→zaW P w H h a o
end
section
variable {P : Program} {w : World} {H H' : Hp} {h h' : Heap} {a : Addr} {o : HO}
theorem zaW.lt (x : zaW P w H h a o) : a < h.objs.size := by
  cases o with
  | lst xs => obtain ⟨_,_,_,_,e⟩ := x; exact Heap.lt_size e
  | tup xs => obtain ⟨_,_,_,p,_⟩ := x; exact p.lt
  | dK kvs => obtain ⟨_,_,_,_,o,_,_,e,_⟩ := x; exact Heap.lt_size e
  | dT kvs => obtain ⟨_,_,_,_,o,_,_,e,_⟩ := x; exact Heap.lt_size e
  | set S n => obtain ⟨o,_,_,_,e,_⟩ := x; exact Heap.lt_size e
  | ins C dx fs => obtain ⟨_,_,_,e,_⟩ := x; exact Heap.lt_size e
  | own y => obtain ⟨_,e⟩ := x; exact Heap.lt_size e
  | xd fs => obtain ⟨_,⟨_,_,_,e,_⟩,_⟩ := x; exact Heap.lt_size e
  | rng lo hi => obtain ⟨_,_,_,e⟩ := x; exact Heap.lt_size e
  | frz ob u => obtain ⟨e,_⟩ := x; exact Heap.lt_size e
  | tbl ps => exact Heap.lt_size (show h.get? a = some _ from x)
  | met f y => exact Heap.lt_size (show h.get? a = some _ from x)
  | ext φ => obtain ⟨_,⟨_,e⟩,_⟩ := x; exact Heap.lt_size e
theorem Paired.mapP {α β : Type} {F G : α→β→Prop} {l₁ : List α} {l₂ : List β} (h : Paired F l₁ l₂) (f : ∀ a b,F a b→G a b) : Paired G l₁ l₂ := by
  induction h with
  | nil => exact .nil
  | cons r _ ih => exact .cons (f _ _ r) ih
theorem zaW.stay (x : zaW P w H h a o) (k : ∀ b u,(b = a∨H b = some (.own a))→h.get? b = some u→h'.get? b = some u)
    (ho : ∀ b,H b = some (.own a)→H' b = some (.own a)) (ht : ∀ b xs,H b = some (.tup xs)→H' b = some (.tup xs)) : zaW P w H' h' a o := by
  induction o with
  | lst xs => obtain ⟨z,its,n,r,e⟩ := x; exact ⟨z,its,n,r,k _ _ (.inl rfl) e⟩
  | tup xs => obtain ⟨z,its,r,⟨ob,e,c⟩,ob2,e2,c2⟩ := x; exact ⟨z,its,r,⟨ob,k _ _ (.inl rfl) e,c⟩,ob2,k _ _ (.inl rfl) e2,c2⟩
  | dK kvs => obtain ⟨z,y,vs,r,ob,es,ep,e,c⟩ := x; exact ⟨z,y,vs,r,ob,es,ep,k _ _ (.inl rfl) e,c⟩
  | dT kvs =>
    obtain ⟨z,y,xs,r,ob,es,ep,e,c⟩ := x
    exact ⟨z,y,xs,Paired.mapP r fun p q z => ⟨z.1,ht _ _ z.2.1,z.2.2⟩,ob,es,ep,k _ _ (.inl rfl) e,c⟩
  | set S n => obtain ⟨ob,es,ep,t,e,c⟩ := x; exact ⟨ob,es,ep,t,k _ _ (.inl rfl) e,c⟩
  | ins C dx fs =>
    obtain ⟨d,z,ne,e,mA,⟨od,es,ep,e2,c⟩,r⟩ := x
    exact ⟨ho _ d,z,ne,k _ _ (.inl rfl) e,mA,⟨od,es,ep,k _ _ (.inr d) e2,c⟩,r⟩
  | own y => obtain ⟨ob,e⟩ := x; exact ⟨ob,k _ _ (.inl rfl) e⟩
  | xd fs => obtain ⟨mA,⟨od,es,ep,e,c⟩,r⟩ := x; exact ⟨mA,⟨od,es,ep,k _ _ (.inl rfl) e,c⟩,r⟩
  | rng lo hi => obtain ⟨t,u,v,e⟩ := x; exact ⟨t,u,v,k _ _ (.inl rfl) e⟩
  | frz ob u ih => obtain ⟨e,q⟩ := x; exact ⟨k _ _ (.inl rfl) e,ih q⟩
  | tbl ps =>
    have e : h.get? a = some { cls := .none,data := .fields ps } := x
    show h'.get? a = some { cls := .none,data := .fields ps }
    exact k a _ (.inl rfl) e
  | met f y =>
    have e : h.get? a = some (PySem.W.methodObj (.ref f) (.ref y)) := x
    show h'.get? a = some (PySem.W.methodObj (.ref f) (.ref y))
    exact k a _ (.inl rfl) e
  | ext φ => obtain ⟨p,⟨o,e⟩,st⟩ := x; exact ⟨st _ _ p fun o q => k _ _ (.inl rfl) q,⟨o,k _ _ (.inl rfl) e⟩,st⟩
theorem HOk.lt (x : HOk P w H h) (e : H a = some o) : a < h.objs.size := (x a o e).lt
theorem HOk.fresh (x : HOk P w H h) (e : h.objs.size≤a) : H a = none := by
  cases q : H a with
  | none => rfl
  | some u => exact absurd (Nat.lt_of_lt_of_le (x.lt q) e) (Nat.lt_irrefl _)
theorem HOk.kept (x : HOk P w H h) (k : ∀ b u,h.get? b = some u→h'.get? b = some u) : HOk P w H h' := fun a o e =>
  (x a o e).stay (fun b u _ q => k b u q) (fun _ q => q) fun _ _ q => q
theorem HOk.laid (x : HOk P w H h) (k : ∀ b u,h.get? b = some u→h'.get? b = some u) (hp : h.objs.size≤a) (new : zaW P w (upd H a o) h' a o) : HOk P w (upd H a o) h' := fun b u e => by
  have hn := x.fresh hp
  by_cases hb : b = a
  · subst hb; rw [zar] at e; cases e; exact new
  · rw [zam hb] at e
    exact (x b u e).stay (fun c v _ q => k c v q) (fun c q => by rw [zam (za6 q hn)]; exact q) fun c xs q => by rw [zam (za6 q hn)]; exact q
end
noncomputable def Rd (H : Hp) (a : Addr) (u : HO) : Prop := H a = some u∨∃ o,H a = some (.frz o u)
theorem Rd.of {H : Hp} {a : Addr} {u : HO} (h : H a = some u) : Rd H a u := .inl h
theorem Rd.ok {P : Program} {w : World} {H : Hp} {h : Heap} {a : Addr} {u : HO} (r : Rd H a u) (x : HOk P w H h) : zaW P w H h a u := by
  rcases r with r | ⟨o,r⟩
  · exact x a u r
  · obtain ⟨_,q⟩ := x a _ r
    exact q
noncomputable def Mut : Option HO→Prop
  | some (.lst _) => True
  | some (.dK _) => True
  | some (.dT _) => True
  | some (.set _ _) => True
  | some (.ins _ _ _) => True
  | some (.ext _) => True
  | _ => False
section
variable {P : Program} {w : World} {H : Hp} {h h' : Heap} {x e : Addr} {o' : HO}
theorem HOk.write (ok : HOk P w H h) (mu : Mut (H x)) (he : e = x∨H e = some (.own x)) (k : ∀ b u,b≠e→h.get? b = some u→h'.get? b = some u) (heo : ∃ u,h'.get? e = some u)
    (new : zaW P w (upd H x o') h' x o') : HOk P w (upd H x o') h' := fun b u q => by
  have nown : ∀ c y,H c = some (.own y)→c≠x := fun c y r z => by subst z; rw [r] at mu; exact mu
  have ntup : ∀ c xs,H c = some (.tup xs)→c≠x := fun c xs r z => by subst z; rw [r] at mu; exact mu
  by_cases hb : b = x
  · subst hb; rw [zar] at q; cases q; exact new
  · rw [zam hb] at q
    by_cases hbe : b = e
    · have q' : H b = some (.own x) := by
        rcases he with z | z
        · exact absurd (hbe.trans z) hb
        · rw [hbe]; exact z
      rw [q] at q'; cases q'
      obtain ⟨v,hv⟩ := heo
      exact ⟨v,by rw [hbe]; exact hv⟩
    · refine (ok b u q).stay (fun c v hc r => k c v ?_ r) (fun c r => by rw [zam (nown c b r)]; exact r) fun c xs r => by rw [zam (ntup c xs r)]; exact r
      rcases hc with rfl | hc
      · exact hbe
      · rintro rfl
        rcases he with z | z
        · exact nown c b hc z
        · rw [hc] at z; cases z; exact hb rfl
end
structure Un (fs ex : List Addr) (H H' : Hp) (h h' : Heap) : Prop where
  keep : ∀ b o,h.get? b = some o→H b = none→b∉fs→b∉ex→h'.get? b = some o
  slot : ∀ b o,h.get? b = some o→H b = none→b∈fs→b∉ex→∃ sl,h'.get? b = some { o with slots := sl }
  free : ∀ b o,h.get? b = some o→H b = none→b∉ex→H' b = none
  there : ∀ b o,h.get? b = some o→b∉ex→∃ o',h'.get? b = some o'
  tups : ∀ b xs,H b = some (.tup xs)→H' b = some (.tup xs)
  frzs : ∀ b o u,H b = some (.frz o u)→H' b = some (.frz o u)
  tbls : ∀ b ps,H b = some (.tbl ps)→∃ more,H' b = some (.tbl (ps++more))
section
variable {fs fs' ex ex' : List Addr} {H H1 H2 : Hp} {h h1 h2 h' : Heap} {a x e : Addr} {o : HO}
theorem Un.any (u : Un fs ex H H1 h h1) {b : Addr} {ob : Obj} (q : h.get? b = some ob) (n : H b = none) (hx : b∉ex) : ∃ sl,h1.get? b = some { ob with slots := sl } := by
  by_cases hb : b∈fs
  · exact u.slot b ob q n hb hx
  · exact ⟨ob.slots,u.keep b ob q n hb hx⟩
theorem Un.trans (a : Un fs ex H H1 h h1) (b : Un fs ex H1 H2 h1 h2) : Un fs ex H H2 h h2 where
  keep := fun c ob q n hc hx => b.keep c ob (a.keep c ob q n hc hx) (a.free c ob q n hx) hc hx
  slot := fun c ob q n hc hx => by
    obtain ⟨sl,e1⟩ := a.slot c ob q n hc hx
    obtain ⟨sl',e2⟩ := b.slot c _ e1 (a.free c ob q n hx) hc hx
    exact ⟨sl',e2⟩
  free := fun c ob q n hx => by
    obtain ⟨o',e1⟩ := a.there c ob q hx
    exact b.free c o' e1 (a.free c ob q n hx) hx
  there := fun c ob q hx => by
    obtain ⟨o',e1⟩ := a.there c ob q hx
    exact b.there c o' e1 hx
  tups := fun c xs q => b.tups c xs (a.tups c xs q)
  frzs := fun c ob xs q => b.frzs c ob xs (a.frzs c ob xs q)
  tbls := fun c ps q => by
    obtain ⟨m1,e1⟩ := a.tbls c ps q
    obtain ⟨m2,e2⟩ := b.tbls c _ e1
    exact ⟨m1++m2,by rw [e2,Array.append_assoc]⟩
theorem Un.kept (k : ∀ b u,h.get? b = some u→h'.get? b = some u) : Un fs ex H H h h' :=
  ⟨fun b ob q _ _ _ => k b ob q,fun b ob q _ _ _ => ⟨ob.slots,k b ob q⟩,fun _ _ _ n _ => n,fun b ob q _ => ⟨ob,k b ob q⟩,fun _ _ q => q,fun _ _ _ q => q,fun _ ps q => ⟨#[],by rw [q]; simp⟩⟩
theorem Un.refl : Un fs ex H H h h := Un.kept fun _ _ q => q
theorem Un.laid (k : ∀ b u,h.get? b = some u→h'.get? b = some u) (hp : h.objs.size≤a) (hn : H a = none) : Un fs ex H (upd H a o) h h' where
  keep := fun b u q _ _ _ => k b u q
  slot := fun b u q _ _ _ => ⟨u.slots,k b u q⟩
  free := fun b u q n _ => by rw [zam (Nat.ne_of_lt (Nat.lt_of_lt_of_le (Heap.lt_size q) hp))]; exact n
  there := fun b u q _ => ⟨u,k b u q⟩
  tups := fun b xs q => by rw [zam (za6 q hn)]; exact q
  frzs := fun b u xs q => by rw [zam (za6 q hn)]; exact q
  tbls := fun b ps q => ⟨#[],by rw [zam (za6 q hn),q]; simp⟩
theorem Un.write (mu : Mut (H x)) (he : e = x∨H e = some (.own x)) (k : ∀ b u,b≠e→h.get? b = some u→h'.get? b = some u) (heo : ∃ u,h'.get? e = some u) : Un fs ex H (upd H x o) h h' := by
  have hx : ∀ b,H b = none→b≠x := fun b n z => by subst z; rw [n] at mu; exact mu
  have hb : ∀ b,H b = none→b≠e := fun b n z => by
    subst z
    rcases he with r | r
    · exact hx b n r
    · rw [n] at r; cases r
  have hm : ∀ b u,H b = some u→¬ Mut (some u)→b≠x := fun b u q nm z => by subst z; rw [q] at mu; exact nm mu
  refine ⟨fun b u q n _ _ => k b u (hb b n) q,fun b u q n _ _ => ⟨u.slots,k b u (hb b n) q⟩,fun b u q n _ => by rw [zam (hx b n)]; exact n,fun b u q _ => ?_,
    fun b xs q => by rw [zam (hm b _ q fun z => z)]; exact q,fun b u xs q => by rw [zam (hm b _ q fun z => z)]; exact q,fun b ps q => ⟨#[],by rw [zam (hm b _ q fun z => z),q]; simp⟩⟩
  by_cases hbe : b = e
  · subst hbe; exact heo
  · exact ⟨u,k b u hbe q⟩
theorem Un.mono (u : Un fs ex H H1 h h1) (hs : ∀ b∈fs,b∈fs') (hx : ∀ b∈ex,b∈ex') : Un fs' ex' H H1 h h1 :=
  ⟨fun b ob q n hb he => u.keep b ob q n (fun z => hb (hs b z)) fun z => he (hx b z),fun _ _ q n _ he => u.any q n fun z => he (hx _ z),fun b ob q n he => u.free b ob q n fun z => he (hx b z),fun b ob q he => u.there b ob q fun z => he (hx b z),u.tups,u.frzs,u.tbls⟩
end
noncomputable def trk (h : Heap) (H : Hp) : List Addr := (List.range h.objs.size).filter fun a => (H a).isSome
noncomputable def hidT (h : Heap) (H : Hp) : Heap := PySem.W.hideAll h (trk h H)
theorem zio (h : Heap) (H : Hp) : (hidT h H).objs.size = h.objs.size := PySem.W.hideAll_size _ _
theorem zjq {h : Heap} {H : Hp} {b : Addr} {o : Obj} (e : h.get? b = some o) (n : H b = none) : (hidT h H).get? b = some o :=
  PySem.W.hideAll_get _ e fun hm => by
    have q : (H b).isSome = true := (List.mem_filter.mp hm).2
    rw [n] at q; simp at q
theorem zkZ {h : Heap} {H : Hp} {b : Addr} {o : Obj} (e : (hidT h H).get? b = some o) : h.get? b = some o∧H b = none := by
  have e' : h.get? b = some o := PySem.W.of_hideAll (trk h H) e
  refine ⟨e',?_⟩
  cases q : H b with
  | none => rfl
  | some x =>
    have hm : b∈trk h H := List.mem_filter.mpr ⟨List.mem_range.mpr (Heap.lt_size e'),by simp [q]⟩
    have z : (hidT h H).get? b = none := PySem.W.hideAll_none (trk h H) hm
    rw [z] at e; cases e
noncomputable def zlo (g h : Heap) (L : Addr) : List (Addr × Obj) := (List.range h.objs.size).filterMap fun a => if a = L∨(g.get? a).isSome = true then none else (h.get? a).map fun o => (a,o)
noncomputable def rest (g h : Heap) (L d : Addr) : List (Addr × Obj) := (zlo g h L).filter fun p => decide (p.1≠d)
end L2
namespace L2
open PySem PySem.Spec PyProof.Rows
structure Mod (K : PySem.W.Frag) (mg : Str→Option Value) (base : Heap) : Prop where
  kin : K.In base
  glob : base.Ns mainGlobals mg
  blt : ∃ mb,base.Ns builtinsNs mb∧∀ x : Str,x≠"__name__"→mb x = bootBuiltins x
  nolimit : base.NoLimit
structure Cx where
  prog : Program
  w : World
  K : PySem.W.Frag
  mg : Str→Option Value
  base : Heap
  A : Around
  N : List Str
  s₀ : Shared
  H₀ : Hp
  env : Env
  outer : List Env
  stack : List Env
  ex : List Addr
  fn : Str→Bool
  calm : Bool
  pn : List (Addr × Obj)
  xe : Value→Shared→Prop
noncomputable def frs (l : List Env) : List Addr := l.filterMap (·.frame)
noncomputable abbrev Cx.fs (X : Cx) : List Addr := frs X.outer
noncomputable def Vis (sc : Scope) (x : Str) : Prop := sc.names.lookup x = some .local∨sc.names.lookup x = some .cell∨sc.names.lookup x = some .free
noncomputable def Loc (sc : Scope) (x : Str) : Prop := sc.names.lookup x = some .local∨sc.names.lookup x = some .cell
noncomputable def Look (env : Env) (h : Heap) (m : Str→Option Value) (x : Str) (u : Value) : Prop :=
  (env.kindOf x = some .local∧m x = some u)∨((env.kindOf x = some .cell∨env.kindOf x = some .free)∧∃ c,env.cells.lookup x = some c∧h.IsCell c (some u))
structure Cx.Ok (X : Cx) : Prop where
  mod : Mod X.K X.mg X.base
  kind : X.env.scope.kind = .function
  glob : X.env.globals = mainGlobals
  blt : X.env.builtins = builtinsNs
  above : X.s₀.heap.objs.size≤X.env.locals
  inj : ∀ x y c,X.env.cells.lookup x = some c→X.env.cells.lookup y = some c→x = y
  has : ∀ x,(X.env.kindOf x = some .cell∨X.env.kindOf x = some .free)→∃ c,X.env.cells.lookup x = some c
  cab : ∀ x c,X.fn x = true→X.env.cells.lookup x = some c→X.s₀.heap.objs.size≤c
  hd : X.calm = true→X.A.handled = none
  frames : X.A.frames = some X.stack
  stk : X.stack = X.outer∨(X.stack = X.env::X.outer∧X.env.frame = some X.env.locals)
  exf : ∀ b∈X.ex,b≠X.env.locals∧∀ x c,X.env.cells.lookup x = some c→c≠b
  bs : ∀ b o,X.base.get? b = some o→X.s₀.heap.get? b = some o∧X.H₀ b = none
  bsz : X.base.objs.size≤X.s₀.heap.objs.size
  noex : ∀ b o,X.base.get? b = some o→b∉X.ex
  exfs : ∀ b∈X.ex,b∉X.fs
  funs : X.s₀.heap.FunFrames X.base X.outer
  frf : ∀ b∈X.fs,X.H₀ b = none
structure Inv (X : Cx) (pins : List (Addr × Obj)) (σ : List (Option V)) (H : Hp) (s : Shared) : Prop where
  ok : X.Ok
  os : s.os = X.s₀.os
  bare : AllBare s.gens
  base : Un X.fs X.ex X.H₀ H X.s₀.heap s.heap
  loc : ∃ m,s.heap.Ns X.env.locals m∧∀ (i : Nat) (x : Str) (v : V),X.N[i]? = some x→σ[i]? = some (some v)→Vis X.env.scope x→∃ u,RelV v u∧Look X.env s.heap m x u
  cell : ∀ x c,X.env.cells.lookup x = some c→∃ v,s.heap.IsCell c v
  free : H X.env.locals = none
  freeC : ∀ x c,X.env.cells.lookup x = some c→H c = none
  pin : ∀ p∈X.pn++pins,s.heap.get? p.1 = some p.2∧H p.1 = none∧p.1≠X.env.locals∧p.1∉X.fs∧∀ v,p.2.data≠.cell v
  hok : HOk X.prog X.w H s.heap
  len : σ.length = X.N.length
section
variable {X : Cx} {pins : List (Addr × Obj)} {σ : List (Option V)} {H H' : Hp} {s : Shared} {h' : Heap}
theorem Cx.Ok.nofr (ok : X.Ok) {b : Addr} {o : Obj} (e : X.base.get? b = some o) : b∉X.fs := fun hb => by
  have := (ok.funs.mem hb).1
  rw [e] at this; cases this
theorem Inv.bs (I : Inv X pins σ H s) : ∀ b o,X.base.get? b = some o→s.heap.get? b = some o∧H b = none := fun b o e =>
  ⟨I.base.keep b o (I.ok.bs b o e).1 (I.ok.bs b o e).2 (I.ok.nofr e) (I.ok.noex b o e),I.base.free b o (I.ok.bs b o e).1 (I.ok.bs b o e).2 (I.ok.noex b o e)⟩
theorem Inv.bk (I : Inv X pins σ H s) : ∀ b o,X.base.get? b = some o→s.heap.get? b = some o := fun b o e => (I.bs b o e).1
theorem Inv.mod (I : Inv X pins σ H s) : Mod X.K X.mg X.base := I.ok.mod
theorem Inv.kIn (I : Inv X pins σ H s) : X.K.In s.heap := I.ok.mod.kin.keeps I.bk
theorem Inv.nolimit (I : Inv X pins σ H s) : s.heap.NoLimit := I.ok.mod.nolimit.keeps I.bk
theorem Inv.fr (I : Inv X pins σ H s) : ∃ m,Fr X.base X.env.locals s.heap m :=
  let ⟨m,hn,_⟩ := I.loc
  ⟨m,hn,I.bk,Nat.le_trans I.ok.bsz I.ok.above⟩
theorem Inv.lt (I : Inv X pins σ H s) : X.env.locals < s.heap.objs.size := let ⟨_,hn,_⟩ := I.loc; hn.lt
theorem Inv.sz (I : Inv X pins σ H s) : X.s₀.heap.objs.size≤s.heap.objs.size := Nat.le_trans I.ok.above (Nat.le_of_lt I.lt)
theorem Inv.nofs (I : Inv X pins σ H s) {a : Addr} (h : s.heap.objs.size≤a) : a∉X.fs := fun hb => by
  obtain ⟨_,o,ho,_⟩ := I.ok.funs.mem hb
  exact absurd (Nat.lt_of_lt_of_le (Heap.lt_size ho) (Nat.le_trans I.sz h)) (Nat.lt_irrefl _)
theorem Inv.cne (I : Inv X pins σ H s) : ∀ x c,X.env.cells.lookup x = some c→c≠X.env.locals := fun x c e z => by
  obtain ⟨v,o,ho,hd⟩ := I.cell x c e
  obtain ⟨m,⟨o',es,ep,ho',hd',_⟩,_⟩ := I.loc
  rw [z,ho'] at ho; cases ho; rw [hd'] at hd; cases hd
theorem Inv.funs (I : Inv X pins σ H s) : s.heap.FunFrames X.base X.outer := by
  have all : ∀ (l : List Env),(∀ b∈frs l,b∈X.fs)→X.s₀.heap.FunFrames X.base l→s.heap.FunFrames X.base l := by
    intro l
    induction l with
    | nil => intro _ _; trivial
    | cons env r ih =>
      intro hs hl
      obtain ⟨hk,⟨L,o,hf,hn,ho,hd⟩,hr⟩ := hl
      have hL : L∈X.fs := hs L (by unfold frs; rw [List.filterMap_cons,hf]; exact List.mem_cons_self)
      obtain ⟨sl,e⟩ := I.base.slot L o ho (I.ok.frf L hL) hL fun z => I.ok.exfs L z hL
      exact ⟨hk,⟨L,_,hf,hn,e,hd⟩,ih (fun b hb => hs b (by unfold frs; rw [List.filterMap_cons,hf]; exact List.mem_cons_of_mem _ hb)) hr⟩
  exact all X.outer (fun _ hb => hb) I.ok.funs
theorem Inv.stack (I : Inv X pins σ H s) : s.heap.FunFrames X.base X.stack := by
  rcases I.ok.stk with e | ⟨e,hf⟩
  · rw [e]; exact I.funs
  · rw [e]
    obtain ⟨m,hn,_⟩ := I.loc
    refine .cons (by rw [I.ok.kind]; decide) hf hn ?_ I.funs
    exact Heap.get?_none_of_le (Nat.le_trans I.ok.bsz I.ok.above)
theorem Inv.stkSub (I : Inv X pins σ H s) : ∀ b∈frs X.stack,b∈X.env.locals::X.fs := fun b hb => by
  rcases I.ok.stk with e | ⟨e,hf⟩
  · rw [e] at hb; exact List.mem_cons_of_mem _ hb
  · rw [e] at hb
    unfold frs at hb
    rw [List.filterMap_cons,hf] at hb
    exact hb
theorem Inv.stkFree (I : Inv X pins σ H s) : ∀ b∈frs X.stack,H b = none := fun b hb => by
  rcases List.mem_cons.mp (I.stkSub b hb) with e | hb
  · rw [e]; exact I.free
  · obtain ⟨_,o,ho,_⟩ := I.ok.funs.mem hb
    exact I.base.free b o ho (I.ok.frf b hb) fun z => I.ok.exfs b z hb
theorem Inv.step {g' : Array GenState} {t' : Nat} {d' : Drawn} {ch : List Addr} (I : Inv X pins σ H s)
    (hch : ∀ b∈ch,(b∈X.ex∨X.s₀.heap.objs.size≤b)∧b≠X.env.locals∧(∀ x c,X.env.cells.lookup x = some c→c≠b)∧∀ p∈X.pn++pins,p.1≠b)
    (keep : ∀ b o,b≠X.env.locals→b∉X.fs→b∉ch→s.heap.get? b = some o→H b = none→h'.get? b = some o)
    (slot : ∀ b o,b≠X.env.locals→b∈X.fs→b∉ch→s.heap.get? b = some o→H b = none→∃ sl,h'.get? b = some { o with slots := sl }) (free : ∀ b o,b∉ch→s.heap.get? b = some o→H b = none→H' b = none)
    (there : ∀ b o,b∉ch→s.heap.get? b = some o→∃ o',h'.get? b = some o')
    (tups : ∀ b xs,H b = some (.tup xs)→H' b = some (.tup xs)) (frzs : ∀ b o u,H b = some (.frz o u)→H' b = some (.frz o u)) (tbls : ∀ b ps,H b = some (.tbl ps)→∃ more,H' b = some (.tbl (ps++more)))
    (ns : ∀ m,s.heap.Ns X.env.locals m→h'.Ns X.env.locals m) (hok : HOk X.prog X.w H' h') (hg : AllBare g') :
    Inv X pins σ H' { s with heap := h',gens := g',drawn := d',toks := t' } := by
  have neL : ∀ b o,X.s₀.heap.get? b = some o→b≠X.env.locals := fun b o e => Nat.ne_of_lt (Nat.lt_of_lt_of_le (Heap.lt_size e) I.ok.above)
  have neC : ∀ b o,X.s₀.heap.get? b = some o→b∉X.ex→b∉ch := fun b o e hx hb => by
    rcases (hch b hb).1 with z | z
    · exact hx z
    · exact absurd (Nat.lt_of_lt_of_le (Heap.lt_size e) z) (Nat.lt_irrefl _)
  have cellK : ∀ x c,X.env.cells.lookup x = some c→∀ v,s.heap.IsCell c v→h'.IsCell c v := fun x c e v ⟨o,ho,hd⟩ => by
    have nch : c∉ch := fun z => (hch c z).2.2.1 x c e rfl
    by_cases hc : c∈X.fs
    · obtain ⟨sl,q⟩ := slot c o (I.cne x c e) hc nch ho (I.freeC x c e)
      exact ⟨_,q,hd⟩
    · exact ⟨o,keep c o (I.cne x c e) hc nch ho (I.freeC x c e),hd⟩
  refine ⟨I.ok,I.os,hg,⟨fun b o e n hb hx => ?_,fun b o e n hb hx => ?_,fun b o e n hx => ?_,fun b o e hx => ?_,fun b xs e => tups b xs (I.base.tups b xs e),fun b o xs e => frzs b o xs (I.base.frzs b o xs e),fun b ps e => ?_⟩,?_,fun x c e => ?_,?_,fun x c e => ?_,fun p hp => ?_,hok,I.len⟩
  · exact keep b o (neL b o e) hb (neC b o e hx) (I.base.keep b o e n hb hx) (I.base.free b o e n hx)
  · obtain ⟨sl,e1⟩ := I.base.slot b o e n hb hx
    obtain ⟨sl',e2⟩ := slot b _ (neL b o e) hb (neC b o e hx) e1 (I.base.free b o e n hx)
    exact ⟨sl',e2⟩
  · obtain ⟨o',e1⟩ := I.base.there b o e hx
    exact free b o' (neC b o e hx) e1 (I.base.free b o e n hx)
  · obtain ⟨o',e1⟩ := I.base.there b o e hx
    exact there b o' (neC b o e hx) e1
  · obtain ⟨m1,e1⟩ := I.base.tbls b ps e
    obtain ⟨m2,e2⟩ := tbls b _ e1
    exact ⟨m1++m2,by rw [e2,Array.append_assoc]⟩
  · obtain ⟨m,hn,hl⟩ := I.loc
    refine ⟨m,ns m hn,fun i x v e1 e2 e3 => ?_⟩
    obtain ⟨u,r,l⟩ := hl i x v e1 e2 e3
    refine ⟨u,r,?_⟩
    rcases l with l | ⟨k,c,e,z⟩
    · exact .inl l
    · exact .inr ⟨k,c,e,cellK x c e _ z⟩
  · obtain ⟨v,z⟩ := I.cell x c e
    exact ⟨v,cellK x c e v z⟩
  · obtain ⟨m,⟨o,_,_,ho,_⟩,_⟩ := I.loc
    exact free _ o (fun z => (hch _ z).2.1 rfl) ho I.free
  · obtain ⟨v,o,ho,hd⟩ := I.cell x c e
    exact free c o (fun z => (hch c z).2.2.1 x c e rfl) ho (I.freeC x c e)
  · obtain ⟨e,n,ne,nf,d⟩ := I.pin p hp
    have nch : p.1∉ch := fun z => (hch p.1 z).2.2.2 p hp rfl
    exact ⟨keep p.1 p.2 ne nf nch e n,free p.1 p.2 nch e n,ne,nf,d⟩
theorem Inv.un {t' : Nat} (I : Inv X pins σ H s) (u : Un X.fs [] H H' s.heap h') (hok : HOk X.prog X.w H' h') : Inv X pins σ H' { s with heap := h',toks := t' } := by
  obtain ⟨m,⟨o,es,ep,ho,r⟩,_⟩ := id I.loc
  obtain ⟨sl,hL⟩ := u.any ho I.free (by simp)
  exact I.step (g' := s.gens) (d' := s.drawn) (ch := []) (fun _ z => nomatch z) (fun b o _ hb _ e n => u.keep b o e n hb (by simp)) (fun b o _ hb _ e n => u.slot b o e n hb (by simp)) (fun b o _ e n => u.free b o e n (by simp)) (fun b o _ e => u.there b o e (by simp)) u.tups u.frzs u.tbls (fun m' hm => by
    obtain ⟨o',es',ep',ho',r'⟩ := hm
    rw [ho] at ho'; cases ho'
    exact ⟨_,es',ep',hL,r'⟩) hok I.bare
theorem Inv.call {g' : Array GenState} {t' : Nat} {d' : Drawn} {ch : List Addr} (I : Inv X pins σ H s) (u : Un (frs X.stack) ch H H' s.heap h') (hok : HOk X.prog X.w H' h') (hg : AllBare g')
    (hch : ∀ b∈ch,(b∈X.ex∨X.s₀.heap.objs.size≤b)∧b≠X.env.locals∧(∀ x c,X.env.cells.lookup x = some c→c≠b)∧∀ p∈X.pn++pins,p.1≠b) :
    Inv X pins σ H' { s with heap := h',gens := g',drawn := d',toks := t' } := by
  obtain ⟨m,⟨o,es,ep,ho,r⟩,_⟩ := id I.loc
  obtain ⟨sl,hL⟩ := u.any ho I.free fun z => (hch _ z).2.1 rfl
  exact I.step (ch := ch) hch (fun b o hL hb hc e n => u.keep b o e n (fun z => (List.mem_cons.mp (I.stkSub b z)).elim hL hb) hc) (fun b o _ _ hc e n => u.any e n hc) (fun b o hc e n => u.free b o e n hc) (fun b o hc e => u.there b o e hc) u.tups u.frzs u.tbls (fun m' hm => by
    obtain ⟨o',es',ep',ho',r'⟩ := hm
    rw [ho] at ho'; cases ho'
    exact ⟨_,es',ep',hL,r'⟩) hok hg
theorem Inv.turned {t' : Nat} {it : Addr} (I : Inv X pins σ H s) (k : ∀ b o,b≠it→s.heap.get? b = some o→h'.get? b = some o) (hn : H it = none) (hL : it≠X.env.locals)
    (h1 : it∈X.ex∨X.s₀.heap.objs.size≤it) (h2 : ∀ x c,X.env.cells.lookup x = some c→c≠it) (h3 : ∀ p∈X.pn++pins,p.1≠it) : Inv X pins σ H { s with heap := h',toks := t' } := by
  have nit : ∀ b u,H b = some u→b≠it := fun b u e z => by rw [z,hn] at e; cases e
  refine I.step (g' := s.gens) (d' := s.drawn) (ch := [it]) (fun b hb => ?_) (fun b o _ _ hc e _ => k b o (fun z => hc (by simp [z])) e) (fun b o _ _ hc e _ => ⟨o.slots,k b o (fun z => hc (by simp [z])) e⟩) (fun _ _ _ _ n => n)
    (fun b o hc e => ⟨o,k b o (fun z => hc (by simp [z])) e⟩) (fun _ _ e => e) (fun _ _ _ e => e) (fun b ps e => ⟨#[],by rw [e]; simp⟩) (fun m hm => ?_) (fun b u e => ?_) I.bare
  · have e : b = it := by simpa using hb
    subst e
    exact ⟨h1,hL,h2,h3⟩
  · obtain ⟨o,es,ep,ho,r⟩ := hm
    exact ⟨o,es,ep,k _ o (Ne.symm hL) ho,r⟩
  · refine (I.hok b u e).stay (fun c v hc q => k c v ?_ q) (fun _ q => q) fun _ _ q => q
    rcases hc with z | z
    · rw [z]; exact nit b u e
    · exact nit c _ z
theorem Inv.tok (I : Inv X pins σ H s) (t : Nat) : Inv X pins σ H { s with toks := t } := I.un (h' := s.heap) (t' := t) Un.refl I.hok
theorem Inv.kept {t' : Nat} (I : Inv X pins σ H s) (k : ∀ b u,s.heap.get? b = some u→h'.get? b = some u) : Inv X pins σ H { s with heap := h',toks := t' } := I.un (Un.kept k) (I.hok.kept k)
theorem Inv.laid {a : Addr} {o : HO} {t' : Nat} (I : Inv X pins σ H s) (k : ∀ b u,s.heap.get? b = some u→h'.get? b = some u) (hp : s.heap.objs.size≤a) (new : zaW X.prog X.w (upd H a o) h' a o) :
    Inv X pins σ (upd H a o) { s with heap := h',toks := t' } := I.un (Un.laid k hp (I.hok.fresh hp)) (I.hok.laid k hp new)
theorem Inv.write {x e : Addr} {o : HO} {t' : Nat} (I : Inv X pins σ H s) (mu : Mut (H x)) (he : e = x∨H e = some (.own x)) (k : ∀ b u,b≠e→s.heap.get? b = some u→h'.get? b = some u) (heo : ∃ u,h'.get? e = some u)
    (new : zaW X.prog X.w (upd H x o) h' x o) : Inv X pins σ (upd H x o) { s with heap := h',toks := t' } := I.un (Un.write mu he k heo) (I.hok.write mu he k heo new)
theorem Inv.pins_of {pins' : List (Addr × Obj)} (I : Inv X pins σ H s) (h : ∀ p∈pins',s.heap.get? p.1 = some p.2∧H p.1 = none∧p.1≠X.env.locals∧p.1∉X.fs∧∀ v,p.2.data≠.cell v) : Inv X pins' σ H s :=
  ⟨I.ok,I.os,I.bare,I.base,I.loc,I.cell,I.free,I.freeC,fun p hp => (List.mem_append.mp hp).elim (fun z => I.pin p (List.mem_append_left _ z)) (h p),I.hok,I.len⟩
theorem zgz {N : List Str} (hN : N.Nodup) {i j : Nat} {x : Str} (a : N[i]? = some x) (b : N[j]? = some x) : i = j := by
  obtain ⟨h1,e1⟩ := List.getElem?_eq_some_iff.mp a
  obtain ⟨h2,e2⟩ := List.getElem?_eq_some_iff.mp b
  exact (List.getElem_inj hN).mp (e1.trans e2.symm)
theorem zfi {M : Model} {A : Around} {E : Value→Shared→Prop} {i : Nat} {x : Str} {v : V} {u : Value} {Q : Unit→Shared→Prop} (I : Inv X pins σ H s) (hN : X.N.Nodup) (hi : X.N[i]? = some x) (hx : Loc X.env.scope x) (r : RelV v u)
    (h : ∀ s',Inv X pins (σ.set i (some v)) H s'→(∃ a,Heap.SameBut a s.heap s'.heap∧(a = X.env.locals∨X.env.cells.lookup x = some a))→Q () s') (hf : X.fn x = true∨X.env.scope.names.lookup x = some .local := by first | exact .inl rfl | exact .inr rfl | assumption) : wpAny M A (storeName X.env x u) Q E s := by
  obtain ⟨m,hn,hl⟩ := id I.loc
  have hcls : (X.env.scope.kind == .class || (X.env.scope.kind == .module && X.env.locals != X.env.globals)) = false := by rw [I.ok.kind]; rfl
  have hiσ : i < σ.length := by rw [I.len]; exact (List.getElem?_eq_some_iff.mp hi).1
  have cne := I.cne
  have tracked : ∀ {a : Addr} {h' : Heap},(∃ o,s.heap.get? a = some o∧H a = none)→Heap.SameBut a s.heap h'→HOk X.prog X.w H h' := fun {a h'} ha hs b ob e => by
    obtain ⟨_,_,hfree⟩ := ha
    refine (I.hok b ob e).stay (fun c w' hc q => (hs.2 c ?_).trans q) (fun _ q => q) fun _ _ q => q
    rintro rfl
    rcases hc with rfl | hc
    · rw [hfree] at e; cases e
    · rw [hfree] at hc; cases hc
  rcases hx with hk | hk
  · refine wpAny_storeName_local hk hn (fun h' hn' hs => ?_) hcls
    obtain ⟨oL,_,_,hoL,_⟩ := id hn
    refine h _ ⟨I.ok,I.os,I.bare,⟨fun b o e n hb hx => ?_,fun b o e n hb hx => ?_,I.base.free,fun b o e hx => ?_,I.base.tups,I.base.frzs,I.base.tbls⟩,⟨_,hn',fun j y v' e1 e2 e3 => ?_⟩,fun y c e => ?_,I.free,I.freeC,fun p hp => ?_,tracked ⟨oL,hoL,I.free⟩ hs,by simpa using I.len⟩ ⟨_,hs,.inl rfl⟩
    · exact (hs.2 b (Nat.ne_of_lt (Nat.lt_of_lt_of_le (Heap.lt_size e) I.ok.above))).trans (I.base.keep b o e n hb hx)
    · obtain ⟨sl,e1⟩ := I.base.slot b o e n hb hx
      exact ⟨sl,(hs.2 b (Nat.ne_of_lt (Nat.lt_of_lt_of_le (Heap.lt_size e) I.ok.above))).trans e1⟩
    · obtain ⟨o',e1⟩ := I.base.there b o e hx
      exact ⟨o',(hs.2 b (Nat.ne_of_lt (Nat.lt_of_lt_of_le (Heap.lt_size e) I.ok.above))).trans e1⟩
    · by_cases hj : j = i
      · subst hj
        rw [hi] at e1; cases e1
        rw [List.getElem?_set_self hiσ] at e2
        cases e2
        exact ⟨u,r,.inl ⟨hk,by simp⟩⟩
      · rw [List.getElem?_set_ne (Ne.symm hj)] at e2
        obtain ⟨u',r',q⟩ := hl j y v' e1 e2 e3
        refine ⟨u',r',?_⟩
        rcases q with ⟨k,e⟩ | ⟨k,c,e,z⟩
        · refine .inl ⟨k,?_⟩
          have : y≠x := fun e => hj (zgz hN e1 (e ▸ hi))
          simp [this,e]
        · exact .inr ⟨k,c,e,z.sameBut hs (cne y c e)⟩
    · obtain ⟨w',z⟩ := I.cell y c e
      exact ⟨w',z.sameBut hs (cne y c e)⟩
    · obtain ⟨e,n,ne,nf,d⟩ := I.pin p hp
      exact ⟨(hs.2 p.1 ne).trans e,n,ne,nf,d⟩
  · have hfn : X.fn x = true := by
      rcases hf with z | z
      · exact z
      · rw [z] at hk; cases hk
    obtain ⟨c,hc⟩ := I.ok.has x (.inl hk)
    obtain ⟨w',z⟩ := I.cell x c hc
    refine wpAny_storeName_cell I.ok.kind hk hc z (fun h' hc' hs => ?_)
    obtain ⟨oc,hoc,hocd⟩ := id z
    refine h { s with heap := h' } ⟨I.ok,I.os,I.bare,⟨fun b o e n hb hx => ?_,fun b o e n hb hx => ?_,I.base.free,fun b o e hx => ?_,I.base.tups,I.base.frzs,I.base.tbls⟩,⟨m,hn.sameBut hs (Ne.symm (cne x c hc)),fun j y v' e1 e2 e3 => ?_⟩,fun y c' e => ?_,I.free,I.freeC,fun p hp => ?_,tracked ⟨oc,hoc,I.freeC x c hc⟩ hs,by simpa using I.len⟩ ⟨c,hs,.inr hc⟩
    · exact (hs.2 b (Nat.ne_of_lt (Nat.lt_of_lt_of_le (Heap.lt_size e) (I.ok.cab x c hfn hc)))).trans (I.base.keep b o e n hb hx)
    · obtain ⟨sl,e1⟩ := I.base.slot b o e n hb hx
      exact ⟨sl,(hs.2 b (Nat.ne_of_lt (Nat.lt_of_lt_of_le (Heap.lt_size e) (I.ok.cab x c hfn hc)))).trans e1⟩
    · obtain ⟨o',e1⟩ := I.base.there b o e hx
      exact ⟨o',(hs.2 b (Nat.ne_of_lt (Nat.lt_of_lt_of_le (Heap.lt_size e) (I.ok.cab x c hfn hc)))).trans e1⟩
    · by_cases hj : j = i
      · subst hj
        rw [hi] at e1; cases e1
        rw [List.getElem?_set_self hiσ] at e2
        cases e2
        exact ⟨u,r,.inr ⟨.inl hk,c,hc,hc'⟩⟩
      · rw [List.getElem?_set_ne (Ne.symm hj)] at e2
        obtain ⟨u',r',q⟩ := hl j y v' e1 e2 e3
        refine ⟨u',r',?_⟩
        rcases q with q | ⟨k,c',e,z'⟩
        · exact .inl q
        · refine .inr ⟨k,c',e,z'.sameBut hs ?_⟩
          rintro rfl
          exact hj (zgz hN e1 (I.ok.inj _ _ _ e hc ▸ hi))
    · by_cases hcc : c' = c
      · subst hcc; exact ⟨_,hc'⟩
      · obtain ⟨w2,z2⟩ := I.cell y c' e
        exact ⟨w2,z2.sameBut hs hcc⟩
    · obtain ⟨e,n,ne,nf,d⟩ := I.pin p hp
      refine ⟨(hs.2 p.1 ?_).trans e,n,ne,nf,d⟩
      intro q
      rw [q,hoc] at e
      have q' : oc = p.2 := Option.some.inj e
      exact d w' (by rw [← q']; exact hocd)
theorem zgo {M : Model} {A : Around} {E : Value→Shared→Prop} {i : Nat} {x : Str} {v : V} {u : Value} {Q : Unit→Shared→Prop} (I : Inv X pins σ H s) (hN : X.N.Nodup) (hi : X.N[i]? = some x) (hx : Loc X.env.scope x) (r : RelV v u)
    (h : ∀ s',Inv X pins (σ.set i (some v)) H s'→Q () s') (hf : X.fn x = true∨X.env.scope.names.lookup x = some .local := by first | exact .inl rfl | exact .inr rfl | assumption) : wpAny M A (storeName X.env x u) Q E s :=
  zfi I hN hi hx r (fun s' I' _ => h s' I') hf
theorem Inv.call' {s' : Shared} {ch : List Addr} (I : Inv X pins σ H s) (ho : s'.os = s.os) (u : Un (frs X.stack) ch H H' s.heap s'.heap) (hok : HOk X.prog X.w H' s'.heap) (hg : AllBare s'.gens)
    (hch : ∀ b∈ch,(b∈X.ex∨X.s₀.heap.objs.size≤b)∧b≠X.env.locals∧(∀ x c,X.env.cells.lookup x = some c→c≠b)∧∀ p∈X.pn++pins,p.1≠b) : Inv X pins σ H' s' := by
  obtain ⟨h',g',d',t',o'⟩ := s'
  have e : o' = s.os := ho
  subst e
  exact I.call (g' := g') (t' := t') (d' := d') u hok hg hch
end
noncomputable abbrev XK := Value→Option Addr→Hp→Prop
noncomputable abbrev St := List (Option V)
noncomputable abbrev VK := V→Hp→Prop
noncomputable abbrev TE := St→Hp→VK→Prop
noncomputable abbrev TT := St→Hp→(Bool→Hp→Prop)→Prop
noncomputable abbrev TA := St→Hp→(List V→Hp→Prop)→Prop
structure Ends where
  nx : St→Hp→Prop
  rt : VK
  bk : St→Hp→Prop := fun _ _ => False
  ct : St→Hp→Prop := fun _ _ => False
noncomputable abbrev TS := Ends→St→Hp→Prop
noncomputable def EP (X : Cx) (pins : List (Addr × Obj)) (σ : St) (Q : VK) (u : Value) (s' : Shared) : Prop := ∃ v H',Inv X pins σ H' s'∧RelV v u∧Q v H'
noncomputable def TP (X : Cx) (pins : List (Addr × Obj)) (σ : St) (Q : Bool→Hp→Prop) (b : Bool) (s' : Shared) : Prop := ∃ H',Inv X pins σ H' s'∧Q b H'
noncomputable def AP (X : Cx) (pins : List (Addr × Obj)) (σ : St) (Q : List V→Hp→Prop) (us : List Value) (s' : Shared) : Prop := ∃ vs H',Inv X pins σ H' s'∧Vals vs us∧Q vs H'
noncomputable def SP (X : Cx) (pins : List (Addr × Obj)) (D : Ends) (f : Flow) (s' : Shared) : Prop :=
  match f with
  | .next => ∃ σ' H',Inv X pins σ' H' s'∧D.nx σ' H'
  | .brk => ∃ σ' H',Inv X pins σ' H' s'∧D.bk σ' H'
  | .cont => ∃ σ' H',Inv X pins σ' H' s'∧D.ct σ' H'
  | .ret u => ∃ v σ' H',Inv X pins σ' H' s'∧RelV v u∧D.rt v H'
noncomputable def PE (X : Cx) (e : Expr) (t : TE) : Prop :=
  ∀ (pins : List (Addr × Obj)) (s : Shared) (σ : St) (H : Hp) (Q : VK),Inv X pins σ H s→t σ H Q→wpAny (model X.prog X.w) X.A (eval e X.env) (EP X pins σ Q) X.xe s
noncomputable def PT (X : Cx) (e : Expr) (t : TT) : Prop :=
  ∀ (pins : List (Addr × Obj)) (s : Shared) (σ : St) (H : Hp) (Q : Bool→Hp→Prop),Inv X pins σ H s→t σ H Q→wpAny (model X.prog X.w) X.A (isTrue e X.env (eval e X.env)) (TP X pins σ Q) X.xe s
noncomputable def PW (X : Cx) (e : Expr) (t : TT) : Prop :=
  ∀ (whole : Sem Value) (pins : List (Addr × Obj)) (s : Shared) (σ : St) (H : Hp) (Q : Bool→Hp→Prop),Inv X pins σ H s→t σ H Q→wpAny (model X.prog X.w) X.A (isTrue e X.env whole) (TP X pins σ Q) X.xe s
theorem PW.pt {X : Cx} {e : Expr} {t : TT} (h : PW X e t) : PT X e t := h _
noncomputable def PA (X : Cx) (es : List Expr) (t : TA) : Prop :=
  ∀ (pos : Pos) (pins : List (Addr × Obj)) (s : Shared) (σ : St) (H : Hp) (Q : List V→Hp→Prop),Inv X pins σ H s→t σ H Q→wpAny (model X.prog X.w) X.A (spliced (backTo pos (starEach es X.env))) (AP X pins σ Q) X.xe s
noncomputable def PS (X : Cx) (st : Stmt) (t : TS) : Prop :=
  ∀ (pins : List (Addr × Obj)) (s : Shared) (σ : St) (H : Hp) (D : Ends),Inv X pins σ H s→t D σ H→wpAny (model X.prog X.w) X.A (exec st X.env) (SP X pins D) X.xe s
noncomputable def PSs (X : Cx) (st : List Stmt) (t : TS) : Prop :=
  ∀ (pins : List (Addr × Obj)) (s : Shared) (σ : St) (H : Hp) (D : Ends),Inv X pins σ H s→t D σ H→wpAny (model X.prog X.w) X.A (execs st X.env) (SP X pins D) X.xe s
theorem thn {α : Type} {t : Sem α} {Q Q' : α→Shared→Prop} {M : Model} {A : Around} {E : Value→Shared→Prop} {s : Shared} (h : wpAny M A t Q E s) (hQ : ∀ a s,Q a s→Q' a s) : wpAny M A t Q' E s := wpAny_mono h hQ fun _ _ x => x
end L2
namespace L2
open PySem PySem.Spec PyProof.Rows
section
variable {X : Cx}
noncomputable def tVar (i : Nat) : TE := fun σ H Q => ∃ v,σ[i]? = some (some v)∧Q v H
noncomputable def tC (v : V) : TE := fun _ H Q => Q v H
theorem zfy {i : Nat} {x : Str} {pos : Pos} (hN : X.N[i]? = some x) (hv : Vis X.env.scope x) (hd : (x == ("__debug__" : Str)) = false := by decide) (hcd : (x == ("__classdict__" : Str)) = false := by decide) : PE X (.Name x pos) (tVar i) := by
  intro pins s σ H Q I h
  obtain ⟨v,e,h⟩ := h
  obtain ⟨m,hn,hl⟩ := I.loc
  obtain ⟨u,r,l⟩ := hl i x v hN e hv
  have fin : EP X pins σ Q u s := ⟨v,H,I,r,h⟩
  rcases l with ⟨hk,hm⟩ | ⟨hk,c,hc,hcell⟩
  · exact wpAny_Name (wpAny_loadName_local I.ok.kind hk hn hm fin) hd
  · rcases hk with hk | hk
    · exact wpAny_Name (wpAny_loadName_cell I.ok.kind hk hc hcell fin) hd
    · exact wpAny_Name (wpAny_loadName_free I.ok.kind hk hc hcell fin hcd) hd
theorem zmu {i j pos} : PE X (.Constant (.int i) j pos) (tC (.int i)) := fun _ _ _ H _ I h => wpAny_Constant_int ⟨.int i,H,I.tok _,⟨_,rfl⟩,h⟩
theorem znV {b j pos} : PE X (.Constant (.bool b) j pos) (tC (.bl b)) := fun _ _ _ H _ I h => Constant_bool ⟨.bl b,H,I,rfl,h⟩
theorem zms {j pos} : PE X (.Constant .none j pos) (tC .non) := fun _ _ _ H _ I h => Constant_none ⟨.non,H,I,rfl,h⟩
theorem zmp {x j pos} : PE X (.Constant (.str x) j pos) (tC (.str x)) := fun _ _ _ H _ I h => Calls.Constant_str ⟨.str x,H,I.tok _,⟨_,rfl⟩,h⟩
noncomputable def Gl (X : Cx) (x : Str) : Prop := X.env.kindOf x = some .globalImplicit
theorem zib {E : Value→Shared→Prop} {pins : List (Addr × Obj)} {s : Shared} {σ : St} {H : Hp} {x : Str} {u : Value} {pos : Pos} {Q : Value→Shared→Prop} (I : Inv X pins σ H s) (hg : Gl X x) (hm : X.mg x = some u) (h : Q u s)
    (hd : (x == ("__debug__" : Str)) = false := by decide) : wpAny (model X.prog X.w) X.A (eval (.Name x pos) X.env) Q E s :=
  Calls.Name_function_global I.ok.kind hg (Calls.loadGlobal_global (by rw [I.ok.glob]; exact I.mod.glob.keeps I.bk) hm h) hd
theorem zeK {E : Value→Shared→Prop} {pins : List (Addr × Obj)} {s : Shared} {σ : St} {H : Hp} {x : Str} {u : Value} {pos : Pos} {Q : Value→Shared→Prop} (I : Inv X pins σ H s) (hg : Gl X x) (hm : X.mg x = none) (hv : bootBuiltins x = some u) (h : Q u s)
    (hn : x≠"__name__" := by decide) (hd : (x == ("__debug__" : Str)) = false := by decide) : wpAny (model X.prog X.w) X.A (eval (.Name x pos) X.env) Q E s := by
  obtain ⟨mb,h1,h2⟩ := I.mod.blt
  exact Calls.Name_function_global I.ok.kind hg (Calls.loadGlobal_builtin (by rw [I.ok.glob]; exact I.mod.glob.keeps I.bk) hm (by rw [I.ok.blt]; exact h1.keeps I.bk) ((h2 x hn).trans hv) h) hd
theorem zkJ {x : Str} {v : V} {u : Value} {pos : Pos} (hg : Gl X x) (hm : X.mg x = some u) (r : RelV v u) (hd : (x == ("__debug__" : Str)) = false := by decide) : PE X (.Name x pos) (tC v) :=
  fun _ _ _ H _ I h => zib I hg hm ⟨v,H,I,r,h⟩ hd
theorem zkM {x : Str} {v : V} {u : Value} {pos : Pos} (hg : Gl X x) (hm : X.mg x = none) (hv : bootBuiltins x = some u) (r : RelV v u) (hn : x≠"__name__" := by decide) (hd : (x == ("__debug__" : Str)) = false := by decide) : PE X (.Name x pos) (tC v) :=
  fun _ _ _ H _ I h => zeK I hg hm hv ⟨v,H,I,r,h⟩ hn hd
variable {a b : Expr} {ta tb : TE} {pos : Pos}
noncomputable def tB (t : TE) : TT := fun σ H Q => t σ H fun x H1 => ∃ c,x = .bl c∧Q c H1
variable {tA tB' : TT} {rest : List Expr}
noncomputable def tAnd (t u : TT) : TT := fun σ H Q => t σ H fun c H1 => if c = true then u σ H1 Q else Q false H1
noncomputable def tOr (t u : TT) : TT := fun σ H Q => t σ H fun c H1 => if c = true then Q true H1 else u σ H1 Q
noncomputable def tNot (t : TT) : TT := fun σ H Q => t σ H fun c H1 => Q (! c) H1
theorem zkB (ha : PT X a tA) : PW X (.BoolOp .And [a] pos) tA := by
  intro wh pins s σ H Q I h
  refine isTrue_and (thn (ha pins s σ H Q I h) fun c s1 e => ?_)
  cases c with
  | true => exact isTrue_and_nil e
  | false => exact e
theorem zmf (ha : PT X a tA) : PW X (.BoolOp .Or [a] pos) tA := by
  intro wh pins s σ H Q I h
  refine isTrue_or (thn (ha pins s σ H Q I h) fun c s1 e => ?_)
  cases c with
  | false => exact isTrue_or_nil e
  | true => exact e
theorem zmg (ha : PT X a tA) (hb : PW X (.BoolOp .And (b::rest) pos) tB') : PW X (.BoolOp .And (a::b::rest) pos) (tAnd tA tB') := by
  intro wh pins s σ H Q I h
  refine isTrue_and (thn (ha pins s σ H _ I h) fun c s1 ⟨H1,I1,q1⟩ => ?_)
  cases c with
  | true => exact hb wh pins s1 σ H1 Q I1 q1
  | false => exact ⟨H1,I1,q1⟩
theorem znP (ha : PT X a tA) (hb : PW X (.BoolOp .Or (b::rest) pos) tB') : PW X (.BoolOp .Or (a::b::rest) pos) (tOr tA tB') := by
  intro wh pins s σ H Q I h
  refine isTrue_or (thn (ha pins s σ H _ I h) fun c s1 ⟨H1,I1,q1⟩ => ?_)
  cases c with
  | true => exact ⟨H1,I1,q1⟩
  | false => exact hb wh pins s1 σ H1 Q I1 q1
theorem zmh (ha : PT X a tA) : PT X (.UnaryOp .Not a pos) (tNot tA) := by
  intro pins s σ H Q I h
  exact isTrue_not (ha pins s σ H (fun c H1 => Q (! c) H1) I h)
noncomputable def znC (ta tb : TE) : TE := fun σ H Q => ta σ H fun x H1 => ∃ c,x = .bl c∧if c = true then tb σ H1 Q else Q (.bl false) H1
noncomputable def znx (ta : TE) : TE := fun σ H Q => ta σ H fun x H1 => ∃ c,x = .bl c∧Q (.bl (! c)) H1
theorem zmq {op} {t : TE} (h : PE X a t) : PE X (.BoolOp op [a] pos) t := fun pins s σ H Q I hw => BoolOp_one (h pins s σ H Q I hw)
theorem zmw (ha : PE X a ta) (hb : PE X (.BoolOp .And (b::rest) pos) tb) : PE X (.BoolOp .And (a::b::rest) pos) (znC ta tb) := by
  intro pins s σ H Q I h
  refine BoolOp_and (thn (ha pins s σ H _ I h) fun v s1 ⟨x,H1,I1,r1,q1⟩ => ?_)
  obtain ⟨c,rfl,q1⟩ := q1
  cases r1
  refine wpAny_truthy_bool ?_
  cases c with
  | true => exact hb pins s1 σ H1 Q I1 q1
  | false => exact ⟨.bl false,H1,I1,rfl,q1⟩
theorem zmr (ha : PE X a ta) : PE X (.UnaryOp .Not a pos) (znx ta) := by
  intro pins s σ H Q I h
  refine UnaryOp_ (thn (ha pins s σ H _ I h) fun v s1 ⟨x,H1,I1,r1,q1⟩ => ?_)
  obtain ⟨c,rfl,q1⟩ := q1
  cases r1
  exact not_of (wpAny_truthy_bool ⟨.bl (! c),H1,I1,rfl,q1⟩)
noncomputable def tIf (t : TT) (ta tb : TE) : TE := fun σ H Q => t σ H fun c H1 => if c = true then ta σ H1 Q else tb σ H1 Q
theorem zjb {c : Expr} (hc : PT X c tA) (ha : PE X a ta) (hb : PE X b tb) : PE X (.IfExp c a b pos) (tIf tA ta tb) := by
  intro pins s σ H Q I h
  refine wpAny_IfExp (thn (hc pins s σ H _ I h) fun d s1 ⟨H1,I1,q1⟩ => ?_)
  cases d with
  | true => exact ha pins s1 σ H1 Q I1 q1
  | false => exact hb pins s1 σ H1 Q I1 q1
end
end L2
namespace L2
open PySem PySem.Spec PyProof.Rows
noncomputable def SqL (K : PySem.W.Frag) (H : Hp) (a : Addr) (xs : List V) : Prop :=
  Rd H a (.lst xs) ∨
    ∃ (o : Obj) (its : Array Value) (n : Nat),K.lookup a = some o∧o.cls = .type "list"∧o.dict = none∧o.data = .seq its n∧its.size≤sizeLine∧Vals xs its.toList
noncomputable def SqT (K : PySem.W.Frag) (H : Hp) (a : Addr) (xs : List V) : Prop :=
  Rd H a (.tup xs) ∨
    ∃ (o : Obj) (its : Array Value) (n : Nat),K.lookup a = some o∧o.cls = .type "tuple"∧o.data = .seq its n∧its.size≤sizeLine∧Vals xs its.toList
noncomputable def absV : Value→Option V
  | .none => some .non
  | .bool b => some (.bl b)
  | .int i _ => some (.int i)
  | .str x _ => some (.str x)
  | .bytes b _ => some (.byt b)
  | .float b _ => some (.flt b)
  | .ref a => some (.ref a)
  | .type n => some (.ty n)
  | _ => none
theorem RelV.abs {x : V} {u : Value} (r : RelV x u) : absV u = some x := by
  cases x with
  | non => cases r; rfl
  | bl _ => cases r; rfl
  | int _ => obtain ⟨t,rfl⟩ := r; rfl
  | str _ => obtain ⟨t,rfl⟩ := r; rfl
  | byt _ => obtain ⟨t,rfl⟩ := r; rfl
  | flt _ => obtain ⟨t,rfl⟩ := r; rfl
  | ref _ => cases r; rfl
  | ty _ => cases r; rfl
theorem RelV.inj {x y : V} {u : Value} (r : RelV x u) (q : RelV y u) : x = y := Option.some.inj (r.abs.symm.trans q.abs)
theorem Vals.inj {xs ys : List V} {us : List Value} (h : Vals xs us) (h' : Vals ys us) : xs = ys := by
  induction h generalizing ys with
  | nil => cases h'; rfl
  | cons r t ih =>
    cases h' with
    | cons r' t' => rw [r.inj r',ih t']
section
variable {X : Cx} {pins : List (Addr × Obj)} {σ : St} {H : Hp} {s : Shared} {a : Addr} {xs ys : List V}
theorem SqL.of {K : PySem.W.Frag} (h : H a = some (.lst xs)) : SqL K H a xs := .inl (.inl h)
theorem SqT.of {K : PySem.W.Frag} (h : H a = some (.tup xs)) : SqT K H a xs := .inl (.inl h)
theorem Inv.list (I : Inv X pins σ H s) (h : SqL X.K H a xs) : ∃ its : List Value,Vals xs its∧PlainL s.heap a its.toArray∧xs.length≤sizeLine := by
  rcases h with h | ⟨o,its,n,hk,hc,hd,hs,hz,r⟩
  · obtain ⟨z,its,n,r,e⟩ := h.ok I.hok
    exact ⟨its,r,⟨_,n,e,rfl,rfl,rfl⟩,z⟩
  · refine ⟨its.toList,r,⟨o,n,I.kIn a o hk,hc,hd,by simpa using hs⟩,?_⟩
    have e := r.length
    simp only [Array.length_toList] at e
    omega
theorem Inv.tuple (I : Inv X pins σ H s) (h : SqT X.K H a xs) : ∃ its : List Value,Vals xs its∧IsTup s.heap a its.toArray∧xs.length≤sizeLine := by
  rcases h with h | ⟨o,its,n,hk,hc,hs,hz,r⟩
  · obtain ⟨z,its,r,p,_⟩ := h.ok I.hok
    exact ⟨its,r,p,z⟩
  · refine ⟨its.toList,r,⟨o,I.kIn a o hk,hc,n,by simpa using hs⟩,?_⟩
    have e := r.length
    simp only [Array.length_toList] at e
    omega
theorem Inv.list_inj (I : Inv X pins σ H s) (h : SqL X.K H a xs) (h' : SqL X.K H a ys) : xs = ys := by
  obtain ⟨its,r,⟨o,n,e,_,_,d⟩,_⟩ := I.list h
  obtain ⟨its',r',⟨o',n',e',_,_,d'⟩,_⟩ := I.list h'
  rw [e] at e'; cases e'
  rw [d] at d'
  injection d' with d1 _
  have : its = its' := by simpa using congrArg Array.toList d1
  subst this
  exact r.inj r'
theorem Inv.tuple_inj (I : Inv X pins σ H s) (h : SqT X.K H a xs) (h' : SqT X.K H a ys) : xs = ys := by
  obtain ⟨its,r,⟨o,e,_,n,d⟩,_⟩ := I.tuple h
  obtain ⟨its',r',⟨o',e',_,n',d'⟩,_⟩ := I.tuple h'
  rw [e] at e'; cases e'
  rw [d] at d'
  injection d' with d1 _
  have : its = its' := by simpa using congrArg Array.toList d1
  subst this
  exact r.inj r'
end
noncomputable abbrev Cx.wish (X : Cx) (E : Value→Shared→Prop) : Cx := { X with xe := E }
noncomputable abbrev Cx.nox (X : Cx) : Cx := X.wish fun _ _ => False
theorem Cx.Ok.wish {X : Cx} (ok : X.Ok) (E : Value→Shared→Prop) : (X.wish E).Ok :=
  ⟨ok.mod,ok.kind,ok.glob,ok.blt,ok.above,ok.inj,ok.has,ok.cab,ok.hd,ok.frames,ok.stk,ok.exf,ok.bs,ok.bsz,ok.noex,ok.exfs,ok.funs,ok.frf⟩
theorem Cx.Ok.unwish {X : Cx} {E : Value→Shared→Prop} (ok : (X.wish E).Ok) : X.Ok :=
  ⟨ok.mod,ok.kind,ok.glob,ok.blt,ok.above,ok.inj,ok.has,ok.cab,ok.hd,ok.frames,ok.stk,ok.exf,ok.bs,ok.bsz,ok.noex,ok.exfs,ok.funs,ok.frf⟩
section
variable {X : Cx} {pins : List (Addr × Obj)} {σ : St} {H : Hp} {s : Shared} {E : Value → Shared → Prop}
theorem Inv.wish (I : Inv X pins σ H s) (E : Value→Shared→Prop) : Inv (X.wish E) pins σ H s := ⟨I.ok.wish E,I.os,I.bare,I.base,I.loc,I.cell,I.free,I.freeC,I.pin,I.hok,I.len⟩
theorem Inv.unwish (I : Inv (X.wish E) pins σ H s) : Inv X pins σ H s := ⟨I.ok.unwish,I.os,I.bare,I.base,I.loc,I.cell,I.free,I.freeC,I.pin,I.hok,I.len⟩
theorem SP.unwish {D : Ends} {f : Flow} {s' : Shared} (h : SP (X.wish E) pins D f s') : SP X pins D f s' := by
  cases f with
  | next => obtain ⟨σ',H',I,q⟩ := h; exact ⟨σ',H',I.unwish,q⟩
  | brk => obtain ⟨σ',H',I,q⟩ := h; exact ⟨σ',H',I.unwish,q⟩
  | cont => obtain ⟨σ',H',I,q⟩ := h; exact ⟨σ',H',I.unwish,q⟩
  | ret u => obtain ⟨v,σ',H',I,r,q⟩ := h; exact ⟨v,σ',H',I.unwish,r,q⟩
theorem PE.nox {e : Expr} {t : TE} (h : PE X.nox e t) : PE X e t := fun pins s σ H Q I hw =>
  wpAny_mono (h pins s σ H Q (I.wish _) hw) (fun _ _ ⟨v,H',I',r,q⟩ => ⟨v,H',I'.unwish,r,q⟩) fun _ _ z => False.elim z
theorem PT.nox {e : Expr} {t : TT} (h : PT X.nox e t) : PT X e t := fun pins s σ H Q I hw =>
  wpAny_mono (h pins s σ H Q (I.wish _) hw) (fun _ _ ⟨H',I',q⟩ => ⟨H',I'.unwish,q⟩) fun _ _ z => False.elim z
theorem PSs.nox {st : List Stmt} {t : TS} (h : PSs X.nox st t) : PSs X st t := fun pins s σ H D I hw =>
  wpAny_mono (h pins s σ H D (I.wish _) hw) (fun _ _ q => q.unwish) fun _ _ z => False.elim z
end
section
variable {X : Cx} {st : Stmt} {rest : List Stmt} {t u : TS} {e : Expr} {te : TE} {pos : Pos}
noncomputable def zny : TS := fun D σ H => D.nx σ H
noncomputable def tSeq (t u : TS) : TS := fun D σ H => t { D with nx := u D } σ H
theorem zkE : PSs X [] zny := fun _ _ σ H _ I h => wpAny_execs_nil ⟨σ,H,I,h⟩
theorem zi7 (h1 : PS X st t) (h2 : PSs X rest u) : PSs X (st::rest) (tSeq t u) := by
  intro pins s σ H D I h
  refine wpAny_execs_cons (thn (h1 pins s σ H { D with nx := u D } I h) fun f s1 q => ?_)
  cases f with
  | next =>
    obtain ⟨σ',H',I',q⟩ := q
    exact h2 pins s1 σ' H' D I' q
  | ret v => exact q
  | brk => exact q
  | cont => exact q
theorem Inv.quiet {pins : List (Addr × Obj)} {σ : St} {H : Hp} {s : Shared} (I : Inv X pins σ H s) : interactive X.env = false := by simp [interactive,I.ok.kind]
noncomputable def znz (te : TE) : TS := fun D σ H => te σ H fun _ H1 => D.nx σ H1
theorem zhN (he : PE X e te) (hs : swapsWith e none pos.line X.env = pure false := by rfl) : PS X (.Expr e pos) (znz te) := by
  intro pins s σ H D I h
  exact wpAny_Expr_any (thn (he pins s σ H _ I h) fun v s1 ⟨x,H1,I1,r1,q1⟩ => ⟨σ,H1,I1,q1⟩) I.quiet hs
noncomputable def tRet (te : TE) : TS := fun D σ H => te σ H D.rt
theorem zmi (he : PE X e te) : PS X (.Return (some e) pos) (tRet te) := by
  intro pins s σ H D I h
  exact wpAny_Return_some (thn (he pins s σ H _ I h) fun v s1 ⟨x,H1,I1,r1,q1⟩ => ⟨x,σ,H1,I1,r1,q1⟩)
noncomputable def tIfS (c : TT) (t u : TS) : TS := fun D σ H => c σ H fun b H1 => if b = true then t D σ H1 else u D σ H1
theorem znR {c : Expr} {a b : List Stmt} {tc : TT} (hc : PT X c tc) (ha : PSs X a t) (hb : PSs X b u) : PS X (.If c a b pos) (tIfS tc t u) := by
  intro pins s σ H D I h
  refine wpAny_If (thn (hc pins s σ H _ I h) fun d s1 ⟨H1,I1,q1⟩ => ?_)
  cases d with
  | true => exact ha pins s1 σ H1 D I1 q1
  | false => exact hb pins s1 σ H1 D I1 q1
noncomputable def zlH : TS := fun _ _ _ => False
theorem zi8 : PS X st zlH := fun _ _ _ _ _ _ h => h.elim
end
noncomputable abbrev TG := V→St→Hp→(St→Hp→Prop)→Prop
noncomputable abbrev TGs := List V→St→Hp→(St→Hp→Prop)→Prop
noncomputable def PG (X : Cx) (target : Expr) (t : TG) : Prop :=
  ∀ (pins : List (Addr × Obj)) (s : Shared) (σ : St) (H : Hp) (v : V) (u : Value) (Q : St→Hp→Prop),Inv X pins σ H s→RelV v u→t v σ H Q →
    wpAny (model X.prog X.w) X.A (assign target X.env u) (fun _ s' => ∃ σ' H',Inv X pins σ' H' s'∧Q σ' H') X.xe s
noncomputable def PGs (X : Cx) (ts : List Expr) (t : TGs) : Prop :=
  ∀ (pins : List (Addr × Obj)) (s : Shared) (σ : St) (H : Hp) (vs : List V) (us : List Value) (Q : St→Hp→Prop),Inv X pins σ H s→Vals vs us→t vs σ H Q →
    wpAny (model X.prog X.w) X.A (assignInOrder ((assignEach ts X.env).map (·.2)) us) (fun _ s' => ∃ σ' H',Inv X pins σ' H' s'∧Q σ' H') X.xe s
noncomputable abbrev TSet := V→V→V→Hp→(Hp→Prop)→Prop
noncomputable def PSet (X : Cx) (t : TSet) : Prop :=
  ∀ (pins : List (Addr × Obj)) (s : Shared) (σ : St) (H : Hp) (o i v : V) (ov iv u : Value) (Q : Hp→Prop),Inv X pins σ H s→RelV o ov→RelV i iv→RelV v u→t o i v H Q →
    wpAny (model X.prog X.w) X.A (setItem ov iv u) (fun _ s' => ∃ H',Inv X pins σ H' s'∧Q H') X.xe s
section
variable {X : Cx} {pos : Pos}
noncomputable def zm9 (i : Nat) : TG := fun v σ H Q => Q (σ.set i (some v)) H
theorem zkI {i : Nat} {x : Str} (hN : X.N.Nodup) (hi : X.N[i]? = some x) (hx : Loc X.env.scope x) (hf : X.fn x = true∨X.env.scope.names.lookup x = some .local := by first | exact .inl rfl | exact .inr rfl | assumption) : PG X (.Name x pos) (zm9 i) := by
  intro pins s σ H v u Q I r h
  exact wpAny_assign_Name (zgo I hN hi hx r (fun s' I' => ⟨_,H,I',h⟩) hf)
noncomputable def gNil : TGs := fun vs σ H Q => vs = []∧Q σ H
noncomputable def zoa (t : TG) (u : TGs) : TGs := fun vs σ H Q => ∃ v r,vs = v::r∧t v σ H fun σ' H' => u r σ' H' Q
theorem zkH : PGs X [] gNil := by
  intro pins s σ H vs us Q I r h
  obtain ⟨e,h⟩ := h
  subst e
  cases r
  exact assignInOrder_nil ⟨σ,H,I,h⟩
theorem zi9 {e : Expr} {es : List Expr} {t : TG} {u : TGs} (h1 : PG X e t) (h2 : PGs X es u)
    (hs : (assignEach (e::es) X.env).map (·.2) = assign e X.env::(assignEach es X.env).map (·.2) := by rfl) : PGs X (e::es) (zoa t u) := by
  intro pins s σ H vs us Q I r h
  obtain ⟨v,vr,e1,h⟩ := h
  subst e1
  cases r with
  | cons r rr =>
    rw [hs]
    refine assignInOrder_cons (thn (h1 pins s σ H _ _ _ I r h) fun _ s1 ⟨σ1,H1,I1,q1⟩ => ?_)
    exact h2 pins s1 σ1 H1 _ _ Q I1 rr q1
noncomputable def gTup (K : PySem.W.Frag) (n : Nat) (t : TGs) : TG := fun v σ H Q => ∃ a xs,v = .ref a∧SqT K H a xs∧xs.length = n∧t xs σ H Q
theorem zmm {es : List Expr} {k : Nat} {t : TGs} {n : Nat} (hc : X.calm = true) (h : PGs X es t)
    (hn : (assignEach es X.env).length = n := by rfl) (hst : (assignEach es X.env).findIdx? (·.1) = none := by rfl) : PG X (.Tuple es k pos) (gTup X.K n t) := by
  intro pins s σ H v u Q I r hw
  obtain ⟨a,xs,e1,hq,hl,hw⟩ := hw
  subst e1
  cases r
  obtain ⟨its,rv,ht,hz⟩ := I.tuple hq
  refine assign_Tuple_tuple (I.ok.hd hc) ht (by simp [hn,← hl,rv.length]) hst fun h' hx => ?_
  have I1 : Inv X pins σ H { s with heap := h' } := I.kept (t' := s.toks) fun b o e => hx b o (Nat.ne_of_lt (Heap.lt_size e)) e
  exact h pins _ σ H xs _ Q I1 (by simpa using rv) hw
noncomputable def gSub (to ti : TE) (t : TSet) : TG := fun v σ H Q => to σ H fun o H1 => ti σ H1 fun i H2 => t o i v H2 fun H3 => Q σ H3
theorem zmn {o i : Expr} {to ti : TE} {t : TSet} (ho : PE X o to) (hi : PE X i ti) (hs : PSet X t)
    (ha : ∀ v,assign (.Subscript o i pos) X.env v = (do
      let ov ← holding [v] (eval o X.env)
      let iv ← holding [v,ov] (eval i X.env)
      standAt pos
      holding [v,ov,iv] (setItem ov iv v)
      release [v,ov,iv] []) := by intro _; rfl) : PG X (.Subscript o i pos) (gSub to ti t) := by
  intro pins s σ H v u Q I r h
  rw [ha]
  refine wpAny_bind (wpAny_holding (thn (ho pins s σ H _ I h) fun ov s1 ⟨x,H1,I1,r1,q1⟩ => ?_))
  refine wpAny_bind (wpAny_holding (thn (hi pins s1 σ H1 _ I1 q1) fun iv s2 ⟨y,H2,I2,r2,q2⟩ => ?_))
  refine wpAny_bind (wpAny_standAt (wpAny_bind (wpAny_holding (thn (hs pins s2 σ H2 x y v ov iv u _ I2 r1 r2 r q2) fun _ s3 ⟨H3,I3,q3⟩ => ?_))))
  exact wpAny_release ⟨σ,H3,I3,q3⟩
noncomputable def tAsg (te : TE) (g : TG) : TS := fun D σ H => te σ H fun x H1 => g x σ H1 D.nx
theorem zmj {tg e : Expr} {te : TE} {g : TG} (he : PE X e te) (hg : PG X tg g) (hs : swapsWithSole [tg] e pos.line X.env = pure false := by rfl) (hw : swappedStores [tg] e X.env = pure none := by rfl)
    (h1 : (assignEach [tg] X.env).map (·.2) = [assign tg X.env] := by rfl) : PS X (.Assign [tg] e pos) (tAsg te g) := by
  intro pins s σ H D I h
  refine wpAny_Assign_stores (thn (he pins s σ H _ I h) fun v s1 ⟨x,H1,I1,r1,q1⟩ => ?_) hs hw
  rw [h1]
  exact thn (hg pins s1 σ H1 x v _ I1 r1 q1) fun _ s2 q => q
theorem zj0 {i : Nat} {x : Str} {e : Expr} {te : TE} {pos' : Pos} (hN : X.N.Nodup) (hi : X.N[i]? = some x) (hx : Loc X.env.scope x) (he : PE X e te) (hs : swapsWith e (some (.Name x pos')) pos.line X.env = pure false := by rfl) (hf : X.fn x = true∨X.env.scope.names.lookup x = some .local := by first | exact .inl rfl | exact .inr rfl | assumption) :
    PS X (.Assign [.Name x pos'] e pos) (tAsg te (zm9 i)) := by
  intro pins s σ H D I h
  refine wpAny_Assign_Name (thn (he pins s σ H _ I h) fun v s1 ⟨y,H1,I1,r1,q1⟩ => ?_) hs
  exact zgo I1 hN hi hx r1 (fun s2 I2 => ⟨_,H1,I2,q1⟩) hf
end
section
variable {X : Cx} {pos : Pos}
end
structure It where
  go : Nat→Hp→Prop
  yld : Nat→Hp→V→Hp→Prop
  stop : Nat→Hp→Prop
noncomputable def FpOk (X : Cx) (pins : List (Addr × Obj)) (H : Hp) (b : Addr) : Prop :=
  H b = none∧b≠X.env.locals∧b∉X.fs∧(b∈X.ex∨X.s₀.heap.objs.size≤b)∧(∀ x c,X.env.cells.lookup x = some c→c≠b)∧∀ p∈X.pn++pins,p.1≠b
theorem Inv.fpOk {X : Cx} {pins : List (Addr × Obj)} {σ : St} {H H' : Hp} {s : Shared} {b : Addr} (I : Inv X pins σ H s) (hb : s.heap.objs.size≤b) (hn : H' b = none) : FpOk X pins H' b := by
  refine ⟨hn,Nat.ne_of_gt (Nat.lt_of_lt_of_le I.lt hb),I.nofs hb,.inr (Nat.le_trans I.sz hb),fun x c e z => ?_,fun p hp z => ?_⟩
  · obtain ⟨v,q⟩ := I.cell x c e
    exact absurd (Nat.lt_of_lt_of_le q.lt (by rw [z]; exact hb)) (Nat.lt_irrefl _)
  · exact absurd (Nat.lt_of_lt_of_le (Heap.lt_size (I.pin p hp).1) (by rw [z]; exact hb)) (Nat.lt_irrefl _)
structure Turn (P : Program) (w : World) (K : PySem.W.Frag) (tg : Expr) (J : It) (fp : List Addr) (it : Addr) (tn : Nat→Heap→Prop) : Prop where
  mem : it∈fp
  obj : ∀ i h,tn i h→∀ b∈fp,∃ o,h.get? b = some o∧∀ v,o.data≠.cell v
  keep : ∀ i h h',tn i h→(∀ b∈fp,∀ o,h.get? b = some o→h'.get? b = some o)→tn i h'
  item : ∀ (X : Cx),X.prog = P→X.w = w→X.K = K→X.calm = true→∀ (i : Nat) (pins : List (Addr × Obj)) (s : Shared) (σ : St) (H : Hp) (E : Value→Shared→Prop),Inv X pins σ H s→(∀ b∈fp,FpOk X pins H b)→tn i s.heap→J.go i H →
    wpAny (model P w) X.A (pyNext (.ref it)) (fun r s1 => ∃ u,r = some u ∧
      wpAny (model P w) X.A (letOwnedTupleGo tg (.ref it) u) (fun _ s2 => ∃ x H',Inv X pins σ H' s2∧RelV x u∧J.yld i H x H'∧tn (i + 1) s2.heap∧∀ b∈fp,H' b = none) E s1) E s
  done : ∀ (X : Cx),X.prog = P→X.w = w→X.K = K→X.calm = true→∀ (i : Nat) (pins : List (Addr × Obj)) (s : Shared) (σ : St) (H : Hp) (E : Value→Shared→Prop),Inv X pins σ H s→(∀ b∈fp,FpOk X pins H b)→tn i s.heap→J.stop i H →
    wpAny (model P w) X.A (pyNext (.ref it)) (fun r s1 => r = none∧Inv X pins σ H s1) E s
  self : ∀ (A : Around) (i : Nat) (s : Shared) (Q : Value→Shared→Prop) (E : Value→Shared→Prop),tn i s.heap→Q (.ref it) s→wpAny (model P w) A (pyIter (.ref it)) Q E s
noncomputable abbrev TI := St→Hp→(It→Hp→Prop)→Prop
noncomputable def PIE (X : Cx) (pins : List (Addr × Obj)) (σ : St) (tg : Expr) (R : It→Hp→Prop) (itv : Value) (s2 : Shared) : Prop :=
  ∃ (it : Addr) (fp : List Addr) (tn : Nat→Heap→Prop) (J : It) (H' : Hp),itv = .ref it∧Inv X pins σ H' s2∧Turn X.prog X.w X.K tg J fp it tn∧tn 0 s2.heap∧(∀ b∈fp,FpOk X pins H' b)∧R J H'
noncomputable def PI (X : Cx) (tg iter : Expr) (wi : TI) : Prop :=
  ∀ (pins : List (Addr × Obj)) (s : Shared) (σ : St) (H : Hp) (R : It→Hp→Prop),Inv X pins σ H s→wi σ H R →
    wpAny (model X.prog X.w) X.A (eval iter X.env) (fun v s1 => wpAny (model X.prog X.w) X.A (pyIter v) (PIE X pins σ tg R) X.xe s1) X.xe s
theorem zlg {M : Model} {A : Around} {E : Value→Shared→Prop} {s : Shared} {tg : Expr} {it : Addr} {u : Value} {o : Obj} {n : String} {vs : Array Value} {Q : Unit→Shared→Prop} (ho : s.heap.get? it = some o) (hc : o.cls = .type n) (hd : o.data = .fields vs)
    (hn : ["enumerate","zip","dict_itemiterator","dict_reverseitemiterator","odict_iterator","itertools.zip_longest","itertools.pairwise"].contains n = false) (hQ : Q () s) : wpAny M A (letOwnedTupleGo tg (.ref it) u) Q E s := by
  unfold letOwnedTupleGo
  cases tg <;> first
    | exact wpAny_pure hQ
    | (cases u <;> first
        | exact wpAny_pure hQ
        | (refine wpAny_bind (wpAny_load ho ?_)
           rw [hc,hd]
           show wpAny M A (if (["enumerate","zip","dict_itemiterator","dict_reverseitemiterator","odict_iterator","itertools.zip_longest","itertools.pairwise"].contains n && vs[0]? == some (rawInt _)) = true then _ else _) Q E s
           rw [if_neg (by intro h; rw [hn,Bool.false_and] at h; cases h)]
           exact wpAny_pure hQ))
noncomputable def Itl (K : PySem.W.Frag) (a : Addr) : It :=
  ⟨fun i H => ∃ xs x,SqL K H a xs∧xs[i]? = some x,fun i H x H' => H' = H∧∀ xs,SqL K H a xs→xs[i]? = some x,fun i H => ∃ xs,SqL K H a xs∧xs.length≤i⟩
noncomputable def Itt (K : PySem.W.Frag) (a : Addr) : It :=
  ⟨fun i H => ∃ xs x,SqT K H a xs∧xs[i]? = some x,fun i H x H' => H' = H∧∀ xs,SqT K H a xs→xs[i]? = some x,fun i H => ∃ xs,SqT K H a xs∧xs.length≤i⟩
noncomputable def Itr (lo : Int) (n : Nat) : It := ⟨fun i _ => i < n,fun i H x H' => H' = H∧x = .int (lo + i),fun i _ => n≤i⟩
theorem zhq {P : Program} {w : World} {K : PySem.W.Frag} {tg : Expr} (a it : Addr) : Turn P w K tg (Itl K a) [it] it (fun i h => h.IsListIter it a i) where
  mem := by simp
  obj := fun i h st b hb => by
    have e : b = it := by simpa using hb
    subst e
    obtain ⟨o,e,c,d⟩ := st
    exact ⟨o,e,fun v z => by rw [d] at z; cases z⟩
  keep := fun i h h' st k => st.at fun o e => k it (by simp) o e
  item := by
    intro X hP hw hK hc i pins s σ H E I hf st hg
    subst hP hw hK
    obtain ⟨xs,x,hq,hx⟩ := hg
    obtain ⟨its,rv,p,hz⟩ := I.list hq
    obtain ⟨u,hu,ru⟩ := rv.get hx
    obtain ⟨f0,f1,f2,f3,f4,f5⟩ := hf it (by simp)
    refine wpAny_pyNext_list_item st p.isList (x := u) (by simpa using hu) fun h' st' sb => ?_
    have I1 : Inv X pins σ H { s with heap := h' } := I.turned (t' := s.toks) (fun b o hb e => (sb.2 b hb).trans e) f0 f1 f3 f4 f5
    obtain ⟨o,e,c,d⟩ := id st'
    exact ⟨u,rfl,zlg (s := { s with heap := h' }) e c d (by decide) ⟨x,H,I1,ru,⟨rfl,fun ys hy => by rw [I.list_inj hy hq]; exact hx⟩,st',fun b hb => (hf b hb).1⟩⟩
  done := by
    intro X hP hw hK hc i pins s σ H E I hf st hg
    subst hP hw hK
    obtain ⟨xs,hq,hx⟩ := hg
    obtain ⟨its,rv,p,hz⟩ := I.list hq
    obtain ⟨f0,f1,f2,f3,f4,f5⟩ := hf it (by simp)
    have hl := rv.length
    exact wpAny_pyNext_list_end (I.ok.hd hc) st p.isList (by simp; omega) fun h' eb => ⟨rfl,I.turned (t' := s.toks) (fun b o hb e => eb b o hb e) f0 f1 f3 f4 f5⟩
  self := fun _ _ _ _ _ st h => wpAny_pyIter_listiter st h
theorem zgQ {P : Program} {w : World} {K : PySem.W.Frag} {tg : Expr} (a it : Addr) : Turn P w K tg (Itt K a) [it] it (fun i h => h.IsTupleIter it a i) where
  mem := by simp
  obj := fun i h st b hb => by
    have e : b = it := by simpa using hb
    subst e
    obtain ⟨o,e,c,d⟩ := st
    exact ⟨o,e,fun v z => by rw [d] at z; cases z⟩
  keep := fun i h h' st k => st.at fun o e => k it (by simp) o e
  item := by
    intro X hP hw hK hc i pins s σ H E I hf st hg
    subst hP hw hK
    obtain ⟨xs,x,hq,hx⟩ := hg
    obtain ⟨its,rv,p,hz⟩ := I.tuple hq
    obtain ⟨u,hu,ru⟩ := rv.get hx
    obtain ⟨f0,f1,f2,f3,f4,f5⟩ := hf it (by simp)
    refine wpAny_pyNext_tuple_item st (show s.heap.IsTuple a its.toArray from p) (x := u) (by simpa using hu) fun h' st' sb => ?_
    have I1 : Inv X pins σ H { s with heap := h' } := I.turned (t' := s.toks) (fun b o hb e => (sb.2 b hb).trans e) f0 f1 f3 f4 f5
    obtain ⟨o,e,c,d⟩ := id st'
    exact ⟨u,rfl,zlg (s := { s with heap := h' }) e c d (by decide) ⟨x,H,I1,ru,⟨rfl,fun ys hy => by rw [I.tuple_inj hy hq]; exact hx⟩,st',fun b hb => (hf b hb).1⟩⟩
  done := by
    intro X hP hw hK hc i pins s σ H E I hf st hg
    subst hP hw hK
    obtain ⟨xs,hq,hx⟩ := hg
    obtain ⟨its,rv,p,hz⟩ := I.tuple hq
    obtain ⟨f0,f1,f2,f3,f4,f5⟩ := hf it (by simp)
    have hl := rv.length
    exact wpAny_pyNext_tuple_end (I.ok.hd hc) st (show s.heap.IsTuple a its.toArray from p) (by simp; omega) fun h' eb => ⟨rfl,I.turned (t' := s.toks) (fun b o hb e => eb b o hb e) f0 f1 f3 f4 f5⟩
  self := fun _ _ _ _ _ st h => wpAny_pyIter_tupleiter st h
theorem zgR {P : Program} {w : World} {K : PySem.W.Frag} {tg : Expr} (it : Addr) (lo : Int) (n : Nat) : Turn P w K tg (Itr lo n) [it] it (fun i h => IsRangeIter h it (lo + (i : Nat) * 1) ((n : Int) - (i : Nat)) 1) where
  mem := by simp
  obj := fun i h st b hb => by
    have e : b = it := by simpa using hb
    subst e
    exact ⟨_,st,fun v z => by
      have z' : Data.fields _ = Data.cell v := z
      cases z'⟩
  keep := fun i h h' st k => k it (by simp) _ st
  item := by
    intro X hP hw hK hc i pins s σ H E I hf st hg
    subst hP hw hK
    obtain ⟨f0,f1,f2,f3,f4,f5⟩ := hf it (by simp)
    have W := Walks.range (prog := X.prog) (w := X.w) (I.ok.hd hc) it lo 1 n
    refine W.item i s _ _ hg st fun v h' tk hv st' kk => ?_
    obtain ⟨t,rfl⟩ := hv
    have I1 : Inv X pins σ H { s with heap := h',toks := tk } := I.turned (fun b o hb e => kk b o (by simpa using hb) e) f0 f1 f3 f4 f5
    refine ⟨_,rfl,zlg (s := { s with heap := h',toks := tk }) (n := "range_iterator") st' rfl rfl (by decide) ⟨.int (lo + i),H,I1,⟨t,?_⟩,⟨rfl,rfl⟩,st',fun b hb => (hf b hb).1⟩⟩
    rw [Int.mul_one]
  done := by
    intro X hP hw hK hc i pins s σ H E I hf st hg
    subst hP hw hK
    obtain ⟨f0,f1,f2,f3,f4,f5⟩ := hf it (by simp)
    exact wpAny_pyNext_range_end (I.ok.hd hc) st (by have : n≤i := hg; omega) fun h' eb => ⟨rfl,I.turned (t' := s.toks) (fun b o hb e => eb b o hb e) f0 f1 f3 f4 f5⟩
  self := fun _ _ _ _ _ st h => wpAny_pyIter_rangeiter st h
end L2
namespace L2
open PySem PySem.Spec PyProof.Rows
section
variable {X : Cx} {tg : Expr}
theorem zi4 {pins : List (Addr × Obj)} {σ : St} {H : Hp} {s : Shared} {R : It→Hp→Prop} {E : Value→Shared→Prop} {lo hi : Int} {t u v : Tok} {tk : Nat} (I : Inv X pins σ H s) (h1 : -(2 ^ 62)≤lo) (h2 : lo < 2 ^ 62) (h3 : -(2 ^ 62)≤hi) (h4 : hi < 2 ^ 62)
    (q : R (Itr lo (hi - lo).toNat) H) : wpAny (model X.prog X.w) X.A (pyIter (.ref s.heap.objs.size)) (PIE X pins σ tg R) E { s with heap := s.heap.push { cls := .type "range",data := .fields #[.int lo t,.int hi u,.int 1 v] },toks := tk } := by
  refine wpAny_pyIter_range (IsRange.new ..) (small_one h1 h2 h3 h4) ?_
  have I1 : Inv X pins σ H { s with heap := s.heap.push { cls := .type "range",data := .fields #[.int lo t,.int hi u,.int 1 v] },toks := tk } := I.kept fun b o e => Heap.get?_push_of_some _ e
  refine ⟨(s.heap.push { cls := .type "range",data := .fields #[.int lo t,.int hi u,.int 1 v] }).objs.size,[(s.heap.push { cls := .type "range",data := .fields #[.int lo t,.int hi u,.int 1 v] }).objs.size],_,_,H,rfl,
    I1.kept (t' := tk) fun b o e => Heap.get?_push_of_some _ e,zgR _ lo (hi - lo).toNat,?_,fun b hb => ?_,q⟩
  · have e1 : lo + ((0 : Nat) : Int) * 1 = lo := by simp
    have e2 : (((hi - lo).toNat : Nat) : Int) - ((0 : Nat) : Int) = Builtin.Range.rangeSize lo hi 1 := by rw [rangeSize_one]; split <;> omega
    show IsRangeIter _ _ (lo + ((0 : Nat) : Int) * 1) ((((hi - lo).toNat : Nat) : Int) - ((0 : Nat) : Int)) 1
    rw [e1,e2]
    exact Heap.get?_push_size _ rfl
  · have e : b = (s.heap.push { cls := .type "range",data := .fields #[.int lo t,.int hi u,.int 1 v] }).objs.size := by simpa using hb
    subst e
    exact I1.fpOk (Nat.le_refl _) (I1.hok.fresh (Nat.le_refl _))
noncomputable def zn9 (ta : TA) : TI := fun σ H R => ta σ H fun vs H1 => ∃ j : Int,vs = [.int j]∧-(2 ^ 62)≤j∧j < 2 ^ 62∧R (Itr 0 j.toNat) H1
theorem zhP {a : Expr} {ta : TA} {p pos : Pos} (hg : Gl X "range") (hm : X.mg "range" = none) (ha : PA X [a] ta) (hs : starEach [a] X.env = [(false,eval a X.env)] := by rfl) : PI X tg (.Call (.Name "range" p) [a] [] pos) (zn9 ta) := by
  intro pins s σ H R I h
  refine Call_ (zeK I hg hm boot_range (PyProof.Rows.callWith_type1 (thn (ha pos pins s σ H _ I h) fun us s1 ⟨vs,H1,I1,r1,q1⟩ => ?_) hs rfl))
  obtain ⟨j,e,q1,q2,q⟩ := q1
  subst e
  cases r1 with
  | cons r rr =>
    cases rr
    obtain ⟨t,rfl⟩ := r
    exact call_range_1 (zi4 I1 (by omega) (by omega) q1 q2 (by simpa using q))
noncomputable def tFor (wi : TI) (g : TG) (tb : TS) : TS := fun D σ H => wi σ H fun J H1 => ∃ W : Nat→Nat→St→Hp→Prop,(∃ m,W 0 m σ H1)∧∀ i m σ H,W i m σ H →
  (J.stop i H∧D.nx σ H)∨(J.go i H∧∃ N : St→Hp→Prop,(∀ σ' H',N σ' H'→∃ m',m' < m∧W (i + 1) m' σ' H')∧∀ x H',J.yld i H x H'→g x σ H' fun σ2 H2 => tb { D with nx := N,ct := N,bk := D.nx } σ2 H2)
noncomputable def zfx (fp : List Addr) (h : Heap) : List (Addr × Obj) := fp.filterMap fun b => (h.get? b).map fun o => (b,o)
theorem zcu {fp : List Addr} {h : Heap} {b : Addr} {o : Obj} (hb : b∈fp) (e : h.get? b = some o) : (b,o)∈zfx fp h := List.mem_filterMap.mpr ⟨b,hb,by rw [e]; rfl⟩
theorem zh0 {fp : List Addr} {h : Heap} {p : Addr × Obj} (hp : p∈zfx fp h) : p.1∈fp∧h.get? p.1 = some p.2 := by
  obtain ⟨b,hb,e⟩ := List.mem_filterMap.mp hp
  cases q : h.get? b with
  | none => rw [q] at e; cases e
  | some o =>
    rw [q] at e
    have e' : (b,o) = p := Option.some.inj e
    subst e'
    exact ⟨hb,q⟩
theorem Inv.pinned {pins : List (Addr × Obj)} {σ : St} {H : Hp} {s : Shared} {fp : List Addr} (I : Inv X pins σ H s) (hf : ∀ b∈fp,FpOk X pins H b) (ho : ∀ b∈fp,∃ o,s.heap.get? b = some o∧∀ v,o.data≠.cell v) : Inv X (pins++zfx fp s.heap) σ H s :=
  I.pins_of fun p hp => (List.mem_append.mp hp).elim (fun z => I.pin p (List.mem_append_right _ z)) fun z => by
    obtain ⟨hb,e⟩ := zh0 z
    obtain ⟨f0,f1,f2,_⟩ := hf p.1 hb
    obtain ⟨o,e',d⟩ := ho p.1 hb
    rw [e] at e'; cases e'
    exact ⟨e,f0,f1,f2,d⟩
theorem Inv.unpinned {pins pl : List (Addr × Obj)} {σ : St} {H : Hp} {s : Shared} (I : Inv X (pins++pl) σ H s) : Inv X pins σ H s := I.pins_of fun p hp => I.pin p (List.mem_append_right _ (List.mem_append_left _ hp))
theorem zhM {iter : Expr} {body : List Stmt} {wi : TI} {g : TG} {tb : TS} {pos : Pos} (hp : PassesOwn (model X.prog X.w) X.A X.env X.xe) (hc : X.calm = true) (hi : PI X tg iter wi) (hg : PG X tg g) (hb : PSs X body tb)
    (hs : ∀ x,foldedSetIterable iter X.env x = pure x := by intro _; rfl) : PS X (.For tg iter body [] pos) (tFor wi g tb) := by
  intro pins s σ H D I h
  refine wpAny_For (thn (hi pins s σ H _ I h) fun v s1 h1 => thn h1 fun itv s2 h2 => ?_) hs
  obtain ⟨it,fp,tn,J,H2,e,I2,T,st2,f2,W,⟨m0,w0⟩,turn⟩ := h2
  subst e
  have stat : ∀ {H' : Hp},(∀ b∈fp,H' b = none)→∀ b∈fp,FpOk X pins H' b := fun hn b hb => ⟨hn b hb,(f2 b hb).2⟩
  refine codeAny_forLoop_any (fun n s' => ∃ i σ' H',Inv X pins σ' H' s'∧tn i s'.heap∧(∀ b∈fp,H' b = none)∧W i n σ' H') ?_ m0 ⟨0,σ,H2,I2,st2,fun b hb => (f2 b hb).1,w0⟩
  rintro n s3 ⟨i,σ3,H3,I3,st3,fr3,w3⟩
  rcases turn i n σ3 H3 w3 with ⟨stop,qn⟩ | ⟨go,N,hN,step⟩
  · refine wpAny_passesOwn hp (thn (T.done X rfl rfl rfl hc i pins s3 σ3 H3 X.xe I3 (stat fr3) st3 stop) fun r s4 ⟨hr,I4⟩ => ?_)
    subst hr
    exact wpAny_execs_nil ⟨σ3,H3,I4,qn⟩
  · refine wpAny_passesOwn hp (thn (T.item X rfl rfl rfl hc i pins s3 σ3 H3 X.xe I3 (stat fr3) st3 go) fun r s4 ⟨u,hr,h4⟩ => ?_)
    subst hr
    refine wpAny_passesOwn hp (thn h4 fun _ s5 ⟨x,H5,I5,r5,y5,st5,fr5⟩ => ?_)
    have I5' := I5.pinned (stat fr5) (T.obj _ _ st5)
    refine wpAny_passesOwn hp (thn (hg _ s5 σ3 H5 x u _ I5' r5 (step x H5 y5)) fun _ s6 ⟨σ6,H6,I6,q6⟩ => ?_)
    refine wpAny_passesOwn hp (thn (hb _ s6 σ6 H6 _ I6 q6) fun f s7 q7 => ?_)
    have again : ∀ {σ7 : St} {H7 : Hp},Inv X (pins++zfx fp s5.heap) σ7 H7 s7→N σ7 H7→∃ m,m < n∧∃ i σ' H',Inv X pins σ' H' s7∧tn i s7.heap∧(∀ b∈fp,H' b = none)∧W i m σ' H' := fun {σ7 H7} I7 n7 => by
      obtain ⟨m',hm,w7⟩ := hN σ7 H7 n7
      refine ⟨m',hm,i + 1,σ7,H7,I7.unpinned,T.keep _ _ _ st5 fun b hb o e => (I7.pin (b,o) (List.mem_append_right _ (List.mem_append_right _ (zcu hb e)))).1,fun b hb => ?_,w7⟩
      obtain ⟨o,e,d⟩ := T.obj _ _ st5 b hb
      exact (I7.pin (b,o) (List.mem_append_right _ (List.mem_append_right _ (zcu hb e)))).2.1
    cases f with
    | next => obtain ⟨σ7,H7,I7,n7⟩ := q7; exact again I7 n7
    | cont => obtain ⟨σ7,H7,I7,n7⟩ := q7; exact again I7 n7
    | brk => obtain ⟨σ7,H7,I7,q7⟩ := q7; exact ⟨σ7,H7,I7.unpinned,q7⟩
    | ret v => obtain ⟨x7,σ7,H7,I7,r7,q7⟩ := q7; exact ⟨x7,σ7,H7,I7.unpinned,r7,q7⟩
end
end L2
namespace L2
open PySem PySem.Spec PyProof.Rows
noncomputable abbrev R2 := V→V→Hp→VK→Prop
noncomputable def OpR (X : Cx) (f : Value→Value→Sem Value) (r : R2) : Prop :=
  ∀ (pins : List (Addr × Obj)) (s : Shared) (σ : St) (H : Hp) (x y : V) (v u : Value) (Q : VK),Inv X pins σ H s→RelV x v→RelV y u→r x y H Q →
    wpAny (model X.prog X.w) X.A (f v u) (EP X pins σ Q) X.xe s
noncomputable def UnR (X : Cx) (f : Value→Sem Value) (r : V→Hp→VK→Prop) : Prop :=
  ∀ (pins : List (Addr × Obj)) (s : Shared) (σ : St) (H : Hp) (x : V) (v : Value) (Q : VK),Inv X pins σ H s→RelV x v→r x H Q →
    wpAny (model X.prog X.w) X.A (f v) (EP X pins σ Q) X.xe s
noncomputable def zdk (X : Cx) (f : Value) (r : List V→Hp→VK→Prop) : Prop :=
  ∀ (pins : List (Addr × Obj)) (s : Shared) (σ : St) (H : Hp) (xs : List V) (us : List Value) (Q : VK),Inv X pins σ H s→Vals xs us→r xs H Q →
    wpAny (model X.prog X.w) X.A (call f us) (EP X pins σ Q) X.xe s
noncomputable def TruR (X : Cx) (r : V→Hp→(Bool→Hp→Prop)→Prop) : Prop :=
  ∀ (pins : List (Addr × Obj)) (s : Shared) (σ : St) (H : Hp) (x : V) (v : Value) (Q : Bool→Hp→Prop),Inv X pins σ H s→RelV x v→r x H Q →
    wpAny (model X.prog X.w) X.A (truthy v) (TP X pins σ Q) X.xe s
noncomputable def tOp (r : R2) (ta tb : TE) : TE := fun σ H Q => ta σ H fun x H1 => tb σ H1 fun y H2 => r x y H2 Q
noncomputable def tUn (r : V→Hp→VK→Prop) (ta : TE) : TE := fun σ H Q => ta σ H fun x H1 => r x H1 Q
noncomputable def rI (C : Int→Int→Prop) (g : Int→Int→V) : R2 := fun x y H Q => ∃ i j,x = .int i∧y = .int j∧C i j∧Q (g i j) H
noncomputable def rI0 (g : Int→Int→V) : R2 := fun x y H Q => ∃ i j,x = .int i∧y = .int j∧Q (g i j) H
noncomputable def rU (g : Int→V) : V→Hp→VK→Prop := fun x H Q => ∃ i,x = .int i∧Q (g i) H
section
variable {X : Cx} {a b c : Expr} {ta tb tc : TE} {pos : Pos}
theorem binT (ha : PE X a ta) (hb : PE X b tb) {pins : List (Addr × Obj)} {s : Shared} {σ : St} {H : Hp} {R : V→V→Hp→Prop} (I : Inv X pins σ H s)
    (h : ta σ H fun x H1 => tb σ H1 fun y H2 => R x y H2) {Q : Value→Shared→Prop} {f : Value→Value→Sem Value}
    (hf : ∀ v u s2 x y H2,Inv X pins σ H2 s2→RelV x v→RelV y u→R x y H2→wpAny (model X.prog X.w) X.A (f v u) Q X.xe s2) :
    wpAny (model X.prog X.w) X.A (eval a X.env) (fun v s₁ => wpAny (model X.prog X.w) X.A (eval b X.env) (fun u s₂ => wpAny (model X.prog X.w) X.A (f v u) Q X.xe s₂) X.xe s₁) X.xe s := by
  refine thn (ha pins s σ H _ I h) fun v s1 ⟨x,H1,I1,r1,q1⟩ => ?_
  refine thn (hb pins s1 σ H1 _ I1 q1) fun u s2 ⟨y,H2,I2,r2,q2⟩ => ?_
  exact hf v u s2 x y H2 I2 r1 r2 q2
theorem znT {op : Operator} {r : R2} (ho : OpR X (binaryOp op) r) (ha : PE X a ta) (hb : PE X b tb) : PE X (.BinOp a op b pos) (tOp r ta tb) := by
  intro pins s σ H Q I h
  exact wpAny_BinOp (binT ha hb I h fun v u s2 x y H2 I2 rx ry q => ho pins s2 σ H2 x y v u Q I2 rx ry q)
theorem znS {op : UnaryOp} {r : V→Hp→VK→Prop} (ho : UnR X (unaryOp op) r) (ha : PE X a ta) : PE X (.UnaryOp op a pos) (tUn r ta) := by
  intro pins s σ H Q I h
  exact UnaryOp_ (thn (ha pins s σ H _ I h) fun v s1 ⟨x,H1,I1,r1,q1⟩ => ho pins s1 σ H1 x v Q I1 r1 q1)
theorem opI {f : Value→Value→Sem Value} {C : Int→Int→Prop} {g : Int→Int→Int}
    (rule : ∀ (i j : Int) (t u : Tok) (s : Shared) (Q : Value→Shared→Prop) (E : Value→Shared→Prop),C i j→Q (.int (g i j) s.toks) { s with toks := s.toks + 1 }→wpAny (model X.prog X.w) X.A (f (.int i t) (.int j u)) Q E s) :
    OpR X f (rI C fun i j => .int (g i j)) := by
  intro pins s σ H x y v u Q I rx ry h
  obtain ⟨i,j,rfl,rfl,hc,q⟩ := h
  obtain ⟨t,rfl⟩ := rx
  obtain ⟨t',rfl⟩ := ry
  exact rule i j t t' s _ _ hc ⟨.int (g i j),H,I.tok _,⟨_,rfl⟩,q⟩
theorem opI0 {f : Value→Value→Sem Value} {g : Int→Int→Int}
    (rule : ∀ (i j : Int) (t u : Tok) (s : Shared) (Q : Value→Shared→Prop) (E : Value→Shared→Prop),Q (.int (g i j) s.toks) { s with toks := s.toks + 1 }→wpAny (model X.prog X.w) X.A (f (.int i t) (.int j u)) Q E s) :
    OpR X f (rI0 fun i j => .int (g i j)) := by
  intro pins s σ H x y v u Q I rx ry h
  obtain ⟨i,j,rfl,rfl,q⟩ := h
  obtain ⟨t,rfl⟩ := rx
  obtain ⟨t',rfl⟩ := ry
  exact rule i j t t' s _ _ ⟨.int (g i j),H,I.tok _,⟨_,rfl⟩,q⟩
theorem opB0 {f : Value→Value→Sem Value} {g : Int→Int→Bool}
    (rule : ∀ (i j : Int) (t u : Tok) (s : Shared) (Q : Value→Shared→Prop) (E : Value→Shared→Prop),Q (.bool (g i j)) s→wpAny (model X.prog X.w) X.A (f (.int i t) (.int j u)) Q E s) :
    OpR X f (rI0 fun i j => .bl (g i j)) := by
  intro pins s σ H x y v u Q I rx ry h
  obtain ⟨i,j,rfl,rfl,q⟩ := h
  obtain ⟨t,rfl⟩ := rx
  obtain ⟨t',rfl⟩ := ry
  exact rule i j t t' s _ _ ⟨.bl (g i j),H,I,rfl,q⟩
noncomputable def CDiv (i j : Int) : Prop := 0 < j∧j < 1073741824
noncomputable def CPow (i j : Int) : Prop := 0≤j∧j≤1000000∧i.natAbs < 2 ^ 64
noncomputable def CMul (i j : Int) : Prop := (-(2 ^ 64) < i∧i < 2 ^ 64)∨(-(2 ^ 64) < j∧j < 2 ^ 64)
theorem CMul.ok {i j : Int} (h : CMul i j) : IntMulOk i j := by
  rcases h with ⟨h1,h2⟩ | ⟨h1,h2⟩
  · exact .of_left (intBits_le_64 h1 h2)
  · exact .of_right (intBits_le_64 h1 h2)
theorem zmG : OpR X (binaryOp .Add) (rI0 fun i j => .int (i + j)) := opI0 fun _ _ _ _ _ _ _ q => add_int q
theorem zmz : OpR X (binaryOp .Sub) (rI0 fun i j => .int (i - j)) := opI0 fun _ _ _ _ _ _ _ q => sub_int q
theorem zmB : OpR X (binaryOp .Mult) (rI CMul fun i j => .int (i * j)) := opI fun _ _ _ _ _ _ _ hc q => mul_int q hc.ok
theorem zkS : OpR X (binaryOp .FloorDiv) (rI CDiv fun i j => .int (i / j)) := opI fun i j _ _ _ _ _ hc q => by
  have h1 : (0 : Int) < j := hc.1
  have h2 : j < 1073741824 := hc.2
  exact floordiv_int (by omega) (by rw [Int.fdiv_eq_ediv_of_nonneg i (by omega)]; exact q) (.inl (PyProof.noPylong_small (by omega)))
theorem zmC : OpR X (binaryOp .Mod) (rI (fun _ j => 0 < j) fun i j => .int (i % j)) := opI fun i j _ _ _ _ _ hc q => by
  have h1 : (0 : Int) < j := hc
  exact mod_int' (by omega) (by rw [Int.fmod_eq_emod_of_nonneg i (by omega)]; exact q)
theorem zmA : OpR X (binaryOp .Pow) (rI CPow fun i j => .int (i ^ j.toNat)) := opI fun _ _ _ _ _ _ _ hc q => pow_int_small hc.1 hc.2.1 hc.2.2 q
theorem unI {f : Value→Sem Value} {g : Int→Int}
    (rule : ∀ (i : Int) (t : Tok) (s : Shared) (Q : Value→Shared→Prop) (E : Value→Shared→Prop),Q (.int (g i) s.toks) { s with toks := s.toks + 1 }→wpAny (model X.prog X.w) X.A (f (.int i t)) Q E s) :
    UnR X f (rU fun i => .int (g i)) := by
  intro pins s σ H x v Q I rx h
  obtain ⟨i,rfl,q⟩ := h
  obtain ⟨t,rfl⟩ := rx
  exact rule i t s _ _ ⟨.int (g i),H,I.tok _,⟨_,rfl⟩,q⟩
theorem zlA : UnR X (unaryOp .USub) (rU fun i => .int (-i)) := unI fun _ _ _ _ _ q => neg_int q
end
noncomputable def scal : V→V→Bool
  | .non,.non => true | .non,.int _ => true | .int _,.non => true | .non,.bl _ => true | .bl _,.non => true | .non,.str _ => true | .str _,.non => true
  | .int _,.int _ => true | .bl _,.bl _ => true | .str _,.str _ => true | .byt _,.byt _ => true
  | .int _,.str _ => true | .str _,.int _ => true | .bl _,.str _ => true | .str _,.bl _ => true
  | _,_ => false
noncomputable def rEq : R2 := fun x y H Q => scal x y = true∧Q (.bl (decide (x = y))) H
noncomputable def rNe : R2 := fun x y H Q => scal x y = true∧Q (.bl (! decide (x = y))) H
theorem zgh {i j : Int} : decide (V.int i = V.int j) = (i == j) := by
  rw [Bool.eq_iff_iff]
  simp
theorem ziA {i j : Bool} : decide (V.bl i = V.bl j) = (i == j) := by
  rw [Bool.eq_iff_iff]
  simp
theorem zgg {i j : Str} : decide (V.str i = V.str j) = (i == j) := by
  rw [Bool.eq_iff_iff]
  simp
theorem ziz {i j : Array UInt8} : decide (V.byt i = V.byt j) = (i.toList == j.toList) := by
  rw [Bool.eq_iff_iff]
  cases i
  cases j
  simp
section
variable {X : Cx} {a b c : Expr} {ta tb tc : TE} {pos : Pos}
theorem zav {pins : List (Addr × Obj)} {σ : St} {H : Hp} {s : Shared} {Q : VK} {k k' : Bool} (I : Inv X pins σ H s) (q : Q (.bl k) H) (e : k = k') : EP X pins σ Q (.bool k') s := by
  subst e
  exact ⟨.bl k,H,I,rfl,q⟩
theorem zmF : OpR X (compareOp .Eq) rEq := by
  intro pins s σ H x y v u Q I rx ry h
  obtain ⟨hs,q⟩ := h
  cases x with
  | non =>
    cases rx
    cases y with
    | non => cases ry; exact PySem.EqNone.eq_none_none (zav I q (by simp))
    | bl j => cases ry; exact PySem.EqNone.eq_none_bool (zav I q (by simp))
    | int j => obtain ⟨t',rfl⟩ := ry; exact PySem.EqNone.eq_none_int (zav I q (by simp))
    | str j => obtain ⟨t',rfl⟩ := ry; exact PySem.EqNone.eq_none_str (zav I q (by simp))
    | _ => exact absurd (show false = true from hs) Bool.false_ne_true
  | bl i =>
    cases rx
    cases y with
    | non => cases ry; exact PySem.EqNone.eq_bool_none (zav I q (by simp))
    | bl j => cases ry; exact eq_bool (zav I q ziA)
    | str j => obtain ⟨t',rfl⟩ := ry; exact PySem.EqMixed.eq_bool_str (zav I q (by simp))
    | _ => exact absurd (show false = true from hs) Bool.false_ne_true
  | int i =>
    obtain ⟨t,rfl⟩ := rx
    cases y with
    | non => cases ry; exact PySem.EqNone.eq_int_none (zav I q (by simp))
    | int j => obtain ⟨t',rfl⟩ := ry; exact eq_int (zav I q zgh)
    | str j => obtain ⟨t',rfl⟩ := ry; exact PySem.EqMixed.eq_int_str (zav I q (by simp))
    | _ => exact absurd (show false = true from hs) Bool.false_ne_true
  | str i =>
    obtain ⟨t,rfl⟩ := rx
    cases y with
    | non => cases ry; exact PySem.EqNone.eq_str_none (zav I q (by simp))
    | bl j => cases ry; exact PySem.EqMixed.eq_str_bool (zav I q (by simp))
    | int j => obtain ⟨t',rfl⟩ := ry; exact PySem.EqMixed.eq_str_int (zav I q (by simp))
    | str j => obtain ⟨t',rfl⟩ := ry; exact eq_str (zav I q zgg)
    | _ => exact absurd (show false = true from hs) Bool.false_ne_true
  | byt i =>
    obtain ⟨t,rfl⟩ := rx
    cases y with
    | byt j => obtain ⟨t',rfl⟩ := ry; exact PySem.W.eq_bytes (zav I q ziz)
    | _ => exact absurd (show false = true from hs) Bool.false_ne_true
  | _ => cases y <;> exact absurd (show false = true from hs) Bool.false_ne_true
theorem znX : OpR X (compareOp .NotEq) rNe := by
  intro pins s σ H x y v u Q I rx ry h
  obtain ⟨hs,q⟩ := h
  cases x with
  | non =>
    cases rx
    cases y with
    | non => cases ry; exact PySem.EqNone.ne_none_none (zav I q (by simp))
    | bl j => cases ry; exact PySem.EqNone.ne_none_bool (zav I q (by simp))
    | int j => obtain ⟨t',rfl⟩ := ry; exact PySem.EqNone.ne_none_int (zav I q (by simp))
    | str j => obtain ⟨t',rfl⟩ := ry; exact PySem.EqNone.ne_none_str (zav I q (by simp))
    | _ => exact absurd (show false = true from hs) Bool.false_ne_true
  | bl i =>
    cases rx
    cases y with
    | non => cases ry; exact PySem.EqNone.ne_bool_none (zav I q (by simp))
    | bl j => cases ry; exact ne_bool (zav I q (congrArg not ziA))
    | str j => obtain ⟨t',rfl⟩ := ry; exact PySem.EqMixed.ne_bool_str (zav I q (by simp))
    | _ => exact absurd (show false = true from hs) Bool.false_ne_true
  | int i =>
    obtain ⟨t,rfl⟩ := rx
    cases y with
    | non => cases ry; exact PySem.EqNone.ne_int_none (zav I q (by simp))
    | int j => obtain ⟨t',rfl⟩ := ry; exact ne_int (zav I q (congrArg not zgh))
    | str j => obtain ⟨t',rfl⟩ := ry; exact PySem.EqMixed.ne_int_str (zav I q (by simp))
    | _ => exact absurd (show false = true from hs) Bool.false_ne_true
  | str i =>
    obtain ⟨t,rfl⟩ := rx
    cases y with
    | non => cases ry; exact PySem.EqNone.ne_str_none (zav I q (by simp))
    | bl j => cases ry; exact PySem.EqMixed.ne_str_bool (zav I q (by simp))
    | int j => obtain ⟨t',rfl⟩ := ry; exact PySem.EqMixed.ne_str_int (zav I q (by simp))
    | str j => obtain ⟨t',rfl⟩ := ry; exact ne_str (zav I q (congrArg not zgg))
    | _ => exact absurd (show false = true from hs) Bool.false_ne_true
  | byt i =>
    obtain ⟨t,rfl⟩ := rx
    cases y with
    | byt j => obtain ⟨t',rfl⟩ := ry; exact PySem.W.ne_bytes (zav I q (congrArg not ziz))
    | _ => exact absurd (show false = true from hs) Bool.false_ne_true
  | _ => cases y <;> exact absurd (show false = true from hs) Bool.false_ne_true
theorem zkR : OpR X (compareOp .Lt) (rI0 fun i j => .bl (decide (i < j))) := opB0 fun _ _ _ _ _ _ _ q => lt_int q
theorem znY : OpR X (compareOp .LtE) (rI0 fun i j => .bl (decide (i≤j))) := opB0 fun _ _ _ _ _ _ _ q => le_int q
theorem znZ : OpR X (compareOp .Gt) (rI0 fun i j => .bl (decide (j < i))) := opB0 fun _ _ _ _ _ _ _ q => gt_int q
theorem zhX : OpR X (compareOp .In) (fun x y H Q => ∃ i j,x = .str i∧y = .str j∧Q (.bl (!(Builtin.Str.occurrences j i 0 j.length 1).isEmpty)) H) := by
  intro pins s σ H x y v u Q I rx ry h
  obtain ⟨i,j,rfl,rfl,q⟩ := h
  obtain ⟨t,rfl⟩ := rx
  obtain ⟨t',rfl⟩ := ry
  exact in_str (zav I q rfl)
theorem zkQ : OpR X (compareOp .IsNot) (fun x y H Q => y = .non∧Q (.bl (! decide (x = .non))) H) := by
  intro pins s σ H x y v u Q I rx ry h
  obtain ⟨rfl,q⟩ := h
  cases ry
  refine isnot_none_gen (zav I q ?_)
  cases x <;> first
    | (cases rx; rfl)
    | (obtain ⟨t,rfl⟩ := rx; rfl)
theorem OpR.or {f : Value→Value→Sem Value} {r r' : R2} (h : OpR X f r) (h' : OpR X f r') : OpR X f (fun x y H Q => r x y H Q∨r' x y H Q) := by
  intro pins s σ H x y v u Q I rx ry q
  rcases q with q | q
  · exact h pins s σ H x y v u Q I rx ry q
  · exact h' pins s σ H x y v u Q I rx ry q
theorem zdJ (b : Expr) {op : CmpOp} (h : op≠.In := by decide) (h2 : op≠.NotIn := by decide) : behindInMarks op b = false := by
  have e1 : (op == CmpOp.In) = false := by cases op <;> first | rfl | exact absurd rfl h
  have e2 : (op == CmpOp.NotIn) = false := by cases op <;> first | rfl | exact absurd rfl h2
  cases b <;> simp [behindInMarks,e1,e2]
theorem zkK {op : CmpOp} {r : R2} (ho : OpR X (compareOp op) r) (ha : PE X a ta) (hb : PE X b tb) (hm : behindInMarks op b = false) : PE X (.Compare a [op] [b] pos) (tOp r ta tb) := by
  intro pins s σ H Q I h
  exact wpAny_Compare1 (binT ha hb I h fun v u s2 x y H2 I2 rx ry q => ho pins s2 σ H2 x y v u Q I2 rx ry q) hm
noncomputable def znv (t : TE) : TT := fun σ H Q => t σ H fun x H' => ∃ k,x = .bl k∧Q k H'
theorem zkD {op : CmpOp} {r : R2} (ho : OpR X (compareOp op) r) (ha : PE X a ta) (hb : PE X b tb) (hm : behindInMarks op b = false) : PT X (.Compare a [op] [b] pos) (znv (tOp r ta tb)) := by
  intro pins s σ H Q I h
  refine wpAny_isTrue_Compare1 (thn (ha pins s σ H _ I h) fun v s1 ⟨x,H1,I1,r1,q1⟩ => thn (hb pins s1 σ H1 _ I1 q1) fun u s2 ⟨y,H2,I2,r2,q2⟩ =>
    thn (ho pins s2 σ H2 x y v u _ I2 r1 r2 q2) fun c s3 ⟨z,H3,I3,r3,k,e,q3⟩ => ?_) hm
  subst e
  cases r3
  exact wpAny_truthy_bool ⟨H3,I3,q3⟩
noncomputable def zjT (r r' : R2) (ta tb tc : TE) : TE := fun σ H Q => ta σ H fun x H1 => tb σ H1 fun y H2 => r x y H2 fun z H3 => ∃ k,z = .bl k ∧
  (if k = true then tc σ H3 fun w' H4 => r' y w' H4 Q else Q (.bl false) H3)
theorem zjd {op op' : CmpOp} {r r' : R2} (ho : OpR X (compareOp op) r) (ho' : OpR X (compareOp op') r') (ha : PE X a ta) (hb : PE X b tb) (hc : PE X c tc)
    (hm : lastMarks [op,op'] [b,c] = false := by with_unfolding_all rfl) : PE X (.Compare a [op,op'] [b,c] pos) (zjT r r' ta tb tc) := by
  intro pins s σ H Q I h
  refine Compare_chain (thn (ha pins s σ H _ I h) fun v s1 ⟨x,H1,I1,r1,q1⟩ => chain_link (thn (hb pins s1 σ H1 _ I1 q1) fun u s2 ⟨y,H2,I2,r2,q2⟩ =>
    thn (ho pins s2 σ H2 x y v u _ I2 r1 r2 q2) fun d s3 ⟨z,H3,I3,r3,k,e,q3⟩ => ?_)) hm
  subst e
  cases r3
  refine wpAny_truthy_bool ?_
  cases k with
  | false => exact ite_ff ⟨.bl false,H3,I3,rfl,q3⟩
  | true => exact ite_tt (chain_last (thn (hc pins s3 σ H3 _ I3 q3) fun w' s4 ⟨z',H4,I4,r4,q4⟩ => ho' pins s4 σ H4 y z' u w' Q I4 r2 r4 q4))
noncomputable def TruV (K : PySem.W.Frag) (x : V) (H : Hp) (k : Bool) : Prop :=
  match x with
  | .non => k = false
  | .bl b => k = b
  | .int i => k = (i != 0)
  | .str y => y.length≤sizeLine∧k = ((y.length : Int) != 0)
  | .byt y => y.size≤sizeLine∧k = ((y.size : Int) != 0)
  | .ref p => (∃ xs,SqL K H p xs∧k = ! xs.isEmpty)∨(∃ xs,SqT K H p xs∧k = ! xs.isEmpty)∨∃ kvs,Rd H p (.dK kvs)∧k = ! kvs.isEmpty
  | _ => False
theorem zhc {κ : Type} {kvs : List (κ × V)} {vs : List (κ × Value)} (r : KV kvs vs) : (! vs.isEmpty) = ! kvs.isEmpty := by
  cases r <;> rfl
theorem zeL {xs : List V} {its : List Value} (r : Vals xs its) : (! its.toArray.isEmpty) = ! xs.isEmpty := by
  cases r <;> simp
theorem zeJ : (sizeLine : Nat) < 2 ^ 63 := by rw [sizeLine_eq]; decide
theorem zlG : TruR X (fun x H Q => ∃ k,TruV X.K x H k∧Q k H) := by
  intro pins s σ H x v Q I rx h
  obtain ⟨k,e,q⟩ := h
  have hl := zeJ
  have hs : sizeLine = 16777216 := sizeLine_eq
  cases x with
  | non =>
    cases rx
    have e' : k = false := e
    subst e'
    exact truthy_none ⟨H,I,q⟩
  | bl b =>
    cases rx
    have e' : k = b := e
    subst e'
    exact wpAny_truthy_bool ⟨H,I,q⟩
  | int i =>
    obtain ⟨t,rfl⟩ := rx
    have e' : k = (i != 0) := e
    subst e'
    exact PySem.P.truthy_int ⟨H,I,q⟩
  | str y =>
    obtain ⟨t,rfl⟩ := rx
    obtain ⟨hy,e'⟩ : y.length≤sizeLine∧k = ((y.length : Int) != 0) := e
    subst e'
    exact PySem.P.truthy_str (by omega) ⟨H,I.tok _,q⟩
  | byt y =>
    obtain ⟨t,rfl⟩ := rx
    obtain ⟨hy,e'⟩ : y.size≤sizeLine∧k = ((y.size : Int) != 0) := e
    subst e'
    exact PySem.W.truthy_bytes (by omega) ⟨H,I.tok _,q⟩
  | ref p =>
    cases rx
    have e' : (∃ xs,SqL X.K H p xs∧k = ! xs.isEmpty)∨(∃ xs,SqT X.K H p xs∧k = ! xs.isEmpty)∨∃ kvs,Rd H p (.dK kvs)∧k = ! kvs.isEmpty := e
    rcases e' with ⟨xs,hx,e'⟩ | ⟨xs,hx,e'⟩ | ⟨kvs,hx,e'⟩
    · subst e'
      obtain ⟨its,r,pl,hz⟩ := I.list hx
      have hlen := r.length
      exact wpAny_truthy_list pl.isList (by simp only [List.size_toArray]; omega) ⟨H,I.tok _,by rw [zeL r]; exact q⟩
    · subst e'
      obtain ⟨its,r,pl,hz⟩ := I.tuple hx
      have hlen := r.length
      exact truthy_tuple pl (by simp only [List.size_toArray]; omega) ⟨H,I.tok _,by rw [zeL r]; exact q⟩
    · subst e'
      obtain ⟨hz,hS,vs,r,m⟩ : kvs.length≤sizeLine∧(p == sysModules) = false∧∃ vs,KV kvs vs∧s.heap.DictOf (za0 X.prog X.w) p vs := hx.ok I.hok
      have hlen : kvs.length = vs.length := Paired.length r
      exact wpAny_truthy_dict hS m (by omega) ⟨H,I.tok _,by rw [zhc r]; exact q⟩
  | _ => exact (show False from e).elim
theorem zi6 (ha : PE X a ta) (he : ∀ whole,isTrue a X.env whole = (do let v ← whole; standAt a.pos; holding [v] (truthy v))) :
    PT X a (fun σ H Q => ta σ H fun x H' => ∃ k,TruV X.K x H' k∧Q k H') := by
  intro pins s σ H Q I h
  exact isTrue_plain (thn (ha pins s σ H _ I h) fun v s1 ⟨x,H1,I1,r1,q1⟩ => zlG pins s1 σ H1 x v Q I1 r1 q1) (he _)
theorem zg7 : OpR X (binaryOp .Add) (fun x y H Q => ∃ i j,x = .str i∧y = .str j∧i.length + j.length≤sizeLine∧Q (.str (i++j)) H) := by
  intro pins s σ H x y v u Q I rx ry h
  obtain ⟨i,j,rfl,rfl,hz,q⟩ := h
  obtain ⟨t,rfl⟩ := rx
  obtain ⟨t',rfl⟩ := ry
  exact add_str (fun t' tk => ⟨.str (i++j),H,I.tok _,⟨_,rfl⟩,q⟩) hz
theorem zev {x : V} {us : List Value} (r : Vals [x] us) : ∃ u,us = [u]∧RelV x u := by
  cases r with
  | cons r1 r2 => cases r2; exact ⟨_,rfl,r1⟩
theorem zlz {x y : V} {us : List Value} (r : Vals [x,y] us) : ∃ u w',us = [u,w']∧RelV x u∧RelV y w' := by
  cases r with
  | cons r1 r2 =>
    cases r2 with
    | cons r3 r4 => cases r4; exact ⟨_,_,rfl,r1,r3⟩
noncomputable def LenV (K : PySem.W.Frag) (x : V) (H : Hp) (n : Nat) : Prop :=
  match x with
  | .str y => y.length≤sizeLine∧n = y.length
  | .byt y => y.size≤sizeLine∧n = y.size
  | .ref p => (∃ xs,SqL K H p xs∧n = xs.length)∨∃ xs,SqT K H p xs∧n = xs.length
  | _ => False
theorem zjH : zdk X (.builtin "len") (fun xs H Q => ∃ x n,xs = [x]∧LenV X.K x H n∧Q (.int n) H) := by
  intro pins s σ H xs us Q I r h
  obtain ⟨x,n,rfl,e,q⟩ := h
  obtain ⟨u,rfl,rx⟩ := zev r
  have hl := zeJ
  have hs : sizeLine = 16777216 := sizeLine_eq
  cases x with
  | str y =>
    obtain ⟨t,rfl⟩ := rx
    obtain ⟨hy,e'⟩ : y.length≤sizeLine∧n = y.length := e
    subst e'
    exact len_str (by omega) ⟨.int _,H,I.tok _,⟨_,rfl⟩,q⟩
  | byt y =>
    obtain ⟨t,rfl⟩ := rx
    obtain ⟨hy,e'⟩ : y.size≤sizeLine∧n = y.size := e
    subst e'
    exact PySem.W.len_bytes (by omega) ⟨.int _,H,I.tok _,⟨_,rfl⟩,q⟩
  | ref p =>
    cases rx
    have e' : (∃ xs,SqL X.K H p xs∧n = xs.length)∨∃ xs,SqT X.K H p xs∧n = xs.length := e
    rcases e' with ⟨xs,hx,e'⟩ | ⟨xs,hx,e'⟩
    · subst e'
      obtain ⟨its,r',pl,hz⟩ := I.list hx
      have hlen := r'.length
      exact Calls.call_len_list pl.isList (by simp only [List.size_toArray]; omega) ⟨.int xs.length,H,I.tok _,⟨_,by simp only [List.size_toArray]; rw [hlen]⟩,q⟩
    · subst e'
      obtain ⟨its,r',pl,hz⟩ := I.tuple hx
      have hlen := r'.length
      exact len_tuple pl (by simp only [List.size_toArray]; omega) ⟨.int xs.length,H,I.tok _,⟨_,by simp only [List.size_toArray]; rw [hlen]⟩,q⟩
  | _ => exact (show False from e).elim
end
end L2
namespace L2
open PySem PySem.Spec PyProof.Rows
structure ObjM (h : Heap) (x dx C : Addr) (mA : Str→Option Value) : Prop where
  obj : h.get? x = some (PySem.W.instObj C dx)
  ns : h.Ns1 dx mA
  ne : dx≠x
section
variable {prog : Program} {w : World} {A : Around} {E : Value → Shared → Prop} {s : Shared} {K : PySem.W.Frag} {x dx C f : Addr} {mA : Str → Option Value} {name : Str} {v : Value}
end
noncomputable def putF (f : Str) (v : V) : List (Str × V)→List (Str × V)
  | [] => [(f,v)]
  | (g,x)::r => if g = f then (g,v)::r else (g,x)::putF f v r
theorem RelO.some_of {v : V} {o : Option Value} (r : RelO (some v) o) : ∃ u,o = some u∧RelV v u := by
  cases o with
  | none => exact (show False from r).elim
  | some u => exact ⟨u,rfl,r⟩
theorem RelO.none_of {o : Option Value} (r : RelO none o) : o = none := by
  cases o with
  | none => rfl
  | some u => exact (show False from r).elim
section
variable {P : Program} {w : World} {H H' : Hp} {h h' : Heap} {a C dx : Addr} {fs fs' : List (Str × V)}
end
structure Cls (K : PySem.W.Frag) (C : Addr) : Prop where
  pg : PySem.W.plainGet K C Str.empty = true
  hd : PySem.W.hasDictIn K C = true
  po : PySem.W.plainOver K C = true
  sa : PySem.W.findIn K (.ref C) "__setattr__" = some (some (.builtin "object.__setattr__"))
theorem Cls.get {K : PySem.W.Frag} {C : Addr} (c : Cls K C) (f : Str) : PySem.W.plainGet K C f = true := c.pg
structure Con (K : PySem.W.Frag) (C : Addr) (f : Str) (v : V) (u : Value) : Prop where
  at_ : PySem.W.findIn K (.ref C) f = some (some u)
  rel : RelV v u
  get : PySem.W.specialIn K u "__get__" = some none
  cp : PySem.W.copiedNames.contains f = false
structure Meth (K : PySem.W.Frag) (C : Addr) (m : Str) (f : Addr) : Prop where
  at_ : PySem.W.findIn K (.ref C) m = some (some (.ref f))
  fn : PySem.W.isFn K (.ref f) = true
  kp : PySem.W.keepIn K (.ref f) = true
section
variable {X : Cx} {pins : List (Addr × Obj)} {σ : St} {H : Hp} {s : Shared} {a C dx : Addr} {fs : List (Str × V)} {f : Str} {v : V} {A : Around} {E : Value → Shared → Prop}
theorem Inv.made (I : Inv X pins σ H s) : Inv X pins σ (upd (upd H s.heap.objs.size (.own (s.heap.objs.size + 1))) (s.heap.objs.size + 1) (.ins C s.heap.objs.size []))
    { s with heap := (s.heap.push PySem.W.emptyDict).push (PySem.W.instObj C s.heap.objs.size) } := by
  have e1 : (s.heap.push PySem.W.emptyDict).get? s.heap.objs.size = some PySem.W.emptyDict := Heap.get?_push_size s.heap rfl
  have e2 : ((s.heap.push PySem.W.emptyDict).push (PySem.W.instObj C s.heap.objs.size)).get? (s.heap.objs.size + 1) = some (PySem.W.instObj C s.heap.objs.size) := by
    have := Heap.get?_push_size (s.heap.push PySem.W.emptyDict) (o := PySem.W.instObj C s.heap.objs.size) rfl
    rwa [Heap.size_push] at this
  have e3 : (s.heap.push PySem.W.emptyDict).Ns s.heap.objs.size (fun _ => none) := ⟨PySem.W.emptyDict,#[],_,e1,rfl,(fun e he => absurd he (by simp)),fun _ => rfl⟩
  have I1 := I.laid (a := s.heap.objs.size) (o := .own (s.heap.objs.size + 1)) (h' := s.heap.push PySem.W.emptyDict) (t' := s.toks) (fun b u q => Heap.get?_push_of_some _ q) (Nat.le_refl _) ⟨_,e1⟩
  refine I1.laid (a := s.heap.objs.size + 1) (o := .ins C s.heap.objs.size []) (t' := s.toks) (fun b u q => Heap.get?_push_of_some _ q) (Nat.le_of_eq (Heap.size_push _ _)) ?_
  have ne : s.heap.objs.size≠s.heap.objs.size + 1 := Nat.ne_of_lt (Nat.lt_succ_self _)
  refine ⟨by rw [zam ne,zar],Nat.zero_le _,ne,e2,fun _ => none,(Heap.Ns1.of_empty e3).at fun o q => Heap.get?_push_of_some _ q,fun _ => True.intro,fun y hy => absurd rfl hy⟩
end
section
variable {X : Cx} {o e value : Expr} {f : Str} {pos pos' tpos : Pos} {ta tv : TE}
end
section
variable {X : Cx} {pins : List (Addr × Obj)} {σ : St} {H : Hp} {s : Shared} {A : Around} {E : Value → Shared → Prop} {Q : Value → Shared → Prop} {c : Value} {b : Bool}
inductive TyOf (K : PySem.W.Frag) (H : Hp) : V→Value→Prop where
  | non : TyOf K H .non (.type "NoneType")
  | bl (x : Bool) : TyOf K H (.bl x) (.type "bool")
  | int (i : Int) : TyOf K H (.int i) (.type "int")
  | str (x : Str) : TyOf K H (.str x) (.type "str")
  | flt (x : UInt64) : TyOf K H (.flt x) (.type "float")
  | lst {a : Addr} {xs : List V} (e : H a = some (.lst xs)) : TyOf K H (.ref a) (.type "list")
  | frz {a : Addr} {o : Obj} {xs : List V} (e : H a = some (.frz o (.lst xs))) : TyOf K H (.ref a) (.type "list")
  | tup {a : Addr} {xs : List V} (e : H a = some (.tup xs)) : TyOf K H (.ref a) (.type "tuple")
  | dK {a : Addr} {kvs : List (Key × V)} (e : H a = some (.dK kvs)) : TyOf K H (.ref a) (.type "dict")
  | dT {a : Addr} {kvs : List (List Key × V)} (e : H a = some (.dT kvs)) : TyOf K H (.ref a) (.type "dict")
  | ins {a C dx : Addr} {fs : List (Str × V)} (e : H a = some (.ins C dx fs)) (cl : Cls K C) (ha : PySem.W.findIn K (.ref C) "__class__" = some (some (.builtin "object.__class__")))
      (hn : PySem.W.specialIn K (.builtin "object.__class__") "__get__" = some (some (.builtin "getset_descriptor.__get__"))) (htk : PySem.W.takesIn K (.builtin "object.__class__") = some true)
      (hm : PySem.W.mroIn K C (.type "object") = some true) : TyOf K H (.ref a) (.ref C)
end
end L2
namespace L2
open PySem PySem.Spec PyProof.Rows
structure Room (k : Nat) (A : Around) : Prop where
  hd : A.handled = none
  dp : A.depth + 3 * k + 5 < recursionLimit
  un : A.units + 16 * k + 200 < cLine
  gd : A.guards = some []
theorem Room.mono {j k : Nat} {A : Around} (r : Room k A) (h : j≤k) : Room j A := ⟨r.hd,by have := r.dp; omega,by have := r.un; omega,r.gd⟩
theorem Room.deeper {k : Nat} {A : Around} (r : Room (k + 1) A) (env : Env) : Room k (A.deeper env) :=
  ⟨r.hd,by have := r.dp; show A.depth + 1 + 3 * k + 5 < _; omega,by have := r.un; show A.units + 3 + 16 * k + 200 < _; omega,r.gd⟩
theorem Room.in1 {k : Nat} {A : Around} (r : Room (k + 1) A) : Room k A.in1 :=
  ⟨r.hd,by have := r.dp; show A.depth + 3 * k + 5 < _; omega,by have := r.un; show A.units + 1 + 16 * k + 200 < _; omega,r.gd⟩
theorem zha {A : Around} {C : Addr} {us : List Value} {kw : List (Str × Value)} : (A.under (.builtin "type.__call__" ⟨.ref C::us,kw⟩)).depth = A.depth + 1 := by
  first | rfl | simp [Around.under,Code.weight,Code.isCreation,Code.isGuard,Code.isCaller,Code.frames,Code.isFrame,guardIds]
theorem zg9 {A : Around} {C : Addr} {us : List Value} {kw : List (Str × Value)} : (A.under (.builtin "type.__call__" ⟨.ref C::us,kw⟩)).units = A.units + 1 := by
  first | rfl | simp [Around.under,Code.cUnits,Code.frames,Code.isFrame]
theorem Room.make {k : Nat} {A : Around} (r : Room (k + 1) A) (C : Addr) (us : List Value) (kw : List (Str × Value)) : Room k (A.under (.builtin "type.__call__" ⟨.ref C::us,kw⟩)) :=
  ⟨r.hd,by have := r.dp; rw [zha]; omega,by have := r.un; rw [zg9]; omega,(by have := r.gd; first | exact this | (simp [Around.under,Code.isGuard,guardIds]; exact this))⟩
theorem Room.depth {k : Nat} {A : Around} (r : Room k A) : A.depth < recursionLimit := by have := r.dp; omega
theorem Room.units {k : Nat} {A : Around} (r : Room k A) : A.units + 64 < cLine := by have := r.un; omega
noncomputable def tNil : TA := fun _ H Q => Q [] H
noncomputable def znA (ta : TE) (tr : TA) : TA := fun σ H Q => ta σ H fun x H1 => tr σ H1 fun xs H2 => Q (x::xs) H2
section
variable {X : Cx} {e : Expr} {es : List Expr} {te : TE} {t : TA} {pos : Pos}
theorem zeI : PA X [] tNil := fun _ _ _ _ H Q I h => Calls.spliced_nil ⟨[],H,I,.nil,h⟩
theorem zbY (ha : PE X e te) (hr : PA X es t) (hs : starEach (e::es) X.env = (false,eval e X.env)::starEach es X.env := by rfl) : PA X (e::es) (znA te t) := by
  intro pos pins s σ H Q I h
  rw [hs]
  show wpAny _ _ (spliced ((false,eval e X.env)::backTo pos (starEach es X.env))) _ _ s
  refine Calls.spliced_cons (thn (ha pins s σ H _ I h) fun u s1 ⟨x,H1,I1,r1,q1⟩ => ?_)
  exact thn (hr pos pins s1 σ H1 _ I1 q1) fun us s2 ⟨xs,H2,I2,r2,q2⟩ => ⟨x::xs,H2,I2,.cons r1 r2,q2⟩
noncomputable def tTup (t : TA) : TE := fun σ H Q => t σ H fun xs H1 => xs.length≤sizeLine∧∀ p,H1 p = none→Q (.ref p) (upd H1 p (.tup xs))
noncomputable def tLst (t : TA) : TE := fun σ H Q => t σ H fun xs H1 => xs.length≤sizeLine∧∀ p,H1 p = none→Q (.ref p) (upd H1 p (.lst xs))
theorem zmo {x1} (h : PA X es t) : PE X (.Tuple es x1 pos) (tTup t) := by
  intro pins s σ H Q I hq
  refine wpAny_Tuple_spliced (thn (h pos pins s σ H _ I hq) fun us s1 ⟨xs,H1,I1,r,z,q⟩ => ⟨by rw [← r.length]; exact z,?_⟩)
  have hf : H1 s1.heap.objs.size = none := I1.hok.fresh (Nat.le_refl _)
  refine ⟨.ref s1.heap.objs.size,upd H1 s1.heap.objs.size (.tup xs),I1.laid (t' := s1.toks) (fun b u e => Heap.get?_push_of_some _ e) (Nat.le_refl _) ?_,rfl,q _ hf⟩
  exact ⟨z,us,r,⟨_,Heap.get?_push_size _ rfl,rfl,_,rfl⟩,_,Heap.get?_push_size _ rfl,rfl⟩
theorem zmt (h : PA X es t) : PE X (.List es pos) (tLst t) := by
  intro pins s σ H Q I hq
  refine wpAny_List_spliced (thn (h pos pins s σ H _ I hq) fun us s1 ⟨xs,H1,I1,r,z,q⟩ => ⟨by rw [← r.length]; exact z,?_⟩)
  have hf : H1 s1.heap.objs.size = none := I1.hok.fresh (Nat.le_refl _)
  refine ⟨.ref s1.heap.objs.size,upd H1 s1.heap.objs.size (.lst xs),I1.laid (t' := s1.toks) (fun b u e => Heap.get?_push_of_some _ e) (Nat.le_refl _) ?_,rfl,q _ hf⟩
  exact ⟨z,us,0,r,Heap.get?_push_size _ rfl⟩
end
noncomputable abbrev Sp := List V→Hp→VK→XK→Prop
noncomputable abbrev CXT := List Env→Hp→Shared→XK→Value→Shared→Prop
structure Env0 (P : Program) (w : World) (K : PySem.W.Frag) (mg : Str→Option Value) (base : Heap) (A : Around) (outer : List Env) (s : Shared) (H : Hp) : Prop where
  frames : A.frames = some outer
  mod : Mod K mg base
  bs : ∀ b o,base.get? b = some o→s.heap.get? b = some o∧H b = none
  bsz : base.objs.size≤s.heap.objs.size
  funs : s.heap.FunFrames base outer
  frf : ∀ b∈frs outer,H b = none
  hok : HOk P w H s.heap
  bare : AllBare s.gens
noncomputable def CE (outer : List Env) (P : Program) (w : World) (H : Hp) (s : Shared) (Q : VK) (u : Value) (s' : Shared) : Prop :=
  ∃ v H',s'.os = s.os∧AllBare s'.gens∧Un (frs outer) [] H H' s.heap s'.heap∧HOk P w H' s'.heap∧RelV v u∧Q v H'
noncomputable def CR (CX : CXT) (outer : List Env) (P : Program) (w : World) (H : Hp) (s : Shared) (Q : VK) (E : XK) (r : Result) (s' : Shared) : Prop :=
  match r with
  | .ok (.ret u) => CE outer P w H s Q u s'
  | .ok _ => False
  | .error e => CX outer H s E e s'
structure FnOk (P : Program) (w : World) (K : PySem.W.Frag) (mg : Str→Option Value) (base : Heap) (CX : CXT) (k : Nat) (f : Addr) (fd : FuncData) (ps : List Str) (sp : Sp) : Prop where
  len : ∀ vs H Q E,sp vs H Q E→vs.length = ps.length
  run : ∀ (A : Around) (outer : List Env) (s : Shared) (H : Hp) (args : Args) (us : List Value) (vs : List V) (Q : VK) (E : XK),Room k A→Env0 P w K mg base A outer s H→BindsTo s fd args (ps.zip us)→Vals vs us→sp vs H Q E →
    codeAny (model P w) A (.call (.ref f) args) (CR CX outer P w H s Q E) s
theorem FnOk.mono {P : Program} {w : World} {K : PySem.W.Frag} {mg : Str→Option Value} {base : Heap} {CX : CXT} {j k : Nat} {f : Addr} {fd : FuncData} {ps : List Str} {sp : Sp} (F : FnOk P w K mg base CX j f fd ps sp) (h : j≤k) :
    FnOk P w K mg base CX k f fd ps sp := ⟨F.len,fun A outer s H args us vs Q E hr => F.run A outer s H args us vs Q E (hr.mono h)⟩
theorem FnOk.imp {P : Program} {w : World} {K : PySem.W.Frag} {mg : Str→Option Value} {base : Heap} {CX : CXT} {k : Nat} {f : Addr} {fd : FuncData} {ps : List Str} {sp sp' : Sp} (F : FnOk P w K mg base CX k f fd ps sp)
    (h : ∀ vs H Q E,sp' vs H Q E→sp vs H Q E) : FnOk P w K mg base CX k f fd ps sp' :=
  ⟨fun vs H Q E q => F.len vs H Q E (h _ _ _ _ q),fun A outer s H args us vs Q E hr he hb hv hs => F.run A outer s H args us vs Q E hr he hb hv (h _ _ _ _ hs)⟩
theorem Env0.make {P : Program} {w : World} {K : PySem.W.Frag} {mg : Str→Option Value} {base : Heap} {A : Around} {outer : List Env} {s : Shared} {H : Hp} (e : Env0 P w K mg base A outer s H) (C : Addr) (us : List Value) (kw : List (Str × Value)) :
    Env0 P w K mg base (A.under (.builtin "type.__call__" ⟨.ref C::us,kw⟩)) outer s H := ⟨by first | exact e.frames | (simpa [Around.under,Code.envs,Code.isFrame,pushEnvs] using e.frames),e.mod,e.bs,e.bsz,e.funs,e.frf,e.hok,e.bare⟩
theorem Env0.in1 {P : Program} {w : World} {K : PySem.W.Frag} {mg : Str→Option Value} {base : Heap} {A : Around} {outer : List Env} {s : Shared} {H : Hp} (e : Env0 P w K mg base A outer s H) :
    Env0 P w K mg base A.in1 outer s H := ⟨e.frames,e.mod,e.bs,e.bsz,e.funs,e.frf,e.hok,e.bare⟩
section
variable {X : Cx} {pins : List (Addr × Obj)} {σ : St} {H : Hp} {s s' : Shared}
theorem Inv.env0 (I : Inv X pins σ H s) : Env0 X.prog X.w X.K X.mg X.base X.A X.stack s H :=
  ⟨I.ok.frames,I.ok.mod,I.bs,Nat.le_trans I.ok.bsz I.sz,I.stack,I.stkFree,I.hok,I.bare⟩
theorem Inv.after {Q : VK} {u : Value} (I : Inv X pins σ H s) (h : CE X.stack X.prog X.w H s Q u s') : EP X pins σ Q u s' := by
  obtain ⟨v,H',os,bare,un,hok,r,q⟩ := h
  obtain ⟨hh,g,d,t,os'⟩ := s'
  obtain rfl : os' = s.os := os
  exact ⟨v,H',I.call (h' := hh) (g' := g) (d' := d) (t' := t) (ch := []) un hok bare (fun b z => absurd z (by simp)),r,q⟩
end
noncomputable def znB (sp : Sp) (dvs : List V) (E : XK) (t : TA) : TE := fun σ H Q => t σ H fun vs H1 => sp (vs++dvs) H1 Q E
noncomputable def zeB (K : PySem.W.Frag) (fd : FuncData) (ps : List Str) (ds : List Value) : Prop :=
  ∀ (s : Shared) (us : List Value),K.In s.heap→(us++ds).length = ps.length→BindsTo s fd ⟨us,[]⟩ (ps.zip (us++ds))
theorem zeB.all {K : PySem.W.Frag} {fd : FuncData} {ps : List Str} (h : ∀ us : List Value,us.length = ps.length→bindArgs fd ⟨us,[]⟩ = pure (ps.zip us)) : zeB K fd ps [] := fun s us _ hl => by
  rw [List.append_nil] at hl ⊢
  exact .of_eq (h us hl)
noncomputable def ziR (CX : CXT) (X : Cx) (E : XK) : Prop := ∀ (pins : List (Addr × Obj)) (σ : St) (H : Hp) (s : Shared) (e : Value) (s' : Shared),Inv X pins σ H s→CX X.stack H s E e s'→X.xe e s'
section
variable {X : Cx} {CX : CXT} {k : Nat} {f C : Addr} {fd : FuncData} {ps : List Str} {sp : Sp} {dvs : List V} {ds : List Value} {E : XK} {x m : Str} {p pos apos : Pos} {e o : Expr} {es : List Expr} {ta : TE} {t : TA}
theorem zl3 {pins : List (Addr × Obj)} {σ : St} {H : Hp} {s : Shared} {Q : VK} {us : List Value} {vs : List V} (F : FnOk X.prog X.w X.K X.mg X.base CX k f fd ps sp) (hr : Room k X.A) (hb : zeB X.K fd ps ds) (hd : Vals dvs ds) (hx : ziR CX X E)
    (I : Inv X pins σ H s) (r : Vals vs us) (h : sp (vs++dvs) H Q E) : wpAny (model X.prog X.w) X.A (call (.ref f) us) (EP X pins σ Q) X.xe s := by
  have r2 : Vals (vs++dvs) (us++ds) := r.append hd
  have hl : (us++ds).length = ps.length := by rw [← r2.length]; exact F.len _ _ _ _ h
  refine wpAny_call (codeAny_mono (F.run X.A X.stack s H ⟨us,[]⟩ (us++ds) (vs++dvs) Q E hr I.env0 (hb s us I.kIn hl) r2 h) fun r s' hq => ?_)
  cases r with
  | error e => exact hx pins σ H s e s' I hq
  | ok fl =>
    cases fl with
    | ret u => exact I.after hq
    | next => exact False.elim hq
    | brk => exact False.elim hq
    | cont => exact False.elim hq
theorem zkL (F : FnOk X.prog X.w X.K X.mg X.base CX k f fd ps sp) (hr : Room k X.A) (hg : Gl X x) (hm : X.mg x = some (.ref f)) (hk : PySem.W.keepIn X.K (.ref f) = true) (hb : zeB X.K fd ps ds) (hd : Vals dvs ds) (hx : ziR CX X E)
    (ha : PA X (e::es) t) (hdb : (x == ("__debug__" : Str)) = false := by decide) (he : starEach (e::es) X.env = (false,eval e X.env)::starEach es X.env := by rfl) (hpl : (backTo pos (starEach es X.env)).any (·.1) = false := by rfl) :
    PE X (.Call (.Name x p) (e::es) [] pos) (znB sp dvs E t) := by
  intro pins s σ H Q I h
  refine wpAny_Call_Name_kw (zib I hg hm ?_ hdb)
  refine PySem.W.callWith_K (h₀ := X.base) I.ok.mod.kin hk (thn (ha pos pins s σ H _ I h) fun us s1 ⟨vs,H1,I1,r,q⟩ => ⟨I1.kIn,?_⟩) he hpl
  exact zl3 F hr hb hd hx I1 r q
structure Mk (K : PySem.W.Frag) (C f : Addr) : Prop where
  makes : PySem.W.makesIn K C = true
  init : PySem.W.findIn K (.ref C) "__init__" = some (some (.ref f))
  fn : PySem.W.isFn K (.ref f) = true
  kp : PySem.W.keepIn K (.ref C) = true
end
section
variable {X : Cx} {CX : CXT} {k : Nat} {f C : Addr} {fd : FuncData} {ps ks : List Str} {sp : Sp} {E : XK} {x m : Str} {p pos apos kpos : Pos} {e o : Expr} {es : List Expr} {kws : List Keyword} {te ta : TE} {t tk : TA} {nm : Option Str}
structure KBinds (K : PySem.W.Frag) (fd : FuncData) (ps ks : List Str) (g : List Value→List Value→List Value) (gV : List V→List V→List V) : Prop where
  to : ∀ (s : Shared) (us ws : List Value),K.In s.heap→(g us ws).length = ps.length→BindsTo s fd ⟨us,ks.zip ws⟩ (ps.zip (g us ws))
  rel : ∀ {vs : List V} {us : List Value} {zs : List V} {ws : List Value},Vals vs us→Vals zs ws→Vals (gV vs zs) (g us ws)
variable {g : List Value → List Value → List Value} {gV : List V → List V → List V}
end
structure FnScope (N P : List Str) (sc : Scope) : Prop where
  kind : sc.kind = .function
  co : sc.isCoroutine = false
  gen : sc.isGenerator = false
  nd : N.Nodup
  pre : N.take P.length = P
  par : ∀ x∈P,sc.names.lookup x = some .local∨sc.names.lookup x = some .cell
  nofree : ∀ y∈sc.names,y.2≠.free
theorem zfM {kindOf : Str→Option NameKind} {x : Str} : ∀ {binds : List (Str × Value)} {m : Str→Option Value},(∀ v,(x,v)∉binds)→bindL kindOf binds m x = m x
  | [],_,_ => rfl
  | (n,v)::r,m,h => by
    unfold bindL
    rw [zfM fun w hw => h w (List.mem_cons_of_mem _ hw)]
    split
    · have : x≠n := by rintro rfl; exact h v List.mem_cons_self
      simp [this]
    · rfl
theorem zfO {kindOf : Str→Option NameKind} {x : Str} : ∀ {binds : List (Str × Value)} {m : Str→Option Value},(∀ v,(x,v)∉binds)→bindC kindOf binds m x = m x
  | [],_,_ => rfl
  | (n,v)::r,m,h => by
    unfold bindC
    rw [zfO fun w hw => h w (List.mem_cons_of_mem _ hw)]
    split
    · rfl
    · have : x≠n := by rintro rfl; exact h v List.mem_cons_self
      simp [this]
theorem zfN {kindOf : Str→Option NameKind} {x : Str} {v : Value} : ∀ {P : List Str} {vs : List Value} {i : Nat} {m : Str→Option Value},P.Nodup→P[i]? = some x→vs[i]? = some v→kindOf x = some .local →
    bindL kindOf (P.zip vs) m x = some v
  | [],_,_,_,_,h,_,_ => by simp at h
  | _::_,[],_,_,_,_,h,_ => by simp at h
  | p::P,w::vs,0,m,nd,h1,h2,hk => by
    simp at h1 h2; subst h1; subst h2
    show bindL kindOf ((p,w)::P.zip vs) m p = _
    unfold bindL
    rw [zfM fun v hv => (List.nodup_cons.mp nd).1 (List.of_mem_zip hv).1,if_pos hk]
    simp
  | p::P,w::vs,i + 1,m,nd,h1,h2,hk => by
    show bindL kindOf ((p,w)::P.zip vs) m x = _
    unfold bindL
    exact zfN (i := i) (List.nodup_cons.mp nd).2 (by simpa using h1) (by simpa using h2) hk
theorem zfP {kindOf : Str→Option NameKind} {x : Str} {v : Value} : ∀ {P : List Str} {vs : List Value} {i : Nat} {m : Str→Option Value},P.Nodup→P[i]? = some x→vs[i]? = some v→kindOf x≠some .local →
    bindC kindOf (P.zip vs) m x = some v
  | [],_,_,_,_,h,_,_ => by simp at h
  | _::_,[],_,_,_,_,h,_ => by simp at h
  | p::P,w::vs,0,m,nd,h1,h2,hk => by
    simp at h1 h2; subst h1; subst h2
    show bindC kindOf ((p,w)::P.zip vs) m p = _
    unfold bindC
    rw [zfO fun v hv => (List.nodup_cons.mp nd).1 (List.of_mem_zip hv).1,if_neg hk]
    simp
  | p::P,w::vs,i + 1,m,nd,h1,h2,hk => by
    show bindC kindOf ((p,w)::P.zip vs) m x = _
    unfold bindC
    exact zfP (i := i) (List.nodup_cons.mp nd).2 (by simpa using h1) (by simpa using h2) hk
noncomputable def start (N : List Str) (vs : List V) : St := vs.map some++List.replicate (N.length - vs.length) none
noncomputable def cxOf (CX : CXT) (P : Program) (w : World) (K : PySem.W.Frag) (mg : Str→Option Value) (base : Heap) (N : List Str) (qual : Str) (scope : Scope) (f : Addr) (cd : Value) (A : Around) (outer : List Env) (s : Shared) (H : Hp) (E : XK) : Cx where
  prog := P
  w := w
  K := K
  mg := mg
  base := base
  A := A.deeper (envOfC qual scope s.heap.objs.size f cd)
  N := N
  s₀ := s
  H₀ := H
  env := envOfC qual scope s.heap.objs.size f cd
  outer := outer
  stack := envOfC qual scope s.heap.objs.size f cd::outer
  ex := []
  calm := true
  fn := fun _ => true
  pn := []
  xe := fun e s' => wpAny (model P w) (A.deeper (envOfC qual scope s.heap.objs.size f cd)) (leaving (envOfC qual scope s.heap.objs.size f cd) e) (fun _ s'' => CX outer H s E e s'') (fun e' s'' => CX outer H s E e' s'') s'
theorem zgM {sc : Scope} {n : Nat} {x : Str} (h : sc.names.lookup x = some .cell) : ∃ c,(cellsFrom n sc.names []).lookup x = some c := by
  have q := PySem.W.cellsFrom_some sc.names n [] (.inl h)
  exact Option.isSome_iff_exists.mp q
theorem zik {CX : CXT} {P : Program} {w : World} {K : PySem.W.Frag} {mg : Str→Option Value} {base : Heap} {N ps : List Str} {qual : Str} {scope : Scope} {f : Addr} {cd : Value} {A : Around} {outer : List Env} {s s1 : Shared} {H : Hp} {E : XK} {us : List Value} {vs : List V}
    (S : FnScope N ps scope) (hd : A.handled = none) (e0 : Env0 P w K mg base A outer s H) (hl : vs.length = ps.length) (r : Vals vs us)
    (x : InCallC s s.heap.objs.size (bindL (envOfC qual scope s.heap.objs.size f cd).kindOf (ps.zip us) fun _ => none) (cellsFrom (s.heap.objs.size + 1) scope.names []) (bindC (envOfC qual scope s.heap.objs.size f cd).kindOf (ps.zip us) fun _ => none) s1) :
    Inv (cxOf CX P w K mg base N qual scope f cd A outer s H E) [] (start N vs) H s1 := by
  have hpl : ps.length≤N.length := by have := congrArg List.length S.pre; rw [List.length_take] at this; omega
  obtain ⟨h1,tk,rfl,hk⟩ := x.done
  have noA : ∀ b : Addr,b∉(cxOf CX P w K mg base N qual scope f cd A outer s H E).ex := fun b z => absurd (show b∈([] : List Addr) from z) (by simp)
  refine ⟨⟨e0.mod,S.kind,rfl,rfl,Nat.le_refl _,fun y z c h1 h2 => ?_,fun y hy => ?_,fun y c _ h => ?_,fun _ => hd,Around.frames_deeper e0.frames,.inr ⟨rfl,rfl⟩,fun b z => absurd z (noA b),e0.bs,e0.bsz,fun b _ _ => noA b,fun b z => absurd z (noA b),e0.funs,e0.frf⟩,
    rfl,e0.bare,Un.kept hk,⟨_,x.toInCall.ns,fun i y v h1 h2 h3 => ?_⟩,fun y c h => ⟨_,x.cell y c h⟩,e0.hok.fresh (Nat.le_refl _),fun y c h => ?_,fun p hp => absurd (show p∈([] : List (Addr × Obj)) from hp) (by simp),e0.hok.kept hk,?_⟩
  · exact name_of_addr x.apart (PySem.mem_of_lookup h1) (PySem.mem_of_lookup h2)
  · have hy : scope.names.lookup y = some .cell∨scope.names.lookup y = some .free := hy
    rcases hy with hy | hy
    · exact zgM hy
    · exact absurd rfl (S.nofree _ (PySem.mem_of_lookup hy))
  · exact Nat.le_of_lt (x.above y c (PySem.mem_of_lookup h))
  · have hi : i < vs.length := by
      unfold start at h2
      by_cases hi : i < vs.length
      · exact hi
      · rw [List.getElem?_append_right (by simpa using hi)] at h2
        rw [List.getElem?_replicate] at h2
        split at h2 <;> cases h2
    have ha : vs[i]? = some v := by
      unfold start at h2
      rw [List.getElem?_append_left (by simpa using hi),List.getElem?_map] at h2
      cases e : vs[i]? with
      | none => rw [e] at h2; cases h2
      | some a => rw [e] at h2; cases h2; rfl
    obtain ⟨u,hu,rv⟩ := r.get ha
    have hp : ps[i]? = some y := by
      rw [← S.pre,List.getElem?_take_of_lt (by omega)]; exact h1
    have ndP : ps.Nodup := by rw [← S.pre]; exact S.nd.sublist (List.take_sublist _ _)
    refine ⟨u,rv,?_⟩
    rcases S.par y (List.mem_of_getElem? hp) with k | k
    · exact .inl ⟨k,zfN ndP hp hu k⟩
    · obtain ⟨c,e⟩ := zgM (n := s.heap.objs.size + 1) k
      refine .inr ⟨.inl k,c,e,?_⟩
      have q := x.cell y c e
      rw [zfP ndP hp hu (by show scope.names.lookup y≠_; rw [k]; decide)] at q
      exact q
  · exact e0.hok.fresh (Nat.le_of_lt (x.above y c (PySem.mem_of_lookup h)))
  · unfold start
    show _ = N.length
    rw [List.length_append,List.length_map,List.length_replicate]
    omega
theorem zob {CX : CXT} {P : Program} {w : World} {K : PySem.W.Frag} {mg : Str→Option Value} {base : Heap} {k : Nat} {f : Addr} {name qual : Str} {params : Arguments} {body : List Stmt} {scope : Scope} {dV kV doc pm cdv ct oc : Value} {an od : Option Addr}
    {osl : Array (Option Value)} {N ps : List Str} {sp : Sp} (lk : K.lookup f = some ⟨oc,od,.func (PySem.W.fnOf name qual params body scope dV kV doc pm an cdv ct),osl⟩) (hcd : PySem.W.codeIn K cdv qual = true) (S : FnScope N ps scope)
    (len : ∀ vs H Q E,sp vs H Q E→vs.length = ps.length)
    (hbody : ∀ (A : Around) (outer : List Env) (s : Shared) (H : Hp) (vs : List V) (Q : VK) (E : XK),Room k (A.deeper (envOfC qual scope s.heap.objs.size f cdv))→sp vs H Q E →
      ∃ t,PSs (cxOf CX P w K mg base N qual scope f cdv A outer s H E) body t∧t { nx := fun _ H' => Q .non H',rt := Q } (start N vs) H) :
    FnOk P w K mg base CX (k + 1) f (PySem.W.fnOf name qual params body scope dV kV doc pm an cdv ct) ps sp := by
  refine ⟨len,fun A outer s H args us vs Q E hr e0 hb r hsp => ?_⟩
  have hl := len _ _ _ _ hsp
  have KX : K.In s.heap := e0.mod.kin.keeps fun b o e => (e0.bs b o e).1
  have lim : s.heap.NoLimit := e0.mod.nolimit.keeps fun b o e => (e0.bs b o e).1
  have hkind : ∀ y∈ps.zip us,scope.names.lookup y.1 = some .local∨(scope.names.lookup y.1 = some .cell∧((cellsFrom (s.heap.objs.size + 1) scope.names []).lookup y.1).isSome = true) := fun ⟨n,v⟩ hy => by
    rcases S.par n (List.of_mem_zip hy).1 with q | q
    · exact .inl q
    · exact .inr ⟨q,PySem.W.cellsFrom_some _ _ _ (.inl q)⟩
  refine codeAny_call_function hr.depth (KX _ _ lk) rfl S.co S.gen rfl (PySem.W.codeRec_of KX hcd) (hb _ _ _ _ ?_)
  refine wpAny_newFunctionEnv_cells S.kind hkind fun env he s1 x => ?_
  subst he
  refine ⟨lim.keeps x.toInCall.keep,codeAny_func ?_⟩
  obtain ⟨t,ht,hq⟩ := hbody A outer s H vs Q E (hr.deeper _) hsp
  have I : Inv (cxOf CX P w K mg base N qual scope f cdv A outer s H E) [] (start N vs) H s1 := zik S hr.hd e0 hl r x
  refine wpAny_mono (ht [] s1 (start N vs) H _ I hq) (fun fl s' hs => ?_) fun e s' hs => hs
  have fin : ∀ {σ' : St} {H' : Hp} {v : V} {u : Value},Inv (cxOf CX P w K mg base N qual scope f cdv A outer s H E) [] σ' H' s'→RelV v u→Q v H'→CE outer P w H s Q u s' :=
    fun {σ' H' v u} J rv q => ⟨v,H',J.os,J.bare,J.base,J.hok,rv,q⟩
  cases fl with
  | ret u =>
    obtain ⟨v,σ',H',J,rv,q⟩ := hs
    exact fin J rv q
  | next =>
    obtain ⟨σ',H',J,q⟩ := hs
    exact fin (v := V.non) (u := Value.none) J rfl q
  | brk =>
    obtain ⟨_,_,_,q⟩ := hs
    exact False.elim q
  | cont =>
    obtain ⟨_,_,_,q⟩ := hs
    exact False.elim q
end L2
namespace L2
open PySem PySem.Spec PyProof.Rows
section
variable {X : Cx} {x : Str} {p pos : Pos} {e : Expr} {es : List Expr} {t : TA} {id T : String} {r : List V → Hp → VK → Prop}
noncomputable def tCB (r : List V→Hp→VK→Prop) (t : TA) : TE := fun σ H Q => t σ H fun vs H1 => r vs H1 Q
theorem zdU (hc : zdk X (.builtin id) r) (hg : Gl X x) (hm : X.mg x = none) (hv : bootBuiltins x = some (.builtin id)) (ha : PA X (e::es) t) (hn : x≠"__name__" := by decide) (hdb : (x == ("__debug__" : Str)) = false := by decide)
    (he : starEach (e::es) X.env = (false,eval e X.env)::starEach es X.env := by rfl) (hpl : (backTo pos (starEach es X.env)).any (·.1) = false := by rfl) : PE X (.Call (.Name x p) (e::es) [] pos) (tCB r t) := by
  intro pins s σ H Q I h
  refine wpAny_Call_Name_kw (zeK I hg hm hv ?_ hn hdb)
  exact PyProof.Rows.callWith_builtin1 (thn (ha pos pins s σ H _ I h) fun us s1 ⟨vs,H1,I1,r1,q1⟩ => hc pins s1 σ H1 vs us Q I1 r1 q1) he hpl
theorem zfz (hc : zdk X (.type T) r) (hg : Gl X x) (hm : X.mg x = none) (hv : bootBuiltins x = some (.type T)) (ha : PA X (e::es) t) (hn : x≠"__name__" := by decide) (hdb : (x == ("__debug__" : Str)) = false := by decide)
    (he : starEach (e::es) X.env = (false,eval e X.env)::starEach es X.env := by rfl) (hpl : (backTo pos (starEach es X.env)).any (·.1) = false := by rfl) : PE X (.Call (.Name x p) (e::es) [] pos) (tCB r t) := by
  intro pins s σ H Q I h
  refine wpAny_Call_Name_kw (zeK I hg hm hv ?_ hn hdb)
  exact PyProof.Rows.callWith_type1 (thn (ha pos pins s σ H _ I h) fun us s1 ⟨vs,H1,I1,r1,q1⟩ => hc pins s1 σ H1 vs us Q I1 r1 q1) he hpl
end
end L2
namespace HT
open PySem PyProof.Rows
section
open PySem.SeqAt
open PySem.AutoSeq1 (wpAny_loadPart')
open PySem.MeetsSeq PySem.MeetsSeq2 PySem.MeetsSeq3
end
section
variable {prog : Program} {w : World} {A : Around} {E : Value → Shared → Prop} {s : Shared}
theorem cat_tup {t b : Addr} {vs ws : List Value} {Q : Value→Shared→Prop} (ht : IsTup s.heap t vs.toArray) (hb : IsTup s.heap b ws.toArray) (hv : vs≠[])
    (h1 : ws = []→Q (.ref t) s) (h2 : ws≠[]→Q (.ref s.heap.objs.size) { s with heap := s.heap.push { cls := .type "tuple",data := .seq (vs++ws).toArray } })
    (hsz : vs.length + ws.length≤sizeLine) : wpAny (model prog w) A (binaryOp .Add (.ref t) (.ref b)) Q E s := by
  obtain ⟨⟨cls,dd,data,sl⟩,ho,hc,n,hd⟩ := id ht
  obtain ⟨⟨cls2,dd2,data2,sl2⟩,ho2,hc2,n2,hd2⟩ := id hb
  simp only at hc hd hc2 hd2
  subst hc hd hc2 hd2
  have e : vs.toArray++ws.toArray = (vs++ws).toArray := by simp
  by_cases hw : ws = []
  · exact concat_meets ⟨_,ho,rfl⟩ ⟨_,ho2,rfl⟩ noFill_tuple_add seq_tuple_add PySem.F.slot_tuple_add PySem.F.entry_tuple_add (PySem.F.args_tuple_add_2 _ _)
      (tuple_addW1 t b vs.toArray ws.toArray n n2 dd dd2 sl sl2 (by simpa using hv) (by simp [hw])) ⟨ho,ho2,h1 hw⟩
  · refine concat_meets ⟨_,ho,rfl⟩ ⟨_,ho2,rfl⟩ noFill_tuple_add seq_tuple_add PySem.F.slot_tuple_add PySem.F.entry_tuple_add (PySem.F.args_tuple_add_2 _ _)
      (tuple_addW2 t b vs.toArray ws.toArray n n2 dd dd2 sl sl2 (by simpa using hv) (by simpa using hw) (by rw [List.size_toArray,List.size_toArray]; exact hsz)) ⟨ho,ho2,?_⟩
    rw [e]
    exact h2 hw
noncomputable def sIx (n d : Nat) : Option Int→Nat
  | none => d
  | some v => if v < 0 then (v + (n : Int)).toNat else min v.toNat n
end
end HT
namespace L2
open PySem PySem.Spec PyProof.Rows
noncomputable abbrev TO := St→Hp→(Option Int→Hp→Prop)→Prop
noncomputable def PO (X : Cx) (e : Option Expr) (t : TO) : Prop :=
  ∀ (pins : List (Addr × Obj)) (s : Shared) (σ : St) (H : Hp) (Q : Option Int→Hp→Prop),Inv X pins σ H s→t σ H Q →
    wpAny (model X.prog X.w) X.A (evalPart e X.env) (fun u s' => ∃ o H',Inv X pins σ H' s'∧IsPart u o∧Q o H') X.xe s
noncomputable def zkp : TO := fun _ H Q => Q none H
noncomputable def znw (t : TE) : TO := fun σ H Q => t σ H fun x H1 => ∃ i,x = .int i∧Q (some i) H1
section
variable {X : Cx} {e : Expr} {te : TE} {lo hi : Option Expr} {tl th : TO} {pos p2 : Pos}
theorem zkG : PO X none zkp := by
  intro pins s σ H Q I h
  rw [evalPart_none]
  exact wpAny_pure ⟨none,H,I,.none,h⟩
theorem zkF (h : PE X e te) : PO X (some e) (znw te) := by
  intro pins s σ H Q I hw
  rw [evalPart_some]
  refine thn (h pins s σ H _ I hw) fun u s1 ⟨x,H1,I1,r1,q1⟩ => ?_
  obtain ⟨i,rfl,q⟩ := q1
  obtain ⟨t,rfl⟩ := r1
  exact ⟨some i,H1,I1,.int i t,q⟩
noncomputable def SlR (X : Cx) (r : V→Option Int→Option Int→Hp→VK→Prop) : Prop :=
  ∀ (pins : List (Addr × Obj)) (s : Shared) (σ : St) (H : Hp) (x : V) (v vl vu : Value) (lo hi : Option Int) (sl : Addr) (Q : VK),Inv X pins σ H s→RelV x v→s.heap.IsSliceOf sl vl vu .none→IsPart vl lo→IsPart vu hi→r x lo hi H Q →
    ∃ T id,typeLookup (.type T) "__getitem__" = pure (some (.builtin id))∧s.TypeIs v T∧wpAny (model X.prog X.w) X.A (getItem v (.ref sl)) (EP X pins σ Q) X.xe s
theorem SlR.or {r r' : V→Option Int→Option Int→Hp→VK→Prop} (h : SlR X r) (h' : SlR X r') : SlR X (fun x lo hi H Q => r x lo hi H Q∨r' x lo hi H Q) := by
  intro pins s σ H x v vl vu lo hi sl Q I rx hs pl pu q
  rcases q with q | q
  · exact h pins s σ H x v vl vu lo hi sl Q I rx hs pl pu q
  · exact h' pins s σ H x v vl vu lo hi sl Q I rx hs pl pu q
noncomputable def tSl (r : V→Option Int→Option Int→Hp→VK→Prop) (te : TE) (tl th : TO) : TE := fun σ H Q => te σ H fun x H1 => tl σ H1 fun l H2 => th σ H2 fun u H3 => r x l u H3 Q
theorem zja {r : V→Option Int→Option Int→Hp→VK→Prop} (hr : SlR X r) (he : PE X e te) (hl : PO X lo tl) (hu : PO X hi th) : PE X (.Subscript e (.Slice lo hi none p2) pos) (tSl r te tl th) := by
  intro pins s σ H Q I h
  refine Subscript_ (thn (he pins s σ H _ I h) fun v s1 ⟨x,H1,I1,r1,q1⟩ => ?_)
  refine wpAny_Slice (thn (hl pins s1 σ H1 _ I1 q1) fun vl s2 ⟨l,H2,I2,pl,q2⟩ => thn (hu pins s2 σ H2 _ I2 q2) fun vu s3 ⟨u,H3,I3,pu,q3⟩ => ?_)
  rw [evalPart_none]
  refine wpAny_pure ?_
  have I4 : Inv X pins σ H3 { s3 with heap := s3.heap.push { cls := .type "slice",data := .fields #[vl,vu,.none] } } := I3.kept (t' := s3.toks) fun b ob q => Heap.get?_push_of_some _ q
  obtain ⟨T,id,hT,ht,hg⟩ := hr pins { s3 with heap := s3.heap.push { cls := .type "slice",data := .fields #[vl,vu,.none] } } σ H3 x v vl vu l u s3.heap.objs.size Q I4 r1 (Heap.IsSliceOf.new ..) pl pu q3
  show wpAny (model X.prog X.w) X.A (subscriptTail e (.Slice lo hi none p2) v (.ref s3.heap.objs.size)) (EP X pins σ Q) X.xe { s3 with heap := s3.heap.push { cls := .type "slice",data := .fields #[vl,vu,.none] } }
  exact tail_any (ops := [.ref s3.heap.objs.size,v]) ht hT hg (by with_unfolding_all rfl)
noncomputable def zmb (K : PySem.W.Frag) : R2 := fun x y H Q => ∃ a b xs ys,x = .ref a∧y = .ref b∧SqT K H a xs∧SqT K H b ys∧xs≠[]∧xs.length + ys.length≤sizeLine ∧
  (ys = []→Q (.ref a) H)∧(ys≠[]→∀ p,H p = none→Q (.ref p) (upd H p (.tup (xs++ys))))
theorem Vals.nil_iff {xs : List V} {us : List Value} (r : Vals xs us) : us = []↔xs = [] := by
  cases r with
  | nil => simp
  | cons _ _ => simp
theorem zkT : OpR X (binaryOp .Add) (zmb X.K) := by
  intro pins s σ H x y v u Q I rx ry h
  obtain ⟨a,b,xs,ys,rfl,rfl,ha,hb,hx,hz,q1,q2⟩ := h
  cases rx
  cases ry
  obtain ⟨its,r1,p1,_⟩ := I.tuple ha
  obtain ⟨its2,r2,p2,_⟩ := I.tuple hb
  refine HT.cat_tup p1 p2 (fun z => hx (r1.nil_iff.mp z)) (fun z => ⟨.ref a,H,I,rfl,q1 (r2.nil_iff.mp z)⟩) (fun z => ?_) (by rw [← r1.length,← r2.length]; exact hz)
  refine ⟨.ref s.heap.objs.size,_,I.laid (t' := s.toks) (o := .tup (xs++ys)) (fun b ob q => Heap.get?_push_of_some _ q) (Nat.le_refl _) ?_,rfl,q2 (fun w => z (r2.nil_iff.mpr w)) _ (I.hok.fresh (Nat.le_refl _))⟩
  exact ⟨by rw [List.length_append]; exact hz,_,r1.append r2,IsTup.new _ _,_,Heap.get?_push_size _ rfl,rfl⟩
end
end L2
namespace L2
open PySem PySem.Spec PyProof.Rows
noncomputable def ixN (n : Nat) (i : Int) : Option Nat := if 0≤i then (if i < n then some i.toNat else none) else if -(n : Int)≤i then some (i + n).toNat else none
noncomputable def atI {α : Type} (xs : List α) (i : Int) : Option α := (ixN xs.length i).bind fun j => xs[j]?
theorem zih {n : Nat} {i : Int} {j : Nat} (h : ixN n i = some j) : seqIndex? i n = some j∧j < n∧-(n : Int)≤i∧i < n := by
  unfold ixN at h
  by_cases h0 : 0≤i
  · rw [if_pos h0] at h
    by_cases h1 : i < n
    · rw [if_pos h1] at h
      have e : i.toNat = j := Option.some.inj h
      exact ⟨by rw [seqIndex_of h0 h1,e],by omega,by omega,h1⟩
    · rw [if_neg h1] at h; cases h
  · rw [if_neg h0] at h
    by_cases h1 : -(n : Int)≤i
    · rw [if_pos h1] at h
      have e : (i + n).toNat = j := Option.some.inj h
      exact ⟨by rw [seqIndex_neg (by omega) h1,e],by omega,h1,by omega⟩
    · rw [if_neg h1] at h; cases h
theorem zgi {α : Type} {xs : List α} {i : Int} {v : α} (h : atI xs i = some v) : ∃ j,seqIndex? i xs.length = some j∧xs[j]? = some v∧j < xs.length∧-(xs.length : Int)≤i∧i < xs.length := by
  unfold atI at h
  cases e : ixN xs.length i with
  | none => rw [e] at h; cases h
  | some j =>
    rw [e] at h
    obtain ⟨h1,h2,h3,h4⟩ := zih e
    exact ⟨j,h1,h,h2,h3,h4⟩
noncomputable def ziP (b : Expr) : Prop := ∀ o i,subscripted b false o i = operate [o,i] (getItem o i)
noncomputable def IxR (X : Cx) (r : R2) : Prop :=
  ∀ (value slice : Expr) (pins : List (Addr × Obj)) (s : Shared) (σ : St) (H : Hp) (x y : V) (v u : Value) (Q : VK),Inv X pins σ H s→RelV x v→RelV y u→r x y H Q →
    subscripted slice false v u = operate [v,u] (getItem v u)→wpAny (model X.prog X.w) X.A (subscriptTail value slice v u) (EP X pins σ Q) X.xe s
noncomputable def MtR (X : Cx) (id : String) (r : V→List V→Hp→VK→Prop) : Prop :=
  ∀ (pins : List (Addr × Obj)) (s : Shared) (σ : St) (H : Hp) (x : V) (xs : List V) (v : Value) (us : List Value) (Q : VK),Inv X pins σ H s→RelV x v→Vals xs us→r x xs H Q →
    wpAny (model X.prog X.w) X.A (call (.builtin id) (v::us)) (EP X pins σ Q) X.xe s
section
variable {X : Cx} {a b : Expr} {ta tb : TE} {pos : Pos}
theorem IxR.or {r r' : R2} (h : IxR X r) (h' : IxR X r') : IxR X (fun x y H Q => r x y H Q∨r' x y H Q) := by
  intro value slice pins s σ H x y v u Q I rx ry q hs
  rcases q with q | q
  · exact h value slice pins s σ H x y v u Q I rx ry q hs
  · exact h' value slice pins s σ H x y v u Q I rx ry q hs
theorem MtR.or {id : String} {r r' : V→List V→Hp→VK→Prop} (h : MtR X id r) (h' : MtR X id r') : MtR X id (fun x xs H Q => r x xs H Q∨r' x xs H Q) := by
  intro pins s σ H x xs v us Q I rx rs q
  rcases q with q | q
  · exact h pins s σ H x xs v us Q I rx rs q
  · exact h' pins s σ H x xs v us Q I rx rs q
theorem znU {r : R2} (hr : IxR X r) (ha : PE X a ta) (hb : PE X b tb) (hs : ziP b) : PE X (.Subscript a b pos) (tOp r ta tb) := by
  intro pins s σ H Q I h
  exact Subscript_ (binT ha hb I h fun v u s2 x y H2 I2 rx ry q => hr a b pins s2 σ H2 x y v u Q I2 rx ry q (hs _ _))
noncomputable def rIxL (K : PySem.W.Frag) : R2 := fun x y H Q => ∃ p xs i v,x = .ref p∧y = .int i∧SqL K H p xs∧atI xs i = some v∧Q v H
noncomputable def rIxT (K : PySem.W.Frag) : R2 := fun x y H Q => ∃ p xs i v,x = .ref p∧y = .int i∧SqT K H p xs∧atI xs i = some v∧Q v H
noncomputable def rIxS : R2 := fun x y H Q => ∃ z i c,x = .str z∧y = .int i∧z.length≤sizeLine∧atI z.cps.toList i = some c∧Q (.str ⟨#[c]⟩) H
theorem zk7 : IxR X (rIxL X.K) := by
  intro value slice pins s σ H x y v u Q I rx ry h hs
  obtain ⟨p,xs,i,z,rfl,rfl,hq,he,q⟩ := h
  cases rx
  obtain ⟨t,rfl⟩ := ry
  obtain ⟨its,r,pl,hz⟩ := I.list hq
  obtain ⟨j,h1,h2,h3,h4,h5⟩ := zgi he
  obtain ⟨w,ew,rw'⟩ := r.get h2
  have hl := r.length
  have hn := zeJ
  have fin : EP X pins σ Q w s := ⟨z,H,I,rw',q⟩
  by_cases h0 : 0≤i
  · have hj : i.toNat = j := by
      rw [seqIndex_of h0 h5] at h1
      exact Option.some.inj h1
    exact item_listR pl.isList h0 (by omega) (by rw [hj]; simpa using ew) fin hs
  · have hj : (i + (its.toArray.size : Int)).toNat = j := by
      rw [seqIndex_neg (by omega) h4] at h1
      rw [List.size_toArray,← hl]
      exact Option.some.inj h1
    exact subscriptTail_builtinR (x := w) pl.isList.typeIs slot_list_getitem.lookup
      (wpAny_getItem_list_neg (Q := fun r s' => r = w∧EP X pins σ Q r s') pl.isList (by omega) (by rw [List.size_toArray] <;> omega) (by omega) (by rw [hj]; simpa using ew) ⟨rfl,fin⟩) hs
theorem zmU : IxR X (rIxT X.K) := by
  intro value slice pins s σ H x y v u Q I rx ry h hs
  obtain ⟨p,xs,i,z,rfl,rfl,hq,he,q⟩ := h
  cases rx
  obtain ⟨t,rfl⟩ := ry
  obtain ⟨its,r,pl,hz⟩ := I.tuple hq
  obtain ⟨j,h1,h2,h3,h4,h5⟩ := zgi he
  obtain ⟨w,ew,rw'⟩ := r.get h2
  have hl := r.length
  have hn := zeJ
  have fin : EP X pins σ Q w s := ⟨z,H,I,rw',q⟩
  exact subscriptTail_builtinR (x := w) pl.typeIs slot_tuple_getitem.lookup
    (getItem_tuple (j := j) (Q := fun r s' => r = w∧EP X pins σ Q r s') pl (by omega) (by omega) (by rw [List.size_toArray,← hl]; exact h1) (by simpa using ew) ⟨rfl,fin⟩) hs
theorem zmV : IxR X rIxS := by
  intro value slice pins s σ H x y v u Q I rx ry h hs
  obtain ⟨z,i,c,rfl,rfl,hz,he,q⟩ := h
  obtain ⟨t,rfl⟩ := rx
  obtain ⟨t',rfl⟩ := ry
  obtain ⟨j,h1,h2,h3,h4,h5⟩ := zgi he
  have hl : z.cps.toList.length = z.length := by simp [Str.length]
  rw [hl] at h1 h4 h5
  have hn := zeJ
  exact tail_any (typeIs_str s z t) slot_str_getitem.lookup (getItem_str (c := c) (by
    have e1 : decide (i < -(2 ^ 63 : Int)) = false := decide_eq_false (by omega)
    have e2 : decide (i ≥ 2 ^ 63) = false := decide_eq_false (by omega)
    rw [e1,e2,Bool.or_false]) (by rw [h1]; simpa using h2) ⟨.str ⟨#[c]⟩,H,I.tok _,⟨_,rfl⟩,q⟩) hs
noncomputable def rIx (K : PySem.W.Frag) : R2 := fun x y H Q => rIxL K x y H Q∨rIxT K x y H Q∨rIxS x y H Q
theorem zmW : IxR X (rIx X.K) := zk7.or (zmU.or zmV)
theorem zg8 (its : List Value) (n j : Nat) (u : Value) : Obj.mapSeq (·.setIfInBounds j u) { cls := .type "list",data := .seq its.toArray n } = { cls := .type "list",data := .seq (its.set j u).toArray n } := by
  simp [Obj.mapSeq]
theorem Inv.lst {pins : List (Addr × Obj)} {σ : St} {H : Hp} {s : Shared} {p : Addr} {xs : List V} (I : Inv X pins σ H s) (h : H p = some (.lst xs)) :
    ∃ (its : List Value) (n : Nat),Vals xs its∧s.heap.get? p = some { cls := .type "list",data := .seq its.toArray n }∧xs.length≤sizeLine := by
  obtain ⟨z,its,n,r,e⟩ := I.hok p _ h
  exact ⟨its,n,r,e,z⟩
theorem Inv.lstUpd {pins : List (Addr × Obj)} {σ : St} {H : Hp} {s : Shared} {p : Addr} {xs ys : List V} {its its' : List Value} {n n' : Nat} {f : Obj→Obj} (I : Inv X pins σ H s) (h : H p = some (.lst xs))
    (ho : s.heap.get? p = some { cls := .type "list",data := .seq its.toArray n }) (hf : f { cls := .type "list",data := .seq its.toArray n } = { cls := .type "list",data := .seq its'.toArray n' }) (r : Vals ys its') (hz : ys.length≤sizeLine) (t : Nat) :
    Inv X pins σ (upd H p (.lst ys)) { s with heap := s.heap.update p f,toks := t } := by
  have e : (s.heap.update p f).get? p = some { cls := .type "list",data := .seq its'.toArray n' } := by
    rw [Heap.get?_update_self f ho (by rw [hf] <;> rfl),hf]
  refine I.write (x := p) (e := p) (by rw [h]; trivial) (.inl rfl) (fun b u hb q => (Heap.get?_update_other _ _ (Ne.symm hb)).trans q) ⟨_,e⟩ ?_
  exact ⟨hz,its',n',r,e⟩
noncomputable def zl6 : V→V→V→Hp→(Hp→Prop)→Prop := fun o i v H Q => ∃ p xs k j,o = .ref p∧i = .int k∧H p = some (.lst xs)∧ixN xs.length k = some j∧Q (upd H p (.lst (xs.set j v)))
theorem ziZ : PSet X zl6 := by
  intro pins s σ H o i v ov iv u Q I ro ri rv h
  obtain ⟨p,xs,k,j,rfl,rfl,hp,hj,q⟩ := h
  cases ro
  obtain ⟨t,rfl⟩ := ri
  obtain ⟨its,n,r,ho,hz⟩ := I.lst hp
  obtain ⟨h1,h2,h3,h4⟩ := zih hj
  have hl := r.length
  have hn := zeJ
  have I' : Inv X pins σ (upd H p (.lst (xs.set j v))) { s with heap := s.heap.update p (Obj.mapSeq (·.setIfInBounds j u)) } :=
    I.lstUpd hp ho (zg8 its n j u) (r.set rv j) (by rw [List.length_set]; exact hz) s.toks
  by_cases h0 : 0≤k
  · have hk : k.toNat = j := by
      rw [seqIndex_of h0 h4] at h1
      exact Option.some.inj h1
    exact PySem.W.ki_setAt ho h0 (by omega) (by rw [List.size_toArray,← hl]; exact h4) (by rw [hk]; exact ⟨_,I',q⟩)
  · have hk : (k + (its.toArray.size : Int)).toNat = j := by
      rw [seqIndex_neg (by omega) h3] at h1
      rw [List.size_toArray,← hl]
      exact Option.some.inj h1
    exact PySem.W.ki_setBack ho (by omega) (by rw [List.size_toArray,← hl]; exact h3) (by omega) (by rw [hk]; exact ⟨_,I',q⟩)
noncomputable def zeA : V→Bool
  | .non => true
  | .bl _ => true
  | .int _ => true
  | .str _ => true
  | _ => false
noncomputable def eqV : V→V→Bool
  | .non,.non => true
  | .bl a,.bl b => a == b
  | .bl a,.int b => (if a then 1 else 0) == b
  | .int a,.bl b => a == (if b then 1 else 0)
  | .int a,.int b => a == b
  | .str a,.str b => a == b
  | _,_ => false
theorem znj {A : Around} {s : Shared} {y x : V} {u v : Value} (ry : RelV y u) (rx : RelV x v) (fy : zeA y = true) (fx : zeA x = true) : SeqAt.EqAt A s u v (eqV y x) := by
  cases y with
  | non =>
    cases ry
    cases x with
    | non => cases rx; exact SeqAt.EqAt.same _
    | bl b => cases rx; exact SeqAt.EqAt.none_bool b
    | int b => obtain ⟨t,rfl⟩ := rx; exact SeqAt.EqAt.none_int b t
    | str b => obtain ⟨t,rfl⟩ := rx; exact SeqAt.EqAt.none_str b t
    | _ => exact absurd (show false = true from fx) Bool.false_ne_true
  | bl a =>
    cases ry
    cases x with
    | non => cases rx; exact SeqAt.EqAt.bool_none a
    | bl b => cases rx; exact SeqAt.EqAt.bool_bool a b
    | int b => obtain ⟨t,rfl⟩ := rx; exact SeqAt.EqAt.bool_int a b t
    | str b => obtain ⟨t,rfl⟩ := rx; exact SeqAt.EqAt.bool_str a b t
    | _ => exact absurd (show false = true from fx) Bool.false_ne_true
  | int a =>
    obtain ⟨t',rfl⟩ := ry
    cases x with
    | non => cases rx; exact SeqAt.EqAt.int_none a t'
    | bl b => cases rx; exact SeqAt.EqAt.int_bool a t' b
    | int b => obtain ⟨t,rfl⟩ := rx; exact SeqAt.EqAt.int_int a t' b t
    | str b => obtain ⟨t,rfl⟩ := rx; exact SeqAt.EqAt.int_str a t' b t
    | _ => exact absurd (show false = true from fx) Bool.false_ne_true
  | str a =>
    obtain ⟨t',rfl⟩ := ry
    cases x with
    | non => cases rx; exact SeqAt.EqAt.str_none a t'
    | bl b => cases rx; exact SeqAt.EqAt.str_bool a t' b
    | int b => obtain ⟨t,rfl⟩ := rx; exact SeqAt.EqAt.str_int a t' b t
    | str b => obtain ⟨t,rfl⟩ := rx; exact SeqAt.EqAt.str_str a t' b t
    | _ => exact absurd (show false = true from fx) Bool.false_ne_true
  | _ => exact absurd (show false = true from fy) Bool.false_ne_true
noncomputable def eqU (x : V) (u : Value) : Bool := match u with
  | .none => eqV .non x
  | .bool b => eqV (.bl b) x
  | .int i _ => eqV (.int i) x
  | .str z _ => eqV (.str z) x
  | _ => false
theorem zkl {x y : V} {u : Value} (r : RelV y u) (f : zeA y = true) : eqU x u = eqV y x := by
  cases y with
  | non => cases r; rfl
  | bl b => cases r; rfl
  | int i => obtain ⟨t,rfl⟩ := r; rfl
  | str z => obtain ⟨t,rfl⟩ := r; rfl
  | _ => exact absurd (show false = true from f) Bool.false_ne_true
theorem zgj {x : V} : ∀ {xs : List V} {us : List Value},Vals xs us→xs.all zeA = true→us.any (eqU x) = xs.any fun y => eqV y x
  | _,_,.nil,_ => rfl
  | y::xs,u::us,.cons r t,f => by
    rw [List.all_cons,Bool.and_eq_true] at f
    rw [List.any_cons,List.any_cons,zkl r f.1,zgj t f.2]
theorem ze1 {A : Around} {s : Shared} {x : V} {v : Value} (rx : RelV x v) (fx : zeA x = true) : ∀ {xs : List V} {us : List Value},Vals xs us→xs.all zeA = true→∀ u∈us,SeqAt.EqAt A s u v (eqU x u)
  | _,_,.nil,_ => fun u hu => by cases hu
  | y::xs,u::us,.cons r t,f => fun u' hu => by
    rw [List.all_cons,Bool.and_eq_true] at f
    rcases List.mem_cons.mp hu with rfl | hu
    · rw [zkl r f.1]; exact znj r rx f.1 fx
    · exact ze1 rx fx t f.2 u' hu
noncomputable def inV (x : V) (xs : List V) : Bool := xs.any fun y => eqV y x
noncomputable def rIn (K : PySem.W.Frag) (neg : Bool) : R2 := fun x y H Q => ∃ p xs,y = .ref p∧(SqL K H p xs∨SqT K H p xs)∧zeA x = true∧xs.all zeA = true∧Q (.bl (if neg then ! inV x xs else inV x xs)) H
theorem zhY : OpR X (compareOp .In) (rIn X.K false) := by
  intro pins s σ H x y v u Q I rx ry h
  obtain ⟨p,xs,rfl,hq,fx,fs,q⟩ := h
  cases ry
  rcases hq with hq | hq
  · obtain ⟨its,r,pl,hz⟩ := I.list hq
    refine SeqAt.in_listAt (eqU x) pl.isList (fun w hw => ze1 rx fx r fs w (by simpa using hw)) ⟨.bl _,H,I,rfl,?_⟩
    rw [show its.toArray.any (eqU x) = its.any (eqU x) by simp,zgj r fs]
    exact q
  · obtain ⟨its,r,pl,hz⟩ := I.tuple hq
    refine SeqAt.in_tupleAt (eqU x) pl (fun w hw => ze1 rx fx r fs w (by simpa using hw)) ⟨.bl _,H,I,rfl,?_⟩
    rw [show its.toArray.any (eqU x) = its.any (eqU x) by simp,zgj r fs]
    exact q
theorem zdk.or {f : Value} {r r' : List V→Hp→VK→Prop} (h : zdk X f r) (h' : zdk X f r') : zdk X f (fun xs H Q => r xs H Q∨r' xs H Q) := by
  intro pins s σ H xs us Q I rs q
  rcases q with q | q
  · exact h pins s σ H xs us Q I rs q
  · exact h' pins s σ H xs us Q I rs q
theorem zfc : zdk X (.type "tuple") (fun xs H Q => ∃ p ys,xs = [.ref p]∧((SqL X.K H p ys∧∀ l,H l = none→Q (.ref l) (upd H l (.tup ys)))∨(SqT X.K H p ys∧Q (.ref p) H))) := by
  intro pins s σ H xs us Q I r h
  obtain ⟨p,ys,rfl,h⟩ := h
  obtain ⟨u,rfl,rx⟩ := zev r
  cases rx
  rcases h with ⟨hq,q⟩ | ⟨hq,q⟩
  · obtain ⟨its,r',pl,hz⟩ := I.list hq
    have hlen := r'.length
    refine call_tuple_list pl.isList (fun h' kp => ?_) (by simp only [List.size_toArray] <;> omega)
    have I1 : Inv X pins σ H { s with heap := h' } := I.kept (t' := s.toks) kp
    have I2 : Inv X pins σ (upd H h'.objs.size (.tup ys)) { s with heap := h'.push { cls := .type "tuple",data := .seq its.toArray } } :=
      I1.laid (t' := s.toks) (fun b o e => Heap.get?_push_of_some _ e) (Nat.le_refl _) (show zaW X.prog X.w _ _ _ (.tup ys) from ⟨hz,its,r',IsTup.new _ _,_,Heap.get?_push_size _ rfl,rfl⟩)
    exact ⟨.ref h'.objs.size,_,I2,rfl,q _ (I1.hok.fresh (Nat.le_refl _))⟩
  · obtain ⟨its,r',pl,hz⟩ := I.tuple hq
    exact call_tuple_same pl ⟨.ref p,H,I,rfl,q⟩
noncomputable def tyV (K : PySem.W.Frag) (T : String) (x : V) (H : Hp) : Prop := match x with
  | .str _ => T = "str"
  | .int _ => T = "int"
  | .ref p => (T = "list"∧∃ xs,SqL K H p xs)∨(T = "tuple"∧((∃ o,K.lookup p = some o∧o.cls = .type "tuple"∧o.dict = none)∨∃ xs,Rd H p (.tup xs))) ∨
      (T = "dict"∧((∃ kvs,Rd H p (.dK kvs))∨∃ kvs,H p = some (.dT kvs)))∨(T = "set"∧∃ S n,H p = some (.set S n))
  | _ => False
theorem zlC {pins : List (Addr × Obj)} {σ : St} {H : Hp} {s : Shared} {T : String} {x : V} {v : Value} (I : Inv X pins σ H s) (r : RelV x v) (ty : tyV X.K T x H) :
    s.TypeIs v T∧∀ a,v = .ref a→∃ ob,s.heap.get? a = some ob∧ob.dict = none := by
  cases x with
  | str z =>
    obtain ⟨t,rfl⟩ := r
    cases (show T = "str" from ty)
    exact ⟨typeIs_str s z t,fun _ e => nomatch e⟩
  | int i =>
    obtain ⟨t,rfl⟩ := r
    cases (show T = "int" from ty)
    exact ⟨typeIs_int s i t,fun _ e => nomatch e⟩
  | ref p =>
    cases r
    rcases ty with ⟨rfl,xs,hq⟩ | ⟨rfl,⟨o,hk,hc,hd⟩ | ⟨xs,hq⟩⟩ | ⟨rfl,hk⟩ | ⟨rfl,S,n,hk⟩
    · obtain ⟨its,_,pl,_⟩ := I.list hq
      refine ⟨pl.isList.typeIs,fun a e => ?_⟩
      cases e
      obtain ⟨o,n,e,c,hd,_⟩ := pl
      exact ⟨o,e,hd⟩
    · refine ⟨⟨o,I.kIn p o hk,hc⟩,fun a e => ?_⟩
      cases e
      exact ⟨o,I.kIn _ o hk,hd⟩
    · obtain ⟨_,its,_,⟨o,ho,hc,_⟩,o2,ho2,hd2⟩ := hq.ok I.hok
      refine ⟨⟨o,ho,hc⟩,fun a e => ?_⟩
      cases e
      exact ⟨o2,ho2,hd2⟩
    · have z : ∃ o,s.heap.get? p = some o∧o.ExactDict := by
        rcases hk with ⟨kvs,hk⟩ | ⟨kvs,hk⟩
        · obtain ⟨_,_,_,_,o,_,_,e,ex,_⟩ := (show zaW X.prog X.w H s.heap p (.dK kvs) from hk.ok I.hok)
          exact ⟨o,e,ex⟩
        · obtain ⟨_,_,_,_,o,_,_,e,ex,_⟩ := I.hok p _ hk
          exact ⟨o,e,ex⟩
      obtain ⟨o,e,ex⟩ := z
      refine ⟨⟨o,e,ex.1⟩,fun a e2 => ?_⟩
      cases e2
      exact ⟨o,e,ex.2.1⟩
    · obtain ⟨o,_,_,_,e,ex,_⟩ := I.hok p _ hk
      refine ⟨⟨o,e,ex.1⟩,fun a e2 => ?_⟩
      cases e2
      exact ⟨o,e,ex.2.1⟩
  | _ => exact False.elim ty
noncomputable def tBM (K : PySem.W.Frag) (T : String) (r : V→List V→Hp→VK→Prop) (to : TE) (t : TA) : TE := fun σ H Q => to σ H fun x H1 => tyV K T x H1∧t σ H1 fun xs H2 => r x xs H2 Q
variable {o e : Expr} {es : List Expr} {to : TE} {t : TA} {name : Str} {apos cpos : Pos} {T id : String} {r : V → List V → Hp → VK → Prop}
theorem zmv (pa : PlainAttrs T) (slot : Slot T name id) (hty : typeOf (.builtin id) = pure (.type "method_descriptor")) (hm : MtR X id r) (ho : PE X o to) (ha : PA X (e::es) t)
    (hbase : attributeBase o name X.env (eval o X.env) = eval o X.env := by rfl)
    (hfew : ((backTo cpos (starEach (e::es) X.env)).all (fun x => ! x.1) && (backToKw cpos (keywordEach [] X.env)).all (fun x => x.1.isSome)
      && decide ((e::es).length + ([] : List Keyword).length + (if ([] : List Keyword).isEmpty then 0 else 1) < 30)) = true := by rfl)
    (hline : (apos.endLine == cpos.line) = true := by rfl) (hs : starEach (e::es) X.env = (false,eval e X.env)::starEach es X.env := by rfl) (hplain : (backTo cpos (starEach es X.env)).any (·.1) = false := by rfl) :
    PE X (.Call (.Attribute o name apos) (e::es) [] cpos) (tBM X.K T r to t) := by
  intro pins s σ H Q I h
  refine wpAny_Call_method_late hbase hfew hline rfl (thn (ho pins s σ H _ I h) fun v s1 ⟨x,H1,I1,r1,ty,q1⟩ => ?_)
  obtain ⟨h1,h2⟩ := zlC I1 r1 ty
  refine ⟨T,id,pa,slot,hty,h1,h2,?_⟩
  have hA := ha cpos pins s1 σ H1 _ I1 q1
  rw [hs] at hA ⊢
  refine Calls.callWith_builtin (by show (false || (backTo cpos (starEach es X.env)).any (·.1)) = false; rw [hplain] <;> rfl) (Calls.evalArgs_plain ?_)
  exact thn hA fun us s2 ⟨vs,H2,I2,r2,q2⟩ => hm pins s2 σ H2 x vs v us Q I2 r1 r2 q2
end
end L2
namespace L2
open PySem PySem.Spec PyProof.Rows
noncomputable def MtM (X : Cx) (id : String) (r : V→List V→Hp→VK→Prop) : Prop :=
  ∀ (pins : List (Addr × Obj)) (s : Shared) (σ : St) (H : Hp) (x : V) (xs : List V) (v : Value) (us : List Value) (Q : VK),Inv X pins σ H s→RelV x v→Vals xs us→r x xs H Q →
    wpAny (model X.prog X.w) X.A (call (.builtin id) (v::us)) (EP X pins σ Q) X.xe s
theorem Vals.one {x : V} {us : List Value} (h : Vals [x] us) : ∃ u,us = [u]∧RelV x u := by
  cases h with
  | cons r t => cases t; exact ⟨_,rfl,r⟩
theorem Vals.zero : ∀ {us : List Value},Vals [] us→us = []
  | _,.nil => rfl
theorem Vals.eraseIdx : ∀ {xs : List V} {us : List Value} (i : Nat),Vals xs us→Vals (xs.eraseIdx i) (us.eraseIdx i)
  | _,_,_,.nil => .nil
  | _,_,0,.cons _ t => t
  | _,_,i + 1,.cons r t => .cons r (Vals.eraseIdx i t)
theorem Vals.reverse {xs : List V} {us : List Value} (h : Vals xs us) : Vals xs.reverse us.reverse := by
  induction h with
  | nil => exact .nil
  | cons r t ih => rw [List.reverse_cons,List.reverse_cons]; exact Vals.append ih (.cons r .nil)
section
variable {X : Cx} {pins : List (Addr × Obj)} {σ : St} {H : Hp} {s : Shared} {l b : Addr} {xs ys zs : List V}
theorem Inv.lset {its its' : List Value} {n : Nat} {f : Array Value→Array Value} {t' : Nat} (I : Inv X pins σ H s) (hH : H l = some (.lst xs))
    (e : s.heap.get? l = some { cls := .type "list",data := .seq its.toArray n }) (hf : f its.toArray = its'.toArray) (hv : Vals ys its') (hz : ys.length≤sizeLine) :
    Inv X pins σ (upd H l (.lst ys)) { s with heap := s.heap.update l (Obj.mapSeq f),toks := t' } := by
  have q := PySem.IsL.update e f
  rw [hf] at q
  refine I.write (x := l) (e := l) (by rw [hH]; exact trivial) (.inl rfl) (fun b' u hb hu => (Heap.get?_update_other s.heap (Obj.mapSeq f) (Ne.symm hb)).trans hu) ⟨_,q⟩ ?_
  exact ⟨hz,its',_,hv,q⟩
theorem Inv.lnew {its : List Value} {t' : Nat} (I : Inv X pins σ H s) (hv : Vals ys its) (hz : ys.length≤sizeLine) :
    Inv X pins σ (upd H s.heap.objs.size (.lst ys)) { s with heap := s.heap.push { cls := .type "list",data := .seq its.toArray },toks := t' } :=
  I.laid (fun _ _ q => Heap.get?_push_of_some _ q) (Nat.le_refl _) ⟨hz,its,0,hv,Heap.get?_push_size _ rfl⟩
theorem Inv.fresh (I : Inv X pins σ H s) : H s.heap.objs.size = none := I.hok.fresh (Nat.le_refl _)
theorem Inv.lstM (I : Inv X pins σ H s) (hH : H l = some (.lst xs)) : xs.length≤sizeLine∧∃ (its : List Value) (n : Nat),Vals xs its∧xs.length = its.length∧s.heap.get? l = some { cls := .type "list",data := .seq its.toArray n } := by
  obtain ⟨z,its,n,r,e⟩ := I.hok l _ hH
  exact ⟨z,its,n,r,r.length,e⟩
end
section
variable {X : Cx}
noncomputable def zhK : V→List V→Hp→VK→Prop := fun x vs H Q => ∃ l xs y,x = .ref l∧vs = [y]∧H l = some (.lst xs)∧xs.length < sizeLine∧Q .non (upd H l (.lst (xs++[y])))
theorem zcm : MtM X "list.append" zhK := by
  intro pins s σ H x vs v us Q I rx rv h
  obtain ⟨l,xs,y,rfl,rfl,hH,hz,q⟩ := h
  cases rx
  obtain ⟨u,rfl,ru⟩ := rv.one
  obtain ⟨z,its,n,r,hl,e⟩ := I.lstM hH
  refine call_meets F.slot_list_append ⟨_,e,rfl⟩ F.entry_list_append (F.args_list_append_2 _ _) (PySem.list_append l its.toArray n u (by rw [List.size_toArray]; omega)) ⟨e,?_⟩
  refine ⟨.non,_,I.lset (its' := its++[u]) hH e (by simp) (r.append (.cons ru .nil)) ?_,rfl,q⟩
  rw [List.length_append,List.length_singleton]
  omega
end
section
variable {prog : Program} {w : World} {A : Around} {E : Value → Shared → Prop} {s : Shared}
end
section
variable {X : Cx}
end
end L2
namespace L2
open PySem PySem.Spec PyProof.Rows
section
variable {κ : Type} [DecidableEq κ]
noncomputable def valV (kvs : List (κ × V)) (k : κ) : Option V := (kvs.find? fun kv => decide (kv.1 = k)).map (·.2)
noncomputable def putK (kvs : List (κ × V)) (k : κ) (v : V) : List (κ × V) :=
  if (kvs.any fun kv => decide (kv.1 = k)) = true then kvs.map (fun kv => if kv.1 = k then (kv.1,v) else kv) else kvs++[(k,v)]
noncomputable def znk (kvs : List (κ × V)) (k : κ) : List (κ × V) := kvs.filter fun kv => decide (kv.1≠k)
theorem zdR {p : κ × V} {r : List (κ × V)} {k : κ} (e : p.1 = k) : valV (p::r) k = some p.2 := by simp [valV,List.find?_cons,e]
theorem zcX {p : κ × V} {r : List (κ × V)} {k : κ} (e : ¬ p.1 = k) : valV (p::r) k = valV r k := by simp [valV,List.find?_cons,e]
theorem zgl (k : κ) : ∀ kvs : List (κ × V),(kvs.any fun kv => decide (kv.1 = k)) = (valV kvs k).isSome
  | [] => rfl
  | p::r => by
    rw [List.any_cons]
    by_cases e : p.1 = k
    · simp only [zdR e,decide_eq_true e,Bool.true_or,Option.isSome_some]
    · rw [zcX e,decide_eq_false e,Bool.false_or]; exact zgl k r
theorem zeb (kvs : List (κ × V)) (k : κ) (v : V) : (putK kvs k v).length≤kvs.length + 1 := by
  unfold putK
  split
  · rw [List.length_map]; omega
  · rw [List.length_append,List.length_cons,List.length_nil]; omega
theorem RelO.isSome_eq {o : Option V} {u : Option Value} (r : RelO o u) : o.isSome = u.isSome := by
  cases o with
  | none => cases u with
    | none => rfl
    | some _ => exact (show False from r).elim
  | some _ => cases u with
    | none => exact (show False from r).elim
    | some _ => rfl
theorem RelO.getD {o : Option V} {u : Option Value} {d : V} {d' : Value} (r : RelO o u) (rd : RelV d d') : RelV (o.getD d) (u.getD d') := by
  cases o with
  | none => cases u with
    | none => exact rd
    | some _ => exact (show False from r).elim
  | some _ => cases u with
    | none => exact (show False from r).elim
    | some _ => exact r
theorem KV.val {kvs : List (κ × V)} {vs : List (κ × Value)} (r : KV kvs vs) (k : κ) : RelO (valV kvs k) (valueAt vs k) := by
  unfold KV at r
  induction r with
  | nil => exact True.intro
  | @cons p q ps qs h t ih =>
    obtain ⟨h1,h2⟩ := h
    by_cases e : p.1 = k
    · have e' : q.1 = k := h1.symm.trans e
      have b : valueAt (q::qs) k = some q.2 := by simp [valueAt,List.find?_cons,e']
      rw [zdR e,b]; exact h2
    · have e' : ¬ q.1 = k := fun z => e (h1.trans z)
      have b : valueAt (q::qs) k = valueAt qs k := by simp [valueAt,List.find?_cons,e']
      rw [zcX e,b]; exact ih
theorem KV.any {kvs : List (κ × V)} {vs : List (κ × Value)} (r : KV kvs vs) (k : κ) : (kvs.any fun kv => decide (kv.1 = k)) = vs.any fun kv => decide (kv.1 = k) := by
  unfold KV at r
  induction r with
  | nil => rfl
  | cons h t ih => rw [List.any_cons,List.any_cons,ih,h.1]
theorem KV.repl {kvs : List (κ × V)} {vs : List (κ × Value)} (r : KV kvs vs) (k : κ) {y : V} {u : Value} (ry : RelV y u) :
    KV (kvs.map fun kv => if kv.1 = k then (kv.1,y) else kv) (vs.map fun kv => if kv.1 = k then (kv.1,u) else kv) := by
  unfold KV at r ⊢
  induction r with
  | nil => exact .nil
  | @cons p q ps qs h t ih =>
    rw [List.map_cons,List.map_cons]
    refine .cons ?_ ih
    obtain ⟨h1,h2⟩ := h
    by_cases e : p.1 = k
    · rw [if_pos e,if_pos (h1.symm.trans e)]; exact ⟨h1,ry⟩
    · rw [if_neg e,if_neg (fun z => e (h1.trans z))]; exact ⟨h1,h2⟩
theorem KV.put {kvs : List (κ × V)} {vs : List (κ × Value)} (r : KV kvs vs) (k : κ) {y : V} {u : Value} (ry : RelV y u) : KV (putK kvs k y) (stored vs k u) := by
  unfold putK stored
  rw [r.any k]
  by_cases e : (vs.any fun kv => decide (kv.1 = k)) = true
  · rw [if_pos e,if_pos e]; exact r.repl k ry
  · rw [if_neg e,if_neg e]; exact Paired.snoc r ⟨rfl,ry⟩
theorem KV.drop {kvs : List (κ × V)} {vs : List (κ × Value)} (r : KV kvs vs) (k : κ) : KV (znk kvs k) (without vs k) := by
  unfold KV at r ⊢
  unfold znk without
  induction r with
  | nil => exact .nil
  | @cons p q ps qs h t ih =>
    obtain ⟨h1,h2⟩ := h
    rw [List.filter_cons,List.filter_cons]
    by_cases e : p.1 = k
    · have a : ¬ decide (p.1≠k) = true := by simp [e]
      have b : ¬ decide (q.1≠k) = true := by simp [h1.symm.trans e]
      rw [if_neg a,if_neg b]; exact ih
    · have e' : ¬ q.1 = k := fun z => e (h1.trans z)
      have a : decide (p.1≠k) = true := by simp [e]
      have b : decide (q.1≠k) = true := by simp [e']
      rw [if_pos a,if_pos b]; exact .cons ⟨h1,h2⟩ ih
theorem KV.length {kvs : List (κ × V)} {vs : List (κ × Value)} (r : KV kvs vs) : kvs.length = vs.length := Paired.length r
end
theorem zjo {P : Program} {w : World} {k : Key} {u : Value} (r : RelV (kV k) u) : (za0 P w).is k u = true := by
  cases k with
  | inl i => obtain ⟨t,e⟩ := (show ∃ t,u = Value.int i t from r); subst e; exact zf6 P w i t
  | inr x => obtain ⟨t,e⟩ := (show ∃ t,u = Value.str x t from r); subst e; exact zf5 P w x t
theorem zfC {P : Program} {w : World} : ∀ {ks : List Key} {us : List Value},Vals (ks.map kV) us→ItemsAre (za0 P w) ks us
  | [],_,r => by rw [List.map_nil] at r; cases r; exact .nil
  | k::ks,_,r => by
    rw [List.map_cons] at r
    cases r with
    | cons h t => exact .cons (zjo h) (zfC t)
noncomputable abbrev KT (H : Hp) : List (List Key × V)→List (List Key × Addr × Value)→Prop := Paired fun p q => p.1 = q.1∧H q.2.1 = some (.tup (p.1.map kV))∧RelV p.2 q.2.2
theorem KT.val {H : Hp} {kvs : List (List Key × V)} {xs : List (List Key × Addr × Value)} (r : KT H kvs xs) (k : List Key) : RelO (valV kvs k) ((atKey xs k).map (·.2)) := by
  induction r with
  | nil => exact True.intro
  | @cons p q ps qs h t ih =>
    obtain ⟨h1,_,h2⟩ := h
    by_cases e : p.1 = k
    · have e' : q.1 = k := h1.symm.trans e
      have b : atKey (q::qs) k = some q.2 := by simp [atKey,List.find?_cons,e']
      rw [zdR e,b]; exact h2
    · have e' : ¬ q.1 = k := fun z => e (h1.trans z)
      have b : atKey (q::qs) k = atKey qs k := by simp [atKey,List.find?_cons,e']
      rw [zcX e,b]; exact ih
theorem KT.repl {H : Hp} {kvs : List (List Key × V)} {xs : List (List Key × Addr × Value)} (r : KT H kvs xs) (k : List Key) {y : V} {u : Value} (ry : RelV y u) :
    KT H (kvs.map fun kv => if kv.1 = k then (kv.1,y) else kv) (xs.map (putAt k u)) := by
  induction r with
  | nil => exact .nil
  | @cons p q ps qs h t ih =>
    rw [List.map_cons,List.map_cons]
    refine .cons ?_ ih
    obtain ⟨h1,h2,h3⟩ := h
    unfold putAt
    by_cases e : p.1 = k
    · rw [if_pos e,if_pos (h1.symm.trans e)]; exact ⟨h1,h2,ry⟩
    · rw [if_neg e,if_neg (fun z => e (h1.trans z))]; exact ⟨h1,h2,h3⟩
theorem KT.put {H : Hp} {kvs : List (List Key × V)} {xs : List (List Key × Addr × Value)} (r : KT H kvs xs) (k : List Key) {b : Addr} {y : V} {u : Value} (hb : H b = some (.tup (k.map kV))) (ry : RelV y u) :
    KT H (putK kvs k y) (storedH xs k b u) := by
  have e : (kvs.any fun kv => decide (kv.1 = k)) = (atKey xs k).isSome := by
    rw [zgl,(r.val k).isSome_eq,Option.isSome_map]
  unfold putK storedH
  rw [e]
  by_cases q : (atKey xs k).isSome = true
  · rw [if_pos q,if_pos q]; exact r.repl k ry
  · rw [if_neg q,if_neg q]; exact Paired.snoc r ⟨rfl,hb,ry⟩
theorem KT.keeps {H H' : Hp} {kvs : List (List Key × V)} {xs : List (List Key × Addr × Value)} (r : KT H kvs xs) (ht : ∀ b ys,H b = some (.tup ys)→H' b = some (.tup ys)) : KT H' kvs xs :=
  Paired.mapP r fun _ _ z => ⟨z.1,ht _ _ z.2.1,z.2.2⟩
section
variable {P : Program} {w : World} {H : Hp} {h : Heap} {a : Addr}
theorem zl5 {u : HO} (ok : HOk P w H h) (e : Rd H a u) : zaW P w H h a u := e.ok ok
theorem ziy {kvs : List (Key × V)} (ok : HOk P w H h) (e : Rd H a (.dK kvs)) : kvs.length≤sizeLine∧(a == sysModules) = false∧∃ vs,KV kvs vs∧h.DictOf (za0 P w) a vs :=
  show zaW P w H h a (.dK kvs) from zl5 ok e
theorem zog {kvs : List (Key × V)} (ok : HOk P w H h) (e : H a = some (.dK kvs)) : kvs.length≤sizeLine∧(a == sysModules) = false∧∃ vs,KV kvs vs∧h.DictOf (za0 P w) a vs := ziy ok (.inl e)
theorem zgG {ks : List Key} (ok : HOk P w H h) (e : H a = some (.tup (ks.map kV))) : (tupleKind (za0 P w)).is h ks a := by
  obtain ⟨_,its,r,⟨o,h1,h2,n,h3⟩,_⟩ := (show zaW P w H h a (.tup (ks.map kV)) from ok a _ e)
  exact ⟨o,its.toArray,n,h1,h2,h3,by simpa using zfC r⟩
theorem zjy {kvs : List (List Key × V)} (ok : HOk P w H h) (e : Rd H a (.dT kvs)) : kvs.length≤sizeLine∧(a == sysModules) = false ∧
    ∃ xs,KT H kvs xs∧h.DictOfH (tupleKind (za0 P w)) a xs := by
  obtain ⟨z,y,xs,r,o,es,ep,h1,h2,h3,h4,h5⟩ := (show zaW P w H h a (.dT kvs) from zl5 ok e)
  refine ⟨z,y,xs,r,o,es,ep,h1,h2,h3,h4,fun x hx => ?_,h5⟩
  have all : ∀ {l : List (List Key × V)} {m : List (List Key × Addr × Value)},KT H l m→∀ x∈m,(tupleKind (za0 P w)).is h x.1 x.2.1 := by
    intro l m q
    induction q with
    | nil => intro x hx; exact nomatch hx
    | @cons p q ps qs hq t ih =>
      intro x hx
      rcases List.mem_cons.mp hx with e | hx
      · subst e
        exact zgG ok (by rw [← hq.1]; exact hq.2.1)
      · exact ih x hx
  exact all r x hx
theorem zof {kvs : List (List Key × V)} (ok : HOk P w H h) (e : H a = some (.dT kvs)) : kvs.length≤sizeLine∧(a == sysModules) = false ∧
    ∃ xs,KT H kvs xs∧h.DictOfH (tupleKind (za0 P w)) a xs := zjy ok (.inl e)
end
noncomputable def DGet (H : Hp) (a : Addr) (y : V) (r : Option V) : Prop :=
  (∃ kvs k,Rd H a (.dK kvs)∧y = kV k∧r = valV kvs k)∨∃ kvs k b,Rd H a (.dT kvs)∧y = .ref b∧H b = some (.tup (k.map kV))∧r = valV kvs k
noncomputable def DPut (H : Hp) (a : Addr) (y v : V) (H' : Hp) : Prop :=
  (∃ kvs k,H a = some (.dK kvs)∧y = kV k∧kvs.length < sizeLine∧H' = upd H a (.dK (putK kvs k v))) ∨
  ∃ kvs k b,H a = some (.dT kvs)∧y = .ref b∧H b = some (.tup (k.map kV))∧kvs.length < sizeLine∧H' = upd H a (.dT (putK kvs k v))
theorem DGet.k {H : Hp} {a : Addr} {kvs : List (Key × V)} {k : Key} (e : H a = some (.dK kvs)) : DGet H a (kV k) (valV kvs k) := .inl ⟨kvs,k,.inl e,rfl,rfl⟩
theorem DGet.t {H : Hp} {a b : Addr} {kvs : List (List Key × V)} {k : List Key} (e : H a = some (.dT kvs)) (eb : H b = some (.tup (k.map kV))) : DGet H a (.ref b) (valV kvs k) := .inr ⟨kvs,k,b,.inl e,rfl,eb,rfl⟩
theorem DPut.k {H : Hp} {a : Addr} {kvs : List (Key × V)} {k : Key} {v : V} (e : H a = some (.dK kvs)) (hl : kvs.length < sizeLine) : DPut H a (kV k) v (upd H a (.dK (putK kvs k v))) := .inl ⟨kvs,k,e,rfl,hl,rfl⟩
theorem DPut.t {H : Hp} {a b : Addr} {kvs : List (List Key × V)} {k : List Key} {v : V} (e : H a = some (.dT kvs)) (eb : H b = some (.tup (k.map kV))) (hl : kvs.length < sizeLine) :
    DPut H a (.ref b) v (upd H a (.dT (putK kvs k v))) := .inr ⟨kvs,k,b,e,rfl,eb,hl,rfl⟩
section
variable {X : Cx} {pins : List (Addr × Obj)} {σ : St} {H : Hp} {s : Shared} {a : Addr} {y v : V} {u r : Value} {o : Option V} {A : Around} {E : Value → Shared → Prop}
theorem Inv.big (I : Inv X pins σ H s) : sysModules < s.heap.objs.size := by
  have h : mainGlobals < s.heap.objs.size := (I.mod.glob.keeps I.bk).lt
  exact Nat.lt_trans (by decide) h
theorem ziD {Q : Value→Shared→Prop} (hu : A.units + 1 < cLine) (I : Inv X pins σ H s) (g : DGet H a y (some v)) (ry : RelV y u) (h : ∀ w' s',Inv X pins σ H s'→RelV v w'→Q w' s') :
    wpAny (model X.prog X.w) A (getItem (.ref a) u) Q E s := by
  rcases g with ⟨kvs,k,e,ey,l⟩ | ⟨kvs,k,b,e,ey,eb,l⟩
  · subst ey
    obtain ⟨z,hd,vs,rel,dd⟩ := ziy I.hok e
    obtain ⟨w',hw,rw'⟩ := RelO.some_of (v := v) (o := valueAt vs k) (by rw [l]; exact rel.val k)
    exact wpAny_getItem_of (zjo ry) dd.mapOf hw (h w' _ (I.tok _) rw')
  · subst ey
    cases (show u = Value.ref b from ry)
    obtain ⟨z,hd,xs,rel,dd⟩ := zjy I.hok e
    obtain ⟨w',hw,rw'⟩ := RelO.some_of (v := v) (o := (atKey xs k).map (·.2)) (by rw [l]; exact rel.val k)
    obtain ⟨p,hp,hp2⟩ := Option.map_eq_some_iff.mp hw
    refine wpAny_getItem_heap (tupleKind_room_in1 hu) (zgG I.hok eb) dd hp ?_
    rw [hp2]
    exact h w' _ (I.tok _) rw'
theorem d_in {Q : Value→Shared→Prop} (hu : A.units + 1 < cLine) (I : Inv X pins σ H s) (g : DGet H a y o) (ry : RelV y u) (h : ∀ s',Inv X pins σ H s'→Q (.bool o.isSome) s') :
    wpAny (model X.prog X.w) A (compareOp .In u (.ref a)) Q E s := by
  rcases g with ⟨kvs,k,e,ey,l⟩ | ⟨kvs,k,b,e,ey,eb,l⟩
  · subst ey
    obtain ⟨z,hd,vs,rel,dd⟩ := ziy I.hok e
    refine wpAny_in_of (zjo ry) hd dd.mapOf ?_
    rw [← (rel.val k).isSome_eq,← l]
    exact h _ (I.tok _)
  · subst ey
    cases (show u = Value.ref b from ry)
    obtain ⟨z,hd,xs,rel,dd⟩ := zjy I.hok e
    refine wpAny_in_heap (tupleKind_room_in1 hu) (zgG I.hok eb) hd dd ?_
    have q := (rel.val k).isSome_eq
    rw [Option.isSome_map] at q
    rw [← q,← l]
    exact h _ (I.tok _)
theorem ziB {h' : Heap} {t' : Nat} {ob : HO} (I : Inv X pins σ H s) (mu : Mut (H a)) (hs : Heap.SameBut a s.heap h') (he : ∃ q,h'.get? a = some q) (new : zaW X.prog X.w (upd H a ob) h' a ob) :
    Inv X pins σ (upd H a ob) { s with heap := h',toks := t' } :=
  I.write (x := a) (e := a) mu (.inl rfl) (fun b q hb z => (hs.2 b hb).trans z) he new
theorem znl {P : Program} {w : World} {H' : Hp} {h' : Heap} {kvs : List (Key × V)} {vs : List (Key × Value)} (z : kvs.length≤sizeLine) (hd : (a == sysModules) = false) (rel : KV kvs vs) (dd : h'.DictOf (za0 P w) a vs) :
    zaW P w H' h' a (.dK kvs) := ⟨z,hd,vs,rel,dd⟩
theorem ziC {H' : Hp} {Q : Unit→Shared→Prop} (hu : A.units + 1 < cLine) (I : Inv X pins σ H s) (g : DPut H a y v H') (ry : RelV y u) (rv : RelV v r) (h : ∀ s',Inv X pins σ H' s'→Q () s') :
    wpAny (model X.prog X.w) A (setItem (.ref a) u r) Q E s := by
  rcases g with ⟨kvs,k,e,ey,l,eH⟩ | ⟨kvs,k,b,e,ey,eb,l,eH⟩
  · subst ey eH
    obtain ⟨z,hd,vs,rel,dd⟩ := zog I.hok e
    have hz : vs.length≤sizeLine := by rw [← rel.length]; exact z
    have hl : (putK kvs k v).length≤sizeLine := by have := zeb kvs k v; omega
    refine wpAny_setItem_pairs (hsz := hz) (zjo ry) dd fun h' dd' hs => h _ ?_
    have he : ∃ q,h'.get? a = some q := let ⟨q,_,_,hq,_⟩ := dd'; ⟨q,hq⟩
    exact ziB I (by rw [e]; exact True.intro) hs he (znl hl hd (rel.put k rv) dd')
  · subst ey eH
    cases (show u = Value.ref b from ry)
    obtain ⟨z,hd,xs,rel,dd⟩ := zof I.hok e
    have hz : xs.length≤sizeLine := by rw [← Paired.length rel]; exact z
    have hl : (putK kvs k v).length≤sizeLine := by have := zeb kvs k v; omega
    refine wpAny_setItem_heap (hsz := hz) (tupleKind_room_in1 hu) (zgG I.hok eb) dd fun h' dd' hs => h _ ?_
    obtain ⟨q,es,ep,hq,h2,h3,h4,_,h5⟩ := dd'
    refine ziB I (by rw [e]; exact True.intro) hs ⟨q,hq⟩ ⟨hl,hd,_,(rel.put k eb rv).keeps fun c ys ec => ?_,q,es,ep,hq,h2,h3,h4,h5⟩
    rw [zam (zn3 ec e (fun z => nomatch z))]
    exact ec
end
section
variable {X : Cx} {pins : List (Addr × Obj)} {σ : St} {H : Hp} {s : Shared} {a : Addr} {kvs : List (Key × V)} {k : Key} {u : Value} {A : Around} {E : Value → Shared → Prop}
theorem zoh {Q : Value→Shared→Prop} (I : Inv X pins σ H s) (e : Rd H a (.dK kvs)) (h : ∀ t s',Inv X pins σ H s'→Q (.int kvs.length t) s') : wpAny (model X.prog X.w) A (call (.builtin "len") [.ref a]) Q E s := by
  obtain ⟨z,hd,vs,rel,dd⟩ := ziy I.hok e
  refine call_len_dict hd dd (by rw [← rel.length]; rw [sizeLine_eq] at z; omega) ?_
  rw [← rel.length]
  exact h _ _ (I.tok _)
end
theorem zgf {X : Cx} {pins : List (Addr × Obj)} {σ : St} {H : Hp} {s : Shared} {a : Addr} {y : V} {o : Option V} (I : Inv X pins σ H s) (g : DGet H a y o) : s.TypeIs (.ref a) "dict" := by
  rcases g with ⟨kvs,k,e,_,_⟩ | ⟨kvs,k,b,e,_,_,_⟩
  · obtain ⟨_,_,vs,_,dd⟩ := ziy I.hok e
    exact dd.typeIs
  · obtain ⟨_,_,xs,_,dd⟩ := zjy I.hok e
    exact dd.typeIs
section
variable {X : Cx} {o i e value : Expr} {pos pos' tpos : Pos} {td ty tv : TE}
end
theorem zjB {P : Program} {w : World} {H : Hp} (h : Heap) (hb : sysModules < h.objs.size) : zaW P w H (h.push { cls := .type "dict",data := .dict #[] }) h.objs.size (.dK []) :=
  ⟨Nat.zero_le _,beq_eq_false_iff_ne.mpr (Ne.symm (Nat.ne_of_lt hb)),[],.nil,Heap.DictOf.new h⟩
noncomputable def zlI : TE := fun _ H Q => ∀ p,H p = none→Q (.ref p) (upd H p (.dK []))
section
variable {X : Cx} {pos : Pos}
theorem zjc : PE X (.Dict [] [] pos) zlI := fun pins s σ H Q I h =>
  wpAny_Dict_empty ⟨.ref s.heap.objs.size,_,I.laid (a := s.heap.objs.size) (o := .dK []) (t' := s.toks) (fun _ _ q => Heap.get?_push_of_some _ q) (Nat.le_refl _) (zjB s.heap I.big),rfl,h _ (I.hok.fresh (Nat.le_refl _))⟩
end
structure M1 (X : Cx) (o : Expr) (m : Str) (apos : Pos) (e : Expr) (cpos : Pos) : Prop where
  base : attributeBase o m X.env (eval o X.env) = eval o X.env
  few : ((backTo cpos (starEach [e] X.env)).all (fun x => ! x.1) && (backToKw cpos (keywordEach [] X.env)).all (fun x => x.1.isSome)
    && decide (([e] : List Expr).length + ([] : List Keyword).length + (if ([] : List Keyword).isEmpty then 0 else 1) < 30)) = true
  line : (apos.endLine == cpos.line) = true
  trees : backTo cpos (starEach [e] X.env) = [(false,eval e X.env)]
structure M2 (X : Cx) (o : Expr) (m : Str) (apos : Pos) (e f : Expr) (cpos : Pos) : Prop where
  base : attributeBase o m X.env (eval o X.env) = eval o X.env
  few : ((backTo cpos (starEach [e,f] X.env)).all (fun x => ! x.1) && (backToKw cpos (keywordEach [] X.env)).all (fun x => x.1.isSome)
    && decide (([e,f] : List Expr).length + ([] : List Keyword).length + (if ([] : List Keyword).isEmpty then 0 else 1) < 30)) = true
  line : (apos.endLine == cpos.line) = true
  trees : backTo cpos (starEach [e,f] X.env) = [(false,eval e X.env),(false,eval f X.env)]
section
variable {X : Cx} {pins : List (Addr × Obj)} {σ : St} {H : Hp} {s : Shared} {a : Addr} {y d : V} {u r : Value} {o : Option V} {A : Around} {E : Value → Shared → Prop}
end
section
variable {X : Cx} {o e f : Expr} {apos cpos : Pos} {td ty tx : TE}
end
section
variable {X : Cx} {pins : List (Addr × Obj)} {σ : St} {H : Hp} {s : Shared} {a : Addr} {kvs : List (Key × V)} {A : Around} {E : Value → Shared → Prop}
end
section
variable {X : Cx} {pins : List (Addr × Obj)} {σ : St} {H : Hp} {s : Shared} {a : Addr} {y : V} {u : Value} {A : Around} {E : Value → Shared → Prop}
end
end L2
namespace Att
open PySem PySem.W PySem.Calls PyProof.Rows
theorem zef {P : Params} {h : Heap} : ∀ (ns : List Int) (vs : List Value),WellAll P h vs (ns.map WData.int)→IntsAre vs ns := by
  intro ns
  induction ns with
  | nil =>
    intro vs w
    rw [List.map_nil] at w
    cases w
    exact .nil
  | cons n ns ih =>
    intro vs w
    rw [List.map_cons] at w
    cases w with
    | cons a b =>
      cases a
      exact .cons _ _ (ih _ b)
theorem zhz {l : OpenLaw} {n : Nat} (hn : l.most = some n) {P : Params} {h : Heap} {args : List WData} {vals : List Value}
    (hpre : l.row.toRowW.claim.pre args = true) (hwl : WellAll P h vals args) :
    ∃ a vs ns,vals = [Value.ref a]∧args = [WData.list (ns.map WData.int)]∧h.get? a = some { cls := .type "list",data := .seq vs.toArray }∧IntsAre vs ns∧ns.length≤n := by
  have hsh : WShape.hasAll [] args [.list .int] = true := (pre_splitW hpre).1
  have hc : l.pre.holds [] { args := args } = true := (pre_splitW hpre).2
  obtain ⟨d,r,rfl,h1,h2⟩ := hasAllW_cons hsh
  obtain rfl := hasAllW_nil h2
  obtain ⟨xs,rfl,h3⟩ := hasW_list h1
  obtain ⟨ns,rfl⟩ := items_int h3
  have hlen : ns.length≤n := by
    unfold OpenLaw.pre at hc
    have h4 : (WTm.not (.lt (.lit (.int (n : Int))) (.len (.arg 0)))).holds [] { args := [.list (ns.map .int)] } = true := by
      have h4 := (holds_andW hc).1
      rw [hn] at h4
      exact h4
    have h5 := condW_of h4 (w_not (w_lt w_lit (w_len_list (w_arg rfl))))
    rw [List.length_map] at h5
    refine Nat.le_of_not_lt fun q => ?_
    have q' : (n : Int) < ((ns.length : Nat) : Int) := by omega
    first
      | (rw [decide_eq_true q'] at h5; exact absurd h5 (by decide))
      | (simp at h5; omega)
  cases hwl with
  | cons w1 w2 =>
    cases w2
    cases w1 with
    | list ho hall => exact ⟨_,_,ns,rfl,rfl,ho,zef ns _ hall,hlen⟩
theorem zhO (l : OpenLaw) (args : List WData) : l.row.toRowW.claim.post args (.bool true) args = true :=
  postW_of (r := l.row.toRowW) (X := (true == true))
    (show WShape.has [] (.bool true) .bool = true by first | rfl | decide | simp [WShape.has,WShape.arms,WShape.armsAll])
    (show (WTm.eq .res (.lit (.bool true))).value [] { args := args,res := some (.bool true),after := args } = some (.bool (true == true)) from w_eq_bool (w_res rfl) w_lit) rfl
theorem attach_call {l : OpenLaw} {n : Nat} {q : Program} {loose : List Str} {XP : (Str→Option Value)→Heap→Prop} {YP : World→Heap→Prop} {d : DefRec}
    (hn : l.most = some n) (hdf : d.params.defaults = [])
    (call : ∀ (w : World) (s₀ s₁ : Shared) (mg mb : Str→Option Value) (fa : Addr) (o : Obj) (pm cd doc : Value) (a : Addr) (vs : List Value) (ns : List Int),
      Ground q loose [] XP w s₀ mg mb s₁.heap→YP w s₁.heap →
      s₁.heap.get? fa = some o→o.data = .func (docDef d.name d.params d.body d.scope pm cd doc)→s₁.heap.CodeRec cd d.name→mg d.name = some (.ref fa) →
      s₁.heap.get? a = some { cls := .type "list",data := .seq vs.toArray }→IntsAre vs ns→ns.length≤n→s₁.gens = #[] →
      codeAny (model l.prog w) callerA (.call (.ref fa) ⟨[.ref a],[]⟩) (fun r s' => r = .ok (.ret (.bool true))∧OldK s₁.heap s'.heap∧s'.os = s₁.os∧AllBare s'.gens) s₁) :
    WalkO q loose XP YP l.row.toRowW d [] (fun f vs => PySem.call f vs) := by
  intro w s₀ s₁ mg mb G Y fa o pm cd doc dV kV ho hd hcd hD hmg hg args vals as hpre hlay hrd hwl hlo
  obtain rfl : dV = .none := Dflts.none hD hdf
  obtain rfl : kV = .none := Dflts.noKw hD
  obtain ⟨a,vs,ns,rfl,rfl,hobj,hints,hlen⟩ := zhz hn hpre hwl
  refine enter_call (codeAny_mono (call w s₀ s₁ mg mb fa o pm cd doc a vs ns G Y ho (fd_plain hd) hcd hmg hobj hints hlen hg) fun r s' hq => ?_)
  obtain ⟨rfl,h2,h3,h4⟩ := hq
  exact ⟨.inl ⟨.bool true,.bool true,[],rfl,fun _ => rfl,.bool true,zhO l _,fun _ => ⟨List.Pairwise.nil,fun _ hm => (nomatch hm)⟩⟩,h2,h3,h4⟩
section
variable {prog : Program} {w : World} {A : Around} {E : Value → Shared → Prop} {s : Shared} {K : Frag}
end
end Att
namespace L2
open PySem PySem.Spec PyProof.Rows
theorem zfg : ∀ {vs : List Value} {ns : List Int},IntsAre vs ns→Vals (ns.map V.int) vs
  | _,_,.nil => .nil
  | _,_,.cons n t h => .cons ⟨t,rfl⟩ (zfg h)
noncomputable def Only (H : Hp) : Prop := ∀ b,H b = none∨∃ o xs,H b = some (.frz o (.lst xs))
theorem zjm {P : Program} {w : World} {K : PySem.W.Frag} {mg mb : Str→Option Value} {CX : CXT} {k : Nat} {fa a : Addr} {fd : FuncData} {x : Str} {sp : Sp} {s₁ : Shared} {vs : List Value} {ns : List Int}
    (KX : K.In s₁.heap) (hns : s₁.heap.Ns mainGlobals mg) (hb : s₁.heap.Ns builtinsNs mb) (hbb : ∀ x : Str,x≠"__name__"→mb x = bootBuiltins x) (hlim : s₁.heap.NoLimit) (hg : s₁.gens = #[])
    (ha : s₁.heap.get? a = some { cls := .type "list",data := .seq vs.toArray }) (hi : IntsAre vs ns) (hl : ns.length≤sizeLine) (hr : Room k callerA)
    (F : ∀ base : Heap,K.In base→base.Ns mainGlobals mg→FnOk P w K mg base CX k fa fd [x] sp) (hbind : ∀ (s : Shared) (u : Value),BindsTo s fd ⟨[u],[]⟩ [(x,u)])
    (hsp : ∀ H : Hp,Only H→SqL K H a (ns.map V.int)→sp [.ref a] H (fun v _ => v = .bl true) fun _ _ _ => False)
    (hCX : ∀ H e s',CX [] H s₁ (fun _ _ _ => False) e s'→False) :
    codeAny (model P w) callerA (.call (.ref fa) ⟨[.ref a],[]⟩) (fun r s' => r = .ok (.ret (.bool true))∧OldK s₁.heap s'.heap∧s'.os = s₁.os∧AllBare s'.gens) s₁ := by
  have rv := zfg hi
  have lenV := hi.length
  have core : ∀ H : Hp,Only H→SqL K H a (ns.map V.int)→HOk P w H s₁.heap→(∀ b,H b≠none→b = a)→(H a≠none→K.lookup a = none) →
      codeAny (model P w) callerA (.call (.ref fa) ⟨[.ref a],[]⟩) (fun r s' => r = .ok (.ret (.bool true))∧OldK s₁.heap s'.heap∧s'.os = s₁.os∧AllBare s'.gens) s₁ := by
    intro H hO hS hok hA hK
    have base_of : ∀ {b : Addr} {o : Obj},s₁.heap.get? b = some o→H b = none→(hidT s₁.heap H).get? b = some o := fun e n => zjq e n
    have noA : ∀ {b : Addr} {o : Obj} {es : Array DictEntry} {ep : Nat},s₁.heap.get? b = some o→o.data = .dict es ep→H b = none := fun {b o es ep} e d => by
      cases q : H b with
      | none => rfl
      | some u =>
        have e' : b = a := hA b (by rw [q]; simp)
        subst e'
        rw [ha] at e; cases e
        have d' : Data.seq vs.toArray _ = Data.dict es ep := d
        cases d'
    have nsK : ∀ {b : Addr} {m : Str→Option Value},s₁.heap.Ns b m→(hidT s₁.heap H).Ns b m := fun {b m} ⟨o,es,ep,e,d,r⟩ => ⟨o,es,ep,base_of e (noA e d),d,r⟩
    have hKb : K.In (hidT s₁.heap H) := fun b o e => base_of (KX b o e) (by
      cases q : H b with
      | none => rfl
      | some u =>
        have e' : b = a := hA b (by rw [q]; simp)
        subst e'
        rw [hK (by rw [q]; simp)] at e; cases e)
    have hM : Mod K mg (hidT s₁.heap H) := ⟨hKb,nsK hns,⟨mb,nsK hb,hbb⟩,let ⟨mc,h1,h2⟩ := hlim; ⟨mc,nsK h1,h2⟩⟩
    have e0 : Env0 P w K mg (hidT s₁.heap H) callerA [] s₁ H := ⟨rfl,hM,fun b o e => zkZ e,Nat.le_of_eq (zio _ _),trivial,fun b hb => absurd (show b∈([] : List Addr) from hb) (by simp),hok,.of_eq hg⟩
    refine codeAny_mono ((F _ hKb (nsK hns)).run callerA [] s₁ H ⟨[.ref a],[]⟩ [.ref a] [.ref a] _ _ hr e0 (hbind s₁ (.ref a)) (.cons rfl .nil) (hsp H hO hS)) fun r s' h => ?_
    cases r with
    | error e => exact (hCX H e s' h).elim
    | ok fl =>
      cases fl with
      | next => exact False.elim h
      | brk => exact False.elim h
      | cont => exact False.elim h
      | ret u =>
        obtain ⟨v,H',os,bare,un,hok',r',q⟩ := h
        have q' : v = .bl true := q
        subst q'
        obtain rfl : u = Value.bool true := r'
        refine ⟨rfl,OldK.of_keep fun b o e => ?_,os,bare⟩
        cases q : H b with
        | none => exact un.keep b o e q (by intro z; exact absurd (show b∈([] : List Addr) from z) (by simp)) (by simp)
        | some u =>
          rcases hO b with z | ⟨ob,xs,z⟩
          · rw [q] at z; cases z
          · have z2 := un.frzs b ob _ z
            obtain ⟨e1,_⟩ := hok b _ z
            obtain ⟨e2,_⟩ := hok' b _ z2
            rw [e] at e1; cases e1
            exact e2
  cases hk : K.lookup a with
  | some o =>
    have e := KX a o hk
    rw [ha] at e
    cases e
    refine core (fun _ => none) (fun _ => .inl rfl) (.inr ⟨_,vs.toArray,_,hk,rfl,rfl,rfl,by rw [List.size_toArray,lenV]; exact hl,by simpa using rv⟩) (fun b u z => by have z' : (none : Option HO) = some u := z; cases z') (fun b z => absurd rfl z) fun z => absurd rfl z
  | none =>
    refine core (fun b => if b = a then some (.frz { cls := .type "list",data := .seq vs.toArray } (.lst (ns.map V.int))) else none) (fun b => ?_) (.inl (.inr ⟨{ cls := .type "list",data := .seq vs.toArray },if_pos rfl⟩)) (fun b u z => ?_) (fun b z => ?_) fun _ => hk
    · by_cases hb : b = a
      · exact .inr ⟨_,_,if_pos hb⟩
      · exact .inl (if_neg hb)
    · by_cases hb : b = a
      · have z' := (if_pos hb).symm.trans z
        cases z'
        subst hb
        exact ⟨ha,by rw [List.length_map]; exact hl,vs,_,rv,ha⟩
      · have z' := (if_neg hb).symm.trans z
        cases z'
    · by_cases hb : b = a
      · exact hb
      · exact absurd (if_neg hb) z
end L2
namespace L2
open PySem PySem.Spec PyProof.Rows
noncomputable abbrev KOf {K : PySem.W.Frag} {h : Heap} (_ : K.In h) : PySem.W.Frag := K
theorem walk_of {l : PySem.W.OpenLaw} {n k : Nat} {q : Program} {loose : List Str} {XP : (Str→Option Value)→Heap→Prop} {YP : World→Heap→Prop} {d : DefRec} {K : Params→PySem.W.Frag} {CX : World→CXT} {sp : World→Sp} {x : Str}
    (hn : l.most = some n) (hn2 : n≤sizeLine) (hdf : d.params.defaults = []) (hr : Room k callerA)
    (hY : ∀ (w : World) (h : Heap),YP w h→(K w.params).In h)
    (F : ∀ (w : World) (mg : Str→Option Value) (fa : Addr) (h : Heap),(K w.params).In h→h.Ns mainGlobals mg→mg d.name = some (.ref fa) →
      ∃ fd : FuncData,(∀ (s : Shared) (u : Value),BindsTo s fd ⟨[u],[]⟩ [(x,u)]) ∧
        ∀ base : Heap,(K w.params).In base→base.Ns mainGlobals mg→FnOk l.prog w (K w.params) mg base (CX w) k fa fd [x] (sp w))
    (hsp : ∀ (w : World) (H : Hp) (a : Addr) (ns : List Int),ns.length≤n→Only H→SqL (K w.params) H a (ns.map V.int)→sp w [.ref a] H (fun v _ => v = .bl true) fun _ _ _ => False)
    (hCX : ∀ (w : World) (H : Hp) (s : Shared) (e : Value) (s' : Shared),CX w [] H s (fun _ _ _ => False) e s'→False) :
    PySem.W.WalkO q loose XP YP l.row.toRowW d [] (fun f vs => PySem.call f vs) := by
  refine Att.attach_call hn hdf fun w s₀ s₁ mg mb fa o pm cd doc a vs ns G Y ho hd hcd hmg hobj hints hlen hg => ?_
  have KX := hY w _ Y
  obtain ⟨fd,hb,hF⟩ := F w mg fa _ KX G.T.g hmg
  exact zjm KX G.T.g G.T.b G.T.builtins G.T.nolimit hg hobj hints (Nat.le_trans hlen hn2) hr hF hb (fun H hO hS => hsp w H a ns hlen hO hS) fun H e s' => hCX w H s₁ e s'
end L2
namespace L2
open PySem PySem.Spec PyProof.Rows
noncomputable def zcq (s : Stmt) : Arguments := match s with
  | .FunctionDef _ a _ _ _ _ _ _ _ _ => a
  | _ => { posonlyargs := [],args := [],vararg := none,kwonlyargs := [],kw_defaults := [],kwarg := none,defaults := [] }
noncomputable def zbt (s : Stmt) : List Stmt := match s with
  | .FunctionDef _ _ b _ _ _ _ _ _ _ => b
  | _ => []
noncomputable def zab (s : Stmt) : Scope := match s with
  | .FunctionDef _ _ _ _ _ _ sc _ _ _ => sc
  | _ => { kind := .function,names := [],isGenerator := false,isCoroutine := false }
noncomputable abbrev CX0 : CXT := fun _ _ _ _ _ _ => False
noncomputable abbrev E0 : XK := fun _ _ _ => False
theorem znW {X : Cx} : ziR CX0 X E0 := fun _ _ _ _ _ _ _ h => h.elim
structure Fun (K : PySem.W.Frag) (x qual : Str) (st : Stmt) (f : Addr) (fd : FuncData) : Prop where
  ex : ∃ (oc : Value) (od : Option Addr) (kV doc pm : Value) (an : Option Addr) (cdv ct : Value) (osl : Array (Option Value)),
    fd = PySem.W.fnOf x qual (zcq st) (zbt st) (zab st) .none kV doc pm an cdv ct∧K.lookup f = some ⟨oc,od,.func fd,osl⟩∧PySem.W.codeIn K cdv qual = true
  kp : PySem.W.keepIn K (.ref f) = true
section
variable {P : Program} {w : World} {K : PySem.W.Frag} {mg : Str → Option Value} {base : Heap}
theorem Fun.ok {x qual : Str} {st : Stmt} {f : Addr} {fd : FuncData} {N ps : List Str} {k : Nat} {sp : Sp} (F : Fun K x qual st f fd) (S : FnScope N ps (zab st)) (len : ∀ vs H Q E,sp vs H Q E→vs.length = ps.length)
    (hbody : ∀ (cdv : Value) (A : Around) (outer : List Env) (s : Shared) (H : Hp) (vs : List V) (Q : VK) (E : XK),Room k (A.deeper (envOfC qual (zab st) s.heap.objs.size f cdv))→sp vs H Q E →
      ∃ t,PSs (cxOf CX0 P w K mg base N qual (zab st) f cdv A outer s H E).nox (zbt st) t∧t { nx := fun _ H' => Q .non H',rt := Q } (start N vs) H) : FnOk P w K mg base CX0 (k + 1) f fd ps sp := by
  obtain ⟨oc,od,kV,doc,pm,an,cdv,ct,osl,rfl,lk,hcd⟩ := F.ex
  refine zob lk hcd S len fun A outer s H vs Q E hr hsp => ?_
  obtain ⟨t,h,q⟩ := hbody cdv A outer s H vs Q E hr hsp
  exact ⟨t,h.nox,q⟩
theorem Fun.binds {x qual : Str} {st : Stmt} {f : Addr} {fd : FuncData} {ps : List Str} (F : Fun K x qual st f fd)
    (h : ∀ (kV doc pm : Value) (an : Option Addr) (cdv ct : Value) (us : List Value),us.length = ps.length→bindArgs (PySem.W.fnOf x qual (zcq st) (zbt st) (zab st) .none kV doc pm an cdv ct) ⟨us,[]⟩ = pure (ps.zip us)) : zeB K fd ps [] := by
  obtain ⟨oc,od,kV,doc,pm,an,cdv,ct,osl,rfl,lk,hcd⟩ := F.ex
  exact .all (h kV doc pm an cdv ct)
theorem znc {x qual : Str} {st : Stmt} {f : Addr} {oc : Value} {od an : Option Addr} {osl : Array (Option Value)} {kV doc pm cdv ct : Value} (l : K.lookup f = some ⟨oc,od,.func (PySem.W.fnOf x qual (zcq st) (zbt st) (zab st) .none kV doc pm an cdv ct),osl⟩)
    (c : PySem.W.codeIn K cdv qual = true) (k : PySem.W.keepIn K (.ref f) = true) : Fun K x qual st f (PySem.W.fnOf x qual (zcq st) (zbt st) (zab st) .none kV doc pm an cdv ct) := ⟨⟨oc,od,kV,doc,pm,an,cdv,ct,osl,rfl,l,c⟩,k⟩
end
theorem zbe {A : Around} {k : Nat} (hr : Room k A) : A.units + 1 < cLine := Nat.lt_of_le_of_lt (Nat.add_le_add_left (by decide : 1≤64) _) hr.units
section
variable {X : Cx}
theorem ziH : zdk X (.builtin "len") (fun xs H Q => ∃ a kvs,xs = [V.ref a]∧Rd H a (.dK kvs)∧Q (.int kvs.length) H) := by
  intro pins s σ H xs us Q I r h
  obtain ⟨a,kvs,rfl,ha,q⟩ := h
  obtain ⟨u,rfl,ru⟩ := zev r
  cases ru
  exact zoh I ha fun t s' I' => ⟨.int kvs.length,H,I',⟨t,rfl⟩,q⟩
end
noncomputable def Same (H H' : Hp) : Prop := ∀ b o,H b = some o→H' b = some o
theorem Same.refl (H : Hp) : Same H H := fun _ _ h => h
theorem Same.trans {H H1 H2 : Hp} (a : Same H H1) (b : Same H1 H2) : Same H H2 := fun c o h => b c o (a c o h)
theorem Same.free {H H' : Hp} (e : Same H H') {l : Addr} (h : H' l = Option.none) : H l = Option.none := by
  cases q : H l with
  | none => rfl
  | some o =>
    rw [e l o q] at h
    cases h
theorem Same.seq {K : PySem.W.Frag} {H H' : Hp} {a : Addr} {xs : List V} (e : Same H H') (h : SqL K H a xs) : SqL K H' a xs := by
  rcases h with (h | ⟨o,h⟩) | h
  · exact .inl (.inl (e _ _ h))
  · exact .inl (.inr ⟨o,e _ _ h⟩)
  · exact .inr h
section
variable {κ : Type} [DecidableEq κ]
end
end L2
end
section
namespace DL
open PySem
open PySem.SeqAt
open PySem.AutoSeq1 (wpAny_loadPart')
open PySem.MeetsSeq PySem.MeetsSeq2 PySem.MeetsSeq3
end DL
end
section
namespace DL
open PySem PyProof.Rows
section
variable {prog : Program} {w : World} {A : Around} {E : Value → Shared → Prop} {s : Shared}
end
end DL
end
section
namespace DL
open PySem PyProof.Rows PySem.W
noncomputable def zkf {α : Type} (c : Nat→Nat→Bool) : KasT α→α
  | .ret a => a
  | .ask i j k => zkf c (k (c i j))
inductive Asks (n : Nat) {α : Type} (P : α→Prop) : KasT α→Prop where
  | ret {a : α} : P a→Asks n P (.ret a)
  | ask {i j : Nat} {k : Bool→KasT α} : i < n→j < n→(∀ b,Asks n P (k b))→Asks n P (.ask i j k)
theorem Asks.bind {n : Nat} {α β : Type} {P : α→Prop} {P' : β→Prop} {t : KasT α} {f : α→KasT β} (h : Asks n P t) (hf : ∀ a,P a→Asks n P' (f a)) : Asks n P' (t.bind f) := by
  induction h with
  | ret h => exact hf _ h
  | ask h1 h2 _ ih => exact .ask h1 h2 ih
theorem Asks.run {n : Nat} {α : Type} {P : α→Prop} {t : KasT α} (h : Asks n P t) (c : Nat→Nat→Bool) : P (zkf c t) := by
  induction h with
  | ret h => exact h
  | ask _ _ _ ih => exact ih _
theorem Asks.mono {n : Nat} {α : Type} {P P' : α→Prop} {t : KasT α} (h : Asks n P t) (hp : ∀ a,P a→P' a) : Asks n P' t := by
  induction h with
  | ret h => exact .ret (hp _ h)
  | ask h1 h2 _ ih => exact .ask h1 h2 ih
noncomputable def ziQ (n : Nat) (p : Array Nat) : Prop := p.toList.Perm (List.range n)
theorem ziQ.bd {n : Nat} {p : Array Nat} (h : ziQ n p) (hn : 0 < n) (k : Nat) : p.getD k 0 < n := by
  by_cases hk : k < p.size
  · have e : p.getD k 0 = p[k] := by simp [Array.getD,hk]
    rw [e]
    exact List.mem_range.mp (h.mem_iff.mp (by simp))
  · have e : p.getD k 0 = 0 := by simp [Array.getD,hk]
    rw [e]; exact hn
theorem ziQ.rev {n : Nat} {p : Array Nat} (h : ziQ n p) (i j : Nat) : ziQ n (kas_rev p i j) := (Array.perm_iff_toList_perm.mp (mirror_perm p i j ((j - i) / 2))).trans h
section
variable {n : Nat} (hn : 0 < n)
include hn
end
end DL
end
section
namespace DL
open PySem PyProof.Rows PySem.W PySem.Calls
section
variable {prog : Program} {w : World} {A : Around} {E : Value → Shared → Prop} {s : Shared}
end
end DL
end
section
namespace DL
open PySem PySem.Spec PyProof.Rows L2 PySem.W PySem.Calls
structure Lft (fr : List Addr) (a : Addr) (oe : Obj) (vs : Array Value) (T : Option Addr) (v : Value) (h h' : Heap) : Prop where
  keep : ∀ b o,b∉fr→b≠a→T≠some b→h.get? b = some o→h'.get? b = some o
  slot : ∀ b o,h.get? b = some o→(∀ vs : Array Value,o.data≠Data.fields vs)→∃ sl,h'.get? b = some { cls := o.cls,dict := o.dict,data := o.data,slots := sl }
  obj : ∃ tb ot ts,(h.get? tb = none∨T = some tb)∧tb≠a∧h'.get? a = some { cls := oe.cls,dict := oe.dict,data := .fields (vs.setIfInBounds 1 (.ref tb)),slots := oe.slots }∧h'.get? tb = some ot∧ot.data = .fields ts∧ts[3]? = some v
section
variable {M : Model} {A : Around} {E : Value → Shared → Prop} {s : Shared} {B : Heap} {env : Env} {outer : List Env} {L a : Addr} {oe : Obj} {vs : Array Value} {Q : Unit → Shared → Prop}
end
end DL
end
section
namespace DL
open PySem PySem.Spec PyProof.Rows L2 PySem.W PySem.Calls
noncomputable def zol (h B : Heap) (a : Addr) (cls : Value) (od L : Option Addr) : Prop :=
  ∃ oe vs,h.get? a = some oe∧oe.cls = cls∧(∀ dx,od = some dx→oe.dict = some dx)∧oe.data = .fields vs ∧
    (vs[1]? = some Value.none∨(∃ T oT ts,vs[1]? = some (.ref T)∧B.get? T = none∧T≠a∧h.get? T = some oT∧oT.data = .fields ts∧ts[3]? = some Value.none) ∨
      ∃ l T oT ts,L = some l∧vs[1]? = some (.ref T)∧B.get? T = none∧T≠a∧h.get? T = some oT∧oT.data = .fields ts∧ts[3]? = some (rawInt ↑l))
noncomputable def topF (st : List Env) : Option Addr := st.head?.bind (·.frame)
structure Fly (P : Program) (w : World) (st : List Env) (H : Hp) (s : Shared) (H' : Hp) (a : Addr) (cls : Value) (od : Option Addr) (s' : Shared) : Prop where
  os : s'.os = s.os
  bare : AllBare s'.gens
  un : Un (frs st) [] H H' s.heap s'.heap
  hok : HOk P w H' s'.heap
  ex : ∃ B : Heap,B.StaysIn s'.heap∧B.get? a = none∧s'.heap.FunFrames B st∧zol s'.heap B a cls od (topF st) ∧
    (∀ b o,s.heap.get? b = some o→b∉frs st→∃ o',B.get? b = some o')∧∀ b u,H' b = some u→∃ o',B.get? b = some o'
section
variable {X : Cx} {pins : List (Addr × Obj)} {σ : L2.St} {H H' : Hp} {s s' : Shared} {a : Addr} {cls : Value} {od : Option Addr} {M : Model} {E : Value → Shared → Prop}
end
noncomputable def CXR (P : Program) (w : World) : CXT := fun outer H s E e s' => ∃ a cls H' od,e = .ref a∧Fly P w outer H s H' a cls od s'∧E cls od H'
end DL
end
section
namespace DL
open PySem PySem.Spec PyProof.Rows L2 PySem.W PySem.Calls
theorem zmK {P : Program} {w : World} {H : Hp} {h : Heap} {a : Addr} {o : HO} (x : zaW P w H h a o) : ∃ u,h.get? a = some u := by
  cases o with
  | lst xs => obtain ⟨_,_,_,_,e⟩ := x; exact ⟨_,e⟩
  | tup xs => obtain ⟨_,_,_,_,o,e,_⟩ := x; exact ⟨_,e⟩
  | dK kvs => obtain ⟨_,_,_,_,o,_,_,e,_⟩ := x; exact ⟨_,e⟩
  | dT kvs => obtain ⟨_,_,_,_,o,_,_,e,_⟩ := x; exact ⟨_,e⟩
  | set S n => obtain ⟨o,_,_,_,e,_⟩ := x; exact ⟨_,e⟩
  | ins C dx fs => obtain ⟨_,_,_,e,_⟩ := x; exact ⟨_,e⟩
  | own y => exact x
  | xd fs => obtain ⟨_,⟨_,_,_,e,_⟩,_⟩ := x; exact ⟨_,e⟩
  | rng lo hi => obtain ⟨_,_,_,e⟩ := x; exact ⟨_,e⟩
  | frz ob u => obtain ⟨e,_⟩ := x; exact ⟨_,e⟩
  | tbl ps => exact ⟨_,(show h.get? a = some _ from x)⟩
  | met f y => exact ⟨_,(show h.get? a = some _ from x)⟩
  | ext φ => exact x.2.1
noncomputable abbrev vErr : List Value := [Value.type "ValueError",Value.type "Exception",Value.type "BaseException",Value.type "object"]
structure XC (K : PySem.W.Frag) (mg : Str→Option Value) (x : Str) (C : Addr) : Prop where
  bound : mg x = some (.ref C)
  exc : excIn K C vErr "ValueError.__new__" = true
section
variable {X : Cx} {pins : List (Addr × Obj)} {σ : L2.St} {H : Hp} {s : Shared} {x : Str} {C : Addr} {np cpos pos : Pos} {e₀ : Expr} {rest : List Expr} {t : TA}
theorem Fly.made {h' : Heap} {e : Addr} {cls : Value} {vs : List Value} (I : Inv X pins σ H s) (m : s.heap.MadeExcOf h' e cls vs) : Fly X.prog X.w X.stack H s H e cls none { heap := h',gens := s.gens,drawn := s.drawn,toks := s.toks,os := s.os } := by
  obtain ⟨t,m1,m2,m3⟩ := m.there
  have hst : ∀ b o,(hideAll s.heap (frs X.stack)).get? b = some o→h'.get? b = some o := fun b o e => m.keeps b o (of_hideAll _ e)
  refine ⟨rfl,I.bare,Un.kept m.keeps,I.hok.kept m.keeps,hideAll s.heap (frs X.stack),hst,?_,?_,⟨_,_,m1,rfl,(fun _ e => nomatch e),rfl,.inl rfl⟩,fun b o e n => ⟨o,hideAll_get _ e n⟩,fun b u e => ?_⟩
  · cases q : (hideAll s.heap (frs X.stack)).get? e with
    | none => rfl
    | some o => have := of_hideAll _ q; rw [m.new] at this; cases this
  · have ff := I.stack
    have key : ∀ l : List Env,(∀ b∈frs l,b∈frs X.stack)→s.heap.FunFrames X.base l→h'.FunFrames (hideAll s.heap (frs X.stack)) l := by
      intro l
      induction l with
      | nil => intro _ _; unfold Heap.FunFrames; trivial
      | cons env l ih =>
        intro hs hf
        unfold Heap.FunFrames at hf ⊢
        obtain ⟨f1,⟨L,o,f2,f3,f4,f5⟩,f6⟩ := hf
        refine ⟨f1,⟨L,o,f2,hideAll_none _ (hs L ?_),m.keeps _ _ f4,f5⟩,ih (fun b hb => hs b ?_) f6⟩
        · unfold frs; rw [List.filterMap_cons,f2]; exact List.mem_cons_self
        · unfold frs; rw [List.filterMap_cons,f2]; exact List.mem_cons_of_mem _ hb
    exact key X.stack (fun _ hb => hb) ff
  · obtain ⟨o,eo⟩ := zmK (I.hok b u e)
    exact ⟨o,hideAll_get _ eo fun z => by rw [I.stkFree b z] at e; cases e⟩
end
end DL
end
section
namespace DL
open PySem PySem.Spec PyProof.Rows L2
inductive D where
  | non | bl (b : Bool) | int (i : Int) | str (x : Str)
  | tup (ds : List D) | lst (ds : List D)
  | dic (kvs : List (Key × D))
  | obj (c : Nat) (fs : List (Str × D))
instance : Inhabited D := ⟨.non⟩
inductive Res (α : Type) where
  | ok (a : α) | exc (x : D) | stuck
noncomputable def Res.bind {α β : Type} (r : Res α) (f : α→Res β) : Res β := match r with
  | .ok a => f a
  | .exc x => .exc x
  | .stuck => .stuck
@[simp] theorem bind_ok {α β : Type} (a : α) (f : α→Res β) : (Res.ok a).bind f = f a := rfl
@[simp] theorem bind_exc {α β : Type} (x : D) (f : α→Res β) : (Res.exc x : Res α).bind f = .exc x := rfl
@[simp] theorem bind_stuck {α β : Type} (f : α→Res β) : (Res.stuck : Res α).bind f = .stuck := rfl
noncomputable def fin {α : Type} (r : Res α) (q : α→Prop) (x : D→Prop) : Prop := match r with
  | .ok a => q a
  | .exc e => x e
  | .stuck => False
theorem zae {α : Type} {r : Res α} {q q' : α→Prop} {x : D→Prop} (h : fin r q x) (hq : ∀ a,q a→q' a) : fin r q' x := by
  cases r with
  | ok a => exact hq a h
  | exc e => exact h
  | stuck => exact h
theorem zad {α β : Type} {r : Res α} {f : α→Res β} {q : β→Prop} {x : D→Prop} (h : fin (r.bind f) q x) : fin r (fun a => fin (f a) q x) x := by
  cases r with
  | ok a => exact h
  | exc e => exact h
  | stuck => exact h
noncomputable abbrev GH := Addr→Option D
inductive Scl : V→D→Prop where
  | non : Scl .non .non
  | bl (b : Bool) : Scl (.bl b) (.bl b)
  | int (i : Int) : Scl (.int i) (.int i)
  | str (x : Str) : Scl (.str x) (.str x)
inductive KC (K : PySem.W.Frag) (a : Addr) : D→Prop where
  | lst {xs : List V} {ds : List D} : SqL K (fun _ => none) a xs→Paired Scl xs ds→KC K a (.lst ds)
  | tup {xs : List V} {ds : List D} : SqT K (fun _ => none) a xs→Paired Scl xs ds→(∃ o,K.lookup a = some o∧o.cls = .type "tuple"∧o.dict = none)→KC K a (.tup ds)
inductive RG (K : PySem.W.Frag) (G : GH) : V→D→Prop where
  | scl {v : V} {d : D} : Scl v d→RG K G v d
  | ref {a : Addr} {d : D} : G a = some d→RG K G (.ref a) d
  | kc {a : Addr} {d : D} : KC K a d→RG K G (.ref a) d
noncomputable abbrev RGs (K : PySem.W.Frag) (G : GH) : List V→List D→Prop := Paired (RG K G)
noncomputable abbrev RKs (K : PySem.W.Frag) (G : GH) : List (Key × V)→List (Key × D)→Prop := Paired fun p q => p.1 = q.1∧RG K G p.2 q.2
noncomputable abbrev xD (nm : Str) (ds : List (Str × D)) : D := .obj 0 (("__class__",.str nm)::ds)
noncomputable def XN (K : PySem.W.Frag) (nm : Str) (C : Addr) : Prop := ∃ o cd,K.lookup C = some o∧o.data = Data.cls cd∧cd.name = nm
noncomputable def XcO (a C : Addr) (od : Option Addr) : Heap→Prop := fun h => ∃ oe vs,h.get? a = some oe∧oe.cls = .ref C∧(∀ dx,od = some dx→oe.dict = some dx)∧oe.data = .fields vs
noncomputable def XF (G : GH) (od : Option Addr) (ds : List (Str × D)) : Prop := match od with
  | none => ds = []
  | some dx => G dx = some (.obj 1 ds)
theorem XF.mono {G G' : GH} {od : Option Addr} {ds : List (Str × D)} (h : XF G od ds) (ge : ∀ a d,G a = some d→G' a = some d) : XF G' od ds := by
  cases od with
  | none => exact h
  | some dx => exact ge _ _ h
noncomputable abbrev RFs (K : PySem.W.Frag) (G : GH) : List (Str × V)→List (Str × D)→Prop := Paired fun p q => p.1 = q.1∧RG K G p.2 q.2
inductive OB (K : PySem.W.Frag) (G : GH) (H : Hp) (a : Addr) : D→Prop where
  | lst {xs : List V} {ds : List D} : Rd H a (.lst xs)→RGs K G xs ds→OB K G H a (.lst ds)
  | tup {xs : List V} {ds : List D} : Rd H a (.tup xs)→RGs K G xs ds→OB K G H a (.tup ds)
  | dic {ob : Obj} {ps : List (Key × V)} {kvs : List (Key × D)} : H a = some (.frz ob (.dK ps))→RKs K G ps kvs→OB K G H a (.dic kvs)
  | exc {nm : Str} {C : Addr} {od : Option Addr} {ds : List (Str × D)} : H a = some (.ext (XcO a C od))→XN K nm C→XF G od ds→OB K G H a (xD nm ds)
  | fld {fs : List (Str × V)} {ds : List (Str × D)} : H a = some (.xd fs)→RFs K G fs ds→OB K G H a (.obj 1 ds)
noncomputable def GOk (K : PySem.W.Frag) (G : GH) (H : Hp) : Prop := ∀ a d,G a = some d→OB K G H a d
inductive OwnO (K : PySem.W.Frag) (G : GH) (H : Hp) (a : Addr) : D→Prop where
  | lst {xs : List V} {ds : List D} : H a = some (.lst xs)→RGs K G xs ds→OwnO K G H a (.lst ds)
  | dic {ps : List (Key × V)} {kvs : List (Key × D)} : H a = some (.dK ps)→RKs K G ps kvs→OwnO K G H a (.dic kvs)
structure Own (K : PySem.W.Frag) (G : GH) (H : Hp) (a : Addr) (d : D) : Prop where
  un : G a = none
  ob : OwnO K G H a d
structure Grow (K : PySem.W.Frag) (G : GH) (H : Hp) (G' : GH) (H' : Hp) : Prop where
  ok : GOk K G' H'
  he : ∀ a o,H a = some o→H' a = some o
  ge : ∀ a d,G a = some d→G' a = some d
  gf : ∀ a,H a≠none→G' a = G a
section
variable {K : PySem.W.Frag} {G G' G1 G2 : GH} {H H' H1 H2 : Hp} {a p : Addr} {d : D} {v : V}
theorem Rd.mono {u : HO} (h : Rd H a u) (he : ∀ a o,H a = some o→H' a = some o) : Rd H' a u := by
  rcases h with h | ⟨o,h⟩
  · exact .inl (he _ _ h)
  · exact .inr ⟨o,he _ _ h⟩
theorem Rd.isS {u : HO} (h : Rd H a u) : H a≠none := by
  rcases h with h | ⟨o,h⟩ <;> rw [h] <;> simp
theorem RG.mono (h : RG K G v d) (ge : ∀ a d,G a = some d→G' a = some d) : RG K G' v d := by
  cases h with
  | scl s => exact .scl s
  | ref e => exact .ref (ge _ _ e)
  | kc k => exact .kc k
theorem RGs.mono {xs : List V} {ds : List D} (h : RGs K G xs ds) (ge : ∀ a d,G a = some d→G' a = some d) : RGs K G' xs ds := Paired.mono (fun _ _ r => r.mono ge) h
theorem RKs.mono {xs : List (Key × V)} {ds : List (Key × D)} (h : RKs K G xs ds) (ge : ∀ a d,G a = some d→G' a = some d) : RKs K G' xs ds := Paired.mono (fun _ _ r => ⟨r.1,r.2.mono ge⟩) h
theorem OB.mono (h : OB K G H a d) (ge : ∀ a d,G a = some d→G' a = some d) (he : ∀ o,H a = some o→H' a = some o) : OB K G' H' a d := by
  have rd : ∀ {u : HO},Rd H a u→Rd H' a u := fun r => by
    rcases r with r | ⟨o,r⟩
    · exact .inl (he _ r)
    · exact .inr ⟨o,he _ r⟩
  cases h with
  | lst r s => exact .lst (rd r) (s.mono ge)
  | tup r s => exact .tup (rd r) (s.mono ge)
  | dic r s => exact .dic (he _ r) (RKs.mono s ge)
  | exc r n f => exact .exc (he _ r) n (f.mono ge)
  | fld r s => exact .fld (he _ r) (Paired.mono (fun _ _ r => ⟨r.1,r.2.mono ge⟩) s)
theorem OB.isS (h : OB K G H a d) : H a≠none := by
  cases h with
  | lst r s => exact Rd.isS r
  | tup r s => exact Rd.isS r
  | dic r s => rw [r]; simp
  | exc r n f => rw [r]; simp
  | fld r s => rw [r]; simp
theorem GOk.isN (g : GOk K G H) (h : H p = none) : G p = none := by
  cases e : G p with
  | none => rfl
  | some d => exact absurd h (g p d e).isS
theorem OwnO.isS (h : OwnO K G H a d) : H a≠none := by
  cases h with
  | lst r s => rw [r]; simp
  | dic r s => rw [r]; simp
theorem OwnO.mono (h : OwnO K G H a d) (ge : ∀ a d,G a = some d→G' a = some d) (he : ∀ o,H a = some o→H' a = some o) : OwnO K G' H' a d := by
  cases h with
  | lst r s => exact .lst (he _ r) (s.mono ge)
  | dic r s => exact .dic (he _ r) (RKs.mono s ge)
theorem Own.mono (h : Own K G H a d) (w : Grow K G H G' H') : Own K G' H' a d :=
  ⟨by rw [w.gf a h.ob.isS]; exact h.un,h.ob.mono w.ge fun o e => w.he _ _ e⟩
noncomputable def fz (H : Hp) (a : Addr) (ob : Obj) : Hp := match H a with
  | some (.dK ps) => upd H a (.frz ob (.dK ps))
  | _ => H
theorem zir {b : Addr} {ob : Obj} (h : b≠a) : fz H a ob b = H b := by
  unfold fz
  cases e : H a with
  | none => rfl
  | some u => cases u <;> first | rfl | exact zam h
theorem zna {xs : List V} {ob : Obj} (h : H a = some (.lst xs)) : fz H a ob = H := by
  unfold fz
  rw [h]
theorem znb {ps : List (Key × V)} {ob : Obj} (h : H a = some (.dK ps)) : fz H a ob a = some (.frz ob (.dK ps)) := by
  unfold fz
  rw [h]; exact zar
theorem OwnO.fast (h : OwnO K G H a d) (ob : Obj) : OB K G (fz H a ob) a d := by
  cases h with
  | lst r s => rw [zna r]; exact .lst (.inl r) s
  | dic r s => exact .dic (znb r) s
theorem GOk.fast (g : GOk K G H) (hn : G a = none) (ob : Obj) : GOk K G (fz H a ob) := fun b d e => by
  have hb : b≠a := by rintro rfl; rw [hn] at e; cases e
  exact (g b d e).mono (fun _ _ z => z) fun o z => by rw [zir hb]; exact z
theorem Grow.refl (g : GOk K G H) : Grow K G H G H := ⟨g,fun _ _ e => e,fun _ _ e => e,fun _ _ => rfl⟩
theorem Grow.trans (x : Grow K G H G1 H1) (y : Grow K G1 H1 G2 H2) : Grow K G H G2 H2 :=
  ⟨y.ok,fun a o e => y.he _ _ (x.he _ _ e),fun a d e => y.ge _ _ (x.ge _ _ e),fun a h => by
    have h1 : H1 a≠Option.none := by
      cases e : H a with
      | none => exact absurd e h
      | some o => rw [x.he _ _ e]; simp
    rw [y.gf a h1,x.gf a h]⟩
noncomputable def gset (G : GH) (a : Addr) (d : D) : GH := fun b => if b = a then some d else G b
theorem zan : gset G a d a = some d := if_pos rfl
theorem zaS {b : Addr} (h : b≠a) : gset G a d b = G b := if_neg h
theorem zaI (hn : G a = none) : ∀ b e,G b = some e→gset G a d b = some e := fun b e h => by
  have : b≠a := by rintro rfl; rw [hn] at h; cases h
  rw [zaS this]; exact h
theorem GOk.gset (g : GOk K G H) (hn : G a = none) (o : OB K G H a d) : GOk K (gset G a d) H := fun b e h => by
  by_cases hb : b = a
  · subst hb; rw [zan] at h; cases h
    exact o.mono (zaI hn) fun _ q => q
  · rw [zaS hb] at h
    exact (g b e h).mono (zaI hn) fun _ q => q
theorem zjS (hn : H p = none) {o : HO} : ∀ a u,H a = some u→upd H p o a = some u := fun a u e => by
  rw [zam (za6 e hn)]; exact e
theorem Grow.new (g : GOk K G H) (hn : H p = none) (o : HO) : Grow K G H G (upd H p o) :=
  ⟨fun a d e => (g a d e).mono (fun _ _ q => q) fun u q => zjS hn _ _ q,fun a u e => zjS hn _ _ e,fun _ _ e => e,fun _ _ => rfl⟩
theorem Grow.newF (g : GOk K G H) (hn : H p = none) {o : HO} (ob : OB K G (upd H p o) p d) : Grow K G H (gset G p d) (upd H p o) := by
  have w := Grow.new g hn o
  have gn := g.isN hn
  exact ⟨w.ok.gset gn ob,w.he,fun a e h => zaI gn a e h,fun a h => zaS (by rintro rfl; exact h hn)⟩
theorem Grow.frz (w : Grow K G H G' H') (hn : H a = none) (o : Own K G' H' a d) (ob : Obj) : Grow K G H (gset G' a d) (fz H' a ob) :=
  ⟨(w.ok.fast o.un ob).gset o.un (o.ob.fast ob),fun b u e => by rw [zir (by rintro rfl; rw [hn] at e; cases e)]; exact w.he b u e,fun b e h => zaI o.un b e (w.ge b e h),fun b h => by rw [zaS (by rintro rfl; exact h hn)]; exact w.gf b h⟩
theorem RG.lst {ds : List D} (g : GOk K G H) (h : RG K G v (.lst ds)) : ∃ a xs,v = .ref a∧SqL K H a xs∧RGs K G xs ds := by
  cases h with
  | scl s => cases s
  | ref e =>
    cases g _ _ e with
    | lst r s => exact ⟨_,_,rfl,.inl r,s⟩
  | kc k =>
    cases k with
    | lst r s =>
      refine ⟨_,_,rfl,?_,Paired.mono (fun _ _ z => .scl z) s⟩
      rcases r with (r | ⟨o,r⟩) | r
      · cases r
      · cases r
      · exact .inr r
theorem RG.tup {ds : List D} (g : GOk K G H) (h : RG K G v (.tup ds)) : ∃ a xs,v = .ref a∧SqT K H a xs∧RGs K G xs ds := by
  cases h with
  | scl s => cases s
  | ref e =>
    cases g _ _ e with
    | tup r s => exact ⟨_,_,rfl,.inl r,s⟩
  | kc k =>
    cases k with
    | tup r s _ =>
      refine ⟨_,_,rfl,?_,Paired.mono (fun _ _ z => .scl z) s⟩
      rcases r with (r | ⟨o,r⟩) | r
      · cases r
      · cases r
      · exact .inr r
theorem RG.dic {kvs : List (Key × D)} (g : GOk K G H) (h : RG K G v (.dic kvs)) : ∃ a ps,v = .ref a∧Rd H a (.dK ps)∧RKs K G ps kvs := by
  cases h with
  | scl s => cases s
  | ref e =>
    cases g _ _ e with
    | dic r s => exact ⟨_,_,rfl,.inr ⟨_,r⟩,s⟩
  | kc k => cases k
theorem RG.int {i : Int} (g : GOk K G H) (h : RG K G v (.int i)) : v = .int i := by
  cases h with
  | scl s => cases s; rfl
  | ref e => cases g _ _ e
  | kc k => cases k
theorem RG.str {x : Str} (g : GOk K G H) (h : RG K G v (.str x)) : v = .str x := by
  cases h with
  | scl s => cases s; rfl
  | ref e => cases g _ _ e
  | kc k => cases k
theorem RG.bl {b : Bool} (g : GOk K G H) (h : RG K G v (.bl b)) : v = .bl b := by
  cases h with
  | scl s => cases s; rfl
  | ref e => cases g _ _ e
  | kc k => cases k
theorem RG.non (g : GOk K G H) (h : RG K G v .non) : v = .non := by
  cases h with
  | scl s => cases s; rfl
  | ref e => cases g _ _ e
  | kc k => cases k
noncomputable def RB (K : PySem.W.Frag) (G : GH) (H : Hp) (v : V) (d : D) : Prop := RG K G v d∨∃ a,v = .ref a∧Own K G H a d
theorem RG.rb (h : RG K G v d) : RB K G H v d := .inl h
theorem RB.mono (h : RB K G H v d) (w : Grow K G H G' H') : RB K G' H' v d := by
  rcases h with h | ⟨a,e,h⟩
  · exact .inl (h.mono w.ge)
  · exact .inr ⟨a,e,h.mono w⟩
theorem RB.lst {ds : List D} (g : GOk K G H) (h : RB K G H v (.lst ds)) : ∃ a xs,v = .ref a∧SqL K H a xs∧RGs K G xs ds := by
  rcases h with h | ⟨a,e,h⟩
  · exact h.lst g
  · cases h.ob with
    | lst r s => exact ⟨a,_,e,SqL.of r,s⟩
theorem RB.tup {ds : List D} (g : GOk K G H) (h : RB K G H v (.tup ds)) : ∃ a xs,v = .ref a∧SqT K H a xs∧RGs K G xs ds := by
  rcases h with h | ⟨a,e,h⟩
  · exact h.tup g
  · cases h.ob
theorem RB.dic {kvs : List (Key × D)} (g : GOk K G H) (h : RB K G H v (.dic kvs)) : ∃ a ps,v = .ref a∧Rd H a (.dK ps)∧RKs K G ps kvs := by
  rcases h with h | ⟨a,e,h⟩
  · exact h.dic g
  · cases h.ob with
    | dic r s => exact ⟨a,_,e,.inl r,s⟩
theorem RB.int {i : Int} (g : GOk K G H) (h : RB K G H v (.int i)) : v = .int i := by
  rcases h with h | ⟨a,e,h⟩
  · exact h.int g
  · cases h.ob
theorem RB.str {x : Str} (g : GOk K G H) (h : RB K G H v (.str x)) : v = .str x := by
  rcases h with h | ⟨a,e,h⟩
  · exact h.str g
  · cases h.ob
theorem RB.bl {b : Bool} (g : GOk K G H) (h : RB K G H v (.bl b)) : v = .bl b := by
  rcases h with h | ⟨a,e,h⟩
  · exact h.bl g
  · cases h.ob
theorem RB.non (g : GOk K G H) (h : RB K G H v .non) : v = .non := by
  rcases h with h | ⟨a,e,h⟩
  · exact h.non g
  · cases h.ob
theorem Paired.get {α β : Type} {F : α→β→Prop} : ∀ {l : List α} {r : List β} {i : Nat} {b : β},Paired F l r→r[i]? = some b→∃ a,l[i]? = some a∧F a b
  | _,_,_,_,.nil,e => by simp at e
  | _,_,0,_,.cons h _,e => by simp at e; subst e; exact ⟨_,rfl,h⟩
  | _,_,i + 1,b,.cons _ t,e => by
    obtain ⟨a,h1,h2⟩ := Paired.get (i := i) t (by simpa using e)
    exact ⟨a,by simpa using h1,h2⟩
theorem Paired.app {α β : Type} {F : α→β→Prop} {l l' : List α} {r r' : List β} (h : Paired F l r) (q : Paired F l' r') : Paired F (l++l') (r++r') := by
  induction h with
  | nil => exact q
  | cons h _ ih => exact .cons h ih
theorem Paired.tk {α β : Type} {F : α→β→Prop} {l : List α} {r : List β} (n : Nat) (h : Paired F l r) : Paired F (l.take n) (r.take n) := by
  induction h generalizing n with
  | nil => cases n <;> exact .nil
  | cons h _ ih => cases n with
    | zero => exact .nil
    | succ n => exact .cons h (ih n)
theorem Paired.dr {α β : Type} {F : α→β→Prop} {l : List α} {r : List β} (n : Nat) (h : Paired F l r) : Paired F (l.drop n) (r.drop n) := by
  induction h generalizing n with
  | nil => cases n <;> exact .nil
  | cons h t ih => cases n with
    | zero => exact .cons h t
    | succ n => exact ih n
theorem Paired.st {α β : Type} {F : α→β→Prop} {a : α} {b : β} (h : F a b) {l : List α} {r : List β} (n : Nat) (p : Paired F l r) : Paired F (l.set n a) (r.set n b) := by
  induction p generalizing n with
  | nil => exact .nil
  | cons q t ih => cases n with
    | zero => exact .cons h t
    | succ n => exact .cons q (ih n)
theorem Paired.er {α β : Type} {F : α→β→Prop} {l : List α} {r : List β} (n : Nat) (p : Paired F l r) : Paired F (l.eraseIdx n) (r.eraseIdx n) := by
  induction p generalizing n with
  | nil => exact .nil
  | cons q t ih => cases n with
    | zero => exact t
    | succ n => exact .cons q (ih n)
end
inductive Md where
  | sh | ow | bw
  deriving DecidableEq
noncomputable abbrev Rho := List (Option D)
structure GE where
  gh : GH
  h0 : Hp
  hd : Nat→Option (Option V × Option D)
noncomputable def Bw (K : PySem.W.Frag) (h0 : Hp) (G : GH) (H : Hp) (v : V) (d : D) : Prop := RG K G v d∨∃ a,v = V.ref a∧Own K G H a d∧h0 a≠none
theorem Bw.grow {K : PySem.W.Frag} {h0 : Hp} {G G' : GH} {H H' : Hp} {v : V} {d : D} (h : Bw K h0 G H v d) (w : Grow K G H G' H') : Bw K h0 G' H' v d := by
  rcases h with h | ⟨a,e,h1,h2⟩
  · exact .inl (h.mono w.ge)
  · exact .inr ⟨a,e,h1.mono w,h2⟩
theorem Bw.rb {K : PySem.W.Frag} {h0 : Hp} {G : GH} {H : Hp} {v : V} {d : D} (h : Bw K h0 G H v d) : RB K G H v d := by
  rcases h with h | ⟨a,e,h1,h2⟩
  · exact .inl h
  · exact .inr ⟨a,e,h1⟩
noncomputable def Lk (r : Rho) (st : L2.St) (i : Nat) (o : Option V × Option D) : Prop := st[i]? = some o.1∧∀ d,r[i]? = some (some d)→o.2 = some d
structure SI (X : Cx) (g : GE) (m : List Md) (r : Rho) (G : GH) (st : L2.St) (H : Hp) : Prop where
  gok : GOk X.K G H
  old : ∀ a o,g.h0 a = some o→H a = some o
  ge : ∀ a d,g.gh a = some d→G a = some d
  gf : ∀ a,g.h0 a≠none→G a = g.gh a
  lm : m.length = st.length
  lr : r.length = st.length
  sh : ∀ (i : Nat) d,r[i]? = some (some d)→m[i]? = some .sh→∃ v,st[i]? = some (some v)∧RG X.K G v d
  ow : ∀ (i : Nat) d,r[i]? = some (some d)→m[i]? = some .ow→∃ a,st[i]? = some (some (V.ref a))∧Own X.K G H a d∧g.h0 a = none
  bw : ∀ (i : Nat) d,r[i]? = some (some d)→m[i]? = some .bw→∃ v,st[i]? = some (some v)∧Bw X.K g.h0 G H v d
  dis : ∀ (i j : Nat) a d e,i≠j→r[i]? = some (some d)→r[j]? = some (some e)→m[i]? = some .ow→m[j]? = some .ow→st[i]? = some (some (V.ref a))→st[j]? = some (some (V.ref a))→False
  lk : ∀ (i : Nat) o,g.hd i = some o→m[i]? = some .bw→Lk r st i o
section
variable {X : Cx} {g : GE} {m : List Md} {r : Rho} {G G' : GH} {st : L2.St} {H H' : Hp}
theorem SI.grow (s : SI X g m r G st H) (w : Grow X.K G H G' H') : SI X g m r G' st H' where
  gok := w.ok
  old := fun a o e => w.he _ _ (s.old a o e)
  ge := fun a d e => w.ge _ _ (s.ge a d e)
  gf := fun a h => by
    have h1 : H a≠none := by
      cases e : g.h0 a with
      | none => exact absurd e h
      | some o => rw [s.old _ _ e]; simp
    rw [w.gf a h1,s.gf a h]
  lm := s.lm
  lr := s.lr
  sh := fun i d h1 h2 => by obtain ⟨v,h3,h4⟩ := s.sh i d h1 h2; exact ⟨v,h3,h4.mono w.ge⟩
  ow := fun i d h1 h2 => by obtain ⟨a,h3,h4,h5⟩ := s.ow i d h1 h2; exact ⟨a,h3,h4.mono w,h5⟩
  bw := fun i d h1 h2 => by obtain ⟨v,h3,h4⟩ := s.bw i d h1 h2; exact ⟨v,h3,h4.grow w⟩
  dis := s.dis
  lk := s.lk
theorem SI.grown (s : SI X g m r G st H) : Grow X.K g.gh g.h0 G H := ⟨s.gok,s.old,s.ge,s.gf⟩
theorem SI.frz (s : SI X g m r G st H) (i : Nat) (hi : m[i]? = some .ow) : (∃ G',(∀ a d,G a = some d→G' a = some d)∧SI X g (m.set i .sh) r G' st H)∨∃ a,∀ ob,∃ G',(∀ a d,G a = some d→G' a = some d)∧SI X g (m.set i .sh) r G' st (fz H a ob) := by
  have hlt : i < m.length := (List.getElem?_eq_some_iff.mp hi).1
  by_cases hb : ∃ d,r[i]? = some (some d)
  · obtain ⟨d,hd⟩ := hb
    obtain ⟨a,h1,h2,h3⟩ := s.ow i d hd hi
    refine .inr ⟨a,fun ob => ⟨gset G a d,zaI h2.un,(s.gok.fast h2.un ob).gset h2.un (h2.ob.fast ob),fun b o e => by rw [zir (by rintro rfl; rw [h3] at e; cases e)]; exact s.old b o e,fun b e h => zaI h2.un b e (s.ge b e h),fun b h => ?_,by simpa using s.lm,s.lr,?_,?_,?_,?_,fun j o hj hm => ?_⟩⟩
    · rw [zaS (by rintro rfl; exact h h3)]; exact s.gf b h
    · intro j e hj hm
      by_cases hij : i = j
      · subst hij
        rw [hd] at hj; cases hj
        exact ⟨_,h1,.ref zan⟩
      · rw [List.getElem?_set_ne hij] at hm
        obtain ⟨v,q1,q2⟩ := s.sh j e hj hm
        exact ⟨v,q1,q2.mono (zaI h2.un)⟩
    · intro j e hj hm
      by_cases hij : i = j
      · subst hij
        rw [List.getElem?_set_self hlt] at hm; cases hm
      · rw [List.getElem?_set_ne hij] at hm
        obtain ⟨b,q1,q2,q3⟩ := s.ow j e hj hm
        have hba : b≠a := by
          rintro rfl
          exact s.dis i j b d e hij hd hj hi hm h1 q1
        exact ⟨b,q1,⟨by rw [zaS hba]; exact q2.un,q2.ob.mono (zaI h2.un) fun _ z => by rw [zir hba]; exact z⟩,q3⟩
    · intro j e hj hm
      by_cases hij : i = j
      · subst hij
        rw [List.getElem?_set_self hlt] at hm; cases hm
      · rw [List.getElem?_set_ne hij] at hm
        obtain ⟨v,q1,q2⟩ := s.bw j e hj hm
        refine ⟨v,q1,?_⟩
        rcases q2 with q2 | ⟨b,rfl,q2,q3⟩
        · exact .inl (q2.mono (zaI h2.un))
        · have hba : b≠a := by rintro rfl; exact q3 h3
          exact .inr ⟨b,rfl,⟨by rw [zaS hba]; exact q2.un,q2.ob.mono (zaI h2.un) fun _ z => by rw [zir hba]; exact z⟩,q3⟩
    · intro j k b e e' hjk hj hk hm hm' q1 q2
      have hij : i≠j := by
        rintro rfl
        rw [List.getElem?_set_self hlt] at hm; cases hm
      have hik : i≠k := by
        rintro rfl
        rw [List.getElem?_set_self hlt] at hm'; cases hm'
      rw [List.getElem?_set_ne hij] at hm
      rw [List.getElem?_set_ne hik] at hm'
      exact s.dis j k b e e' hjk hj hk hm hm' q1 q2
    · refine s.lk j o hj ?_
      by_cases hij : i = j
      · subst hij; rw [List.getElem?_set_self hlt] at hm; cases hm
      · rw [List.getElem?_set_ne hij] at hm; exact hm
  · refine .inl ⟨G,fun _ _ z => z,s.gok,s.old,s.ge,s.gf,by simpa using s.lm,s.lr,?_,?_,?_,?_,fun j o hj hm => ?_⟩
    · intro j e hj hm
      have hij : i≠j := by rintro rfl; exact hb ⟨e,hj⟩
      rw [List.getElem?_set_ne hij] at hm
      exact s.sh j e hj hm
    · intro j e hj hm
      have hij : i≠j := by rintro rfl; exact hb ⟨e,hj⟩
      rw [List.getElem?_set_ne hij] at hm
      exact s.ow j e hj hm
    · intro j e hj hm
      have hij : i≠j := by rintro rfl; exact hb ⟨e,hj⟩
      rw [List.getElem?_set_ne hij] at hm
      exact s.bw j e hj hm
    · intro j k b e e' hjk hj hk hm hm' q1 q2
      have hij : i≠j := by rintro rfl; exact hb ⟨e,hj⟩
      have hik : i≠k := by rintro rfl; exact hb ⟨e',hk⟩
      rw [List.getElem?_set_ne hij] at hm
      rw [List.getElem?_set_ne hik] at hm'
      exact s.dis j k b e e' hjk hj hk hm hm' q1 q2
    · refine s.lk j o hj ?_
      by_cases hij : i = j
      · subst hij; rw [List.getElem?_set_self hlt] at hm; cases hm
      · rw [List.getElem?_set_ne hij] at hm; exact hm
end
end DL
end
section
namespace DL
open PySem PySem.Spec PyProof.Rows L2
theorem PE.imp {X : Cx} {e : Expr} {t t' : TE} (h : PE X e t) (i : ∀ σ H Q,t' σ H Q→t σ H Q) : PE X e t' := fun pins s σ H Q I q => h pins s σ H Q I (i σ H Q q)
theorem PT.imp {X : Cx} {e : Expr} {t t' : TT} (h : PT X e t) (i : ∀ σ H Q,t' σ H Q→t σ H Q) : PT X e t' := fun pins s σ H Q I q => h pins s σ H Q I (i σ H Q q)
theorem PW.imp {X : Cx} {e : Expr} {t t' : TT} (h : PW X e t) (i : ∀ σ H Q,t' σ H Q→t σ H Q) : PW X e t' := fun whole pins s σ H Q I q => h whole pins s σ H Q I (i σ H Q q)
theorem PA.imp {X : Cx} {e : List Expr} {t t' : TA} (h : PA X e t) (i : ∀ σ H Q,t' σ H Q→t σ H Q) : PA X e t' := fun pos pins s σ H Q I q => h pos pins s σ H Q I (i σ H Q q)
theorem PS.imp {X : Cx} {e : Stmt} {t t' : TS} (h : PS X e t) (i : ∀ D σ H,t' D σ H→t D σ H) : PS X e t' := fun pins s σ H D I q => h pins s σ H D I (i D σ H q)
theorem PSs.imp {X : Cx} {e : List Stmt} {t t' : TS} (h : PSs X e t) (i : ∀ D σ H,t' D σ H→t D σ H) : PSs X e t' := fun pins s σ H D I q => h pins s σ H D I (i D σ H q)
noncomputable def ExV (X : Cx) (σ : L2.St) (G : GH) (H' : Hp) (e : Value) (x : D) (s' : Shared) : Prop :=
  ∃ pins s H1 a C od nm ds,e = .ref a∧x = xD nm ds∧XN X.K nm C∧XF G od ds∧Inv X pins σ H1 s∧Fly X.prog X.w X.stack H1 s H' a (.ref C) od s'
noncomputable def XW (X : Cx) (σ : L2.St) (G : GH) (H : Hp) (x : D) : Prop := ∀ pins e s' G' H',Grow X.K G H G' H'→Inv X pins σ H' s'→ExV X σ G' H' e x s'→X.xe e s'
theorem XW.grow {X : Cx} {σ : L2.St} {G G1 : GH} {H H1 : Hp} {x : D} (h : XW X σ G H x) (w : Grow X.K G H G1 H1) : XW X σ G1 H1 x := fun pins e s' G' H' w' I q => h pins e s' G' H' (w.trans w') I q
noncomputable abbrev FE := Rho→Res D
noncomputable def tE (X : Cx) (g : GE) (m : List Md) (f : FE) : TE := fun σ H Q => ∃ r G,SI X g m r G σ H∧fin (f r) (fun d => ∀ v G' H',Grow X.K G H G' H'→RG X.K G' v d→Q v H') (XW X σ G H)
noncomputable def tB (X : Cx) (g : GE) (m : List Md) (f : FE) : TE := fun σ H Q => ∃ r G,SI X g m r G σ H∧fin (f r) (fun d => ∀ v G' H',Grow X.K G H G' H'→RB X.K G' H' v d→Q v H') (XW X σ G H)
noncomputable def tO (X : Cx) (g : GE) (m : List Md) (f : FE) : TE := fun σ H Q => ∃ r G,SI X g m r G σ H∧fin (f r) (fun d => ∀ a G' H',Grow X.K G H G' H'→H a = none→Own X.K G' H' a d→Q (.ref a) H') (XW X σ G H)
noncomputable def tQ (X : Cx) (g : GE) (m : List Md) (f : Rho→Res Bool) : TT := fun σ H Q => ∃ r G,SI X g m r G σ H∧fin (f r) (fun b => ∀ G' H',Grow X.K G H G' H'→Q b H') (XW X σ G H)
noncomputable def tL (X : Cx) (g : GE) (m : List Md) (f : Rho→Res (List D)) : TA := fun σ H Q => ∃ r G,SI X g m r G σ H∧fin (f r) (fun ds => ∀ vs G' H',Grow X.K G H G' H'→RGs X.K G' vs ds→Q vs H') (XW X σ G H)
noncomputable def tLB (X : Cx) (g : GE) (m : List Md) (f : Rho→Res (List D)) : TA := fun σ H Q => ∃ r G,SI X g m r G σ H∧fin (f r) (fun ds => ∀ vs G' H',Grow X.K G H G' H'→Paired (RB X.K G' H') vs ds→Q vs H') (XW X σ G H)
noncomputable def SE (X : Cx) (g : GE) (m : List Md) (e : Expr) (f : FE) : Prop := PE X e (tE X g m f)
noncomputable def SB (X : Cx) (g : GE) (m : List Md) (e : Expr) (f : FE) : Prop := PE X e (tB X g m f)
noncomputable def SO (X : Cx) (g : GE) (m : List Md) (e : Expr) (f : FE) : Prop := PE X e (tO X g m f)
noncomputable def SQ (X : Cx) (g : GE) (m : List Md) (e : Expr) (f : Rho→Res Bool) : Prop := PT X e (tQ X g m f)
noncomputable def SW (X : Cx) (g : GE) (m : List Md) (e : Expr) (f : Rho→Res Bool) : Prop := PW X e (tQ X g m f)
noncomputable def SA (X : Cx) (g : GE) (m : List Md) (es : List Expr) (f : Rho→Res (List D)) : Prop := PA X es (tL X g m f)
noncomputable def SAB (X : Cx) (g : GE) (m : List Md) (es : List Expr) (f : Rho→Res (List D)) : Prop := PA X es (tLB X g m f)
section
variable {X : Cx} {g : GE} {m : List Md} {e a b c : Expr} {f fa fb fc : FE} {pos : Pos}
theorem SE.toB (h : SE X g m e f) : SB X g m e f := PE.imp h fun σ H Q ⟨r,G,si,q⟩ => ⟨r,G,si,zae q fun d k v G' H' w z => k v G' H' w z.rb⟩
theorem Inv.fast {pins : List (Addr × Obj)} {σ : L2.St} {H : Hp} {s : Shared} (I : Inv X pins σ H s) (a : Addr) : ∃ ob,Inv X pins σ (fz H a ob) s := by
  cases e : H a with
  | none => exact ⟨{ cls := .none,data := .fields #[] },by unfold fz; rw [e]; exact I⟩
  | some u =>
    cases u with
    | dK ps =>
      obtain ⟨z1,z2,vs,z3,o,es,ep,z4,z5⟩ := (show zaW X.prog X.w H s.heap a (.dK ps) from I.hok a _ e)
      have ef : fz H a o = upd H a (.frz o (.dK ps)) := by unfold fz; rw [e]
      refine ⟨o,?_⟩
      rw [ef]
      exact I.write (t' := s.toks) (h' := s.heap) (x := a) (e := a) (by rw [e]; exact trivial) (.inl rfl) (fun b u _ q => q) ⟨o,z4⟩ (show zaW X.prog X.w _ s.heap a (.frz o (.dK ps)) from ⟨z4,z1,z2,vs,z3,o,es,ep,z4,z5⟩)
    | _ => exact ⟨{ cls := .none,data := .fields #[] },by unfold fz; rw [e]; exact I⟩
theorem SO.toE (h : SO X g m e f) : SE X g m e f := by
  intro pins s σ H Q I ⟨r,G,si,q⟩
  refine thn (h pins s σ H (fun v H' => ∃ a,v = .ref a∧∀ ob,Q v (fz H' a ob)) I ⟨r,G,si,zae q fun d k a G' H' w hn o => ⟨a,rfl,fun ob => k _ _ _ (w.frz hn o ob) (.ref zan)⟩⟩) fun u s' ⟨v,H',I',rv,a,_,z⟩ => ?_
  obtain ⟨ob,I2⟩ := Inv.fast I' a
  exact ⟨v,_,I2,rv,z ob⟩
theorem SO.toB (h : SO X g m e f) : SB X g m e f := h.toE.toB
theorem SE.eq {f' : FE} (h : SE X g m e f) (q : ∀ r,f' r = f r) : SE X g m e f' := by
  have : f' = f := funext q
  rw [this]; exact h
theorem zd8 {v : V} {d : D} (h : PE X e (tC v)) (s : Scl v d) : SE X g m e fun _ => .ok d :=
  PE.imp h fun σ H Q ⟨r,G,si,q⟩ => q v G H (Grow.refl si.gok) (.scl s)
theorem zaB {i : Int} {j} : SE X g m (.Constant (.int i) j pos) fun _ => .ok (.int i) := zd8 zmu (.int i)
theorem s_bl {i : Bool} {j} : SE X g m (.Constant (.bool i) j pos) fun _ => .ok (.bl i) := zd8 znV (.bl i)
theorem zkw {j} : SE X g m (.Constant .none j pos) fun _ => .ok .non := zd8 zms .non
theorem zew {i : Str} {j} : SE X g m (.Constant (.str i) j pos) fun _ => .ok (.str i) := zd8 zmp (.str i)
noncomputable def getV (r : Rho) (i : Nat) : Res D := match r[i]? with
  | some (some d) => .ok d
  | _ => .stuck
theorem ze8 {r : Rho} {i : Nat} {q : D→Prop} {x : D→Prop} (h : fin (getV r i) q x) : ∃ d,r[i]? = some (some d)∧q d := by
  unfold getV at h
  split at h
  · rename_i d e; exact ⟨d,e,h⟩
  · exact h.elim
theorem znF (i : Nat) {x : Str} (hm : m[i]? = some .sh) (hN : X.N[i]? = some x) (hv : Vis X.env.scope x) (hd : (x == ("__debug__" : Str)) = false := by decide) (hcd : (x == ("__classdict__" : Str)) = false := by decide) :
    SE X g m (.Name x pos) fun r => getV r i := by
  refine PE.imp (zfy hN hv hd hcd) fun σ H Q ⟨r,G,si,q⟩ => ?_
  obtain ⟨d,e,k⟩ := ze8 q
  obtain ⟨v,e1,e2⟩ := si.sh i d e hm
  exact ⟨v,e1,k v G H (Grow.refl si.gok) e2⟩
theorem zlQ (i : Nat) {x : Str} (hm : i < m.length) (hN : X.N[i]? = some x) (hv : Vis X.env.scope x) (hd : (x == ("__debug__" : Str)) = false := by decide) (hcd : (x == ("__classdict__" : Str)) = false := by decide) :
    SB X g m (.Name x pos) fun r => getV r i := by
  refine PE.imp (zfy hN hv hd hcd) fun σ H Q ⟨r,G,si,q⟩ => ?_
  obtain ⟨d,e,k⟩ := ze8 q
  have hm' : m[i]? = some m[i] := List.getElem?_eq_getElem hm
  cases h : m[i] with
  | sh =>
    obtain ⟨v,e1,e2⟩ := si.sh i d e (hm'.trans (by rw [h]))
    exact ⟨v,e1,k v G H (Grow.refl si.gok) e2.rb⟩
  | ow =>
    obtain ⟨v,e1,e2,_⟩ := si.ow i d e (hm'.trans (by rw [h]))
    exact ⟨_,e1,k _ G H (Grow.refl si.gok) (.inr ⟨v,rfl,e2⟩)⟩
  | bw =>
    obtain ⟨v,e1,e2⟩ := si.bw i d e (hm'.trans (by rw [h]))
    exact ⟨_,e1,k _ G H (Grow.refl si.gok) e2.rb⟩
theorem zjW {x : Str} {v : V} {u : Value} {d : D} (hg : Gl X x) (hm : X.mg x = some u) (r : RelV v u) (s : Scl v d) (hd : (x == ("__debug__" : Str)) = false := by decide) : SE X g m (.Name x pos) fun _ => .ok d := zd8 (zkJ hg hm r hd) s
theorem seq2 {β : Type} {k : D→D→Res β} {q : β→Prop} {R : V→V→Hp→Prop} {r : Rho} {G : GH} {σ : L2.St} {H : Hp} (si : SI X g m r G σ H)
    (h : fin ((fa r).bind fun d1 => (fb r).bind fun d2 => k d1 d2) q (XW X σ G H))
    (hk : ∀ d1 d2 v1 v2 G2 H2,Grow X.K G H G2 H2→RB X.K G2 H2 v1 d1→RB X.K G2 H2 v2 d2→fin (k d1 d2) q (XW X σ G H)→R v1 v2 H2) :
    tB X g m fa σ H fun v1 H1 => tB X g m fb σ H1 fun v2 H2 => R v1 v2 H2 := by
  refine ⟨r,G,si,zae (zad h) fun d1 h1 v1 G1 H1 w1 r1 => ⟨r,G1,si.grow w1,?_⟩⟩
  cases e : fb r with
  | ok d2 =>
    rw [e] at h1
    exact fun v2 G2 H2 w2 r2 => hk d1 d2 v1 v2 G2 H2 (w1.trans w2) (r1.mono w2) r2 h1
  | exc x =>
    rw [e] at h1
    exact (show XW X σ G H x from h1).grow w1
  | stuck =>
    rw [e] at h1
    exact h1
noncomputable def opt {α : Type} : Option α→Res α
  | some a => .ok a
  | none => .stuck
@[simp] theorem opt_some {α : Type} (a : α) : opt (some a) = .ok a := rfl
@[simp] theorem opt_none {α : Type} : opt (none : Option α) = .stuck := rfl
theorem zat {α : Type} {o : Option α} {q : α→Prop} {x : D→Prop} (h : fin (opt o) q x) : ∃ a,o = some a∧q a := by
  cases o with
  | none => exact h.elim
  | some a => exact ⟨a,rfl,h⟩
noncomputable def OpD (K : PySem.W.Frag) (r : R2) (k : D→D→Option D) : Prop := ∀ (G : GH) (H : Hp) (v1 v2 : V) (d1 d2 d : D) (Q : VK),GOk K G H→RB K G H v1 d1→RB K G H v2 d2→k d1 d2 = some d →
  (∀ v G' H',Grow K G H G' H'→RG K G' v d→Q v H')→r v1 v2 H Q
noncomputable def f2 (fa fb : FE) (k : D→D→Option D) : FE := fun r => (fa r).bind fun d1 => (fb r).bind fun d2 => opt (k d1 d2)
theorem zkv {R : R2} {k : D→D→Option D} (ho : OpD X.K R k) (h : PE X e (tOp R (tB X g m fa) (tB X g m fb))) : SE X g m e (f2 fa fb k) := by
  refine PE.imp h fun σ H Q ⟨r,G,si,q⟩ => ?_
  refine seq2 si q fun d1 d2 v1 v2 G2 H2 w r1 r2 q2 => ?_
  obtain ⟨d,e,q2⟩ := zat q2
  exact ho G2 H2 v1 v2 d1 d2 d Q w.ok r1 r2 e fun v G' H' w' z => q2 v G' H' (w.trans w') z
theorem zf1 {op : Operator} {R : R2} {k : D→D→Option D} (hr : OpR X (binaryOp op) R) (ho : OpD X.K R k) (ha : SB X g m a fa) (hb : SB X g m b fb) : SE X g m (.BinOp a op b pos) (f2 fa fb k) := zkv ho (znT hr ha hb)
theorem zi0 {op : CmpOp} {R : R2} {k : D→D→Option D} (hr : OpR X (compareOp op) R) (ho : OpD X.K R k) (ha : SB X g m a fa) (hb : SB X g m b fb) (hm : behindInMarks op b = false) : SE X g m (.Compare a [op] [b] pos) (f2 fa fb k) := zkv ho (zkK hr ha hb hm)
noncomputable def asB : D→Option Bool
  | .bl b => some b
  | _ => none
noncomputable def zaR (f : FE) : Rho→Res Bool := fun r => (f r).bind fun d => opt (asB d)
theorem zg6 {op : CmpOp} {R : R2} {k : D→D→Option D} (hr : OpR X (compareOp op) R) (ho : OpD X.K R k) (ha : SB X g m a fa) (hb : SB X g m b fb) (hm : behindInMarks op b = false) : SQ X g m (.Compare a [op] [b] pos) (zaR (f2 fa fb k)) := by
  refine PT.imp (zkD hr ha hb hm) fun σ H Q ⟨r,G,si,q⟩ => ?_
  have e : zaR (f2 fa fb k) r = (fa r).bind fun d1 => (fb r).bind fun d2 => (opt (k d1 d2)).bind fun d => opt (asB d) := by
    unfold zaR f2
    cases fa r with
    | ok d1 => cases fb r <;> rfl
    | exc _ => rfl
    | stuck => rfl
  rw [e] at q
  refine seq2 (R := fun x y H2 => R x y H2 fun x H' => ∃ k,x = V.bl k∧Q k H') si q fun d1 d2 v1 v2 G2 H2 w r1 r2 q3 => ?_
  obtain ⟨d,e,q3⟩ := zat (zad q3)
  obtain ⟨b,eb,q3⟩ := zat q3
  cases d with
  | bl b' =>
    cases eb
    exact ho G2 H2 v1 v2 d1 d2 _ _ w.ok r1 r2 e fun v G' H' w' z => ⟨_,z.bl w'.ok,q3 G' H' (w.trans w')⟩
  | _ => cases eb
end
end DL
end
section
namespace DL
open PySem PySem.Spec PyProof.Rows L2
instance decMul (i j : Int) : Decidable (CMul i j) := by unfold CMul; infer_instance
instance decDiv (i j : Int) : Decidable (CDiv i j) := by unfold CDiv; infer_instance
instance decPow (i j : Int) : Decidable (CPow i j) := by unfold CPow; infer_instance
noncomputable def zf9 (k : Int→Int→D) : D→D→Option D
  | .int a,.int b => some (k a b)
  | _,_ => none
noncomputable def zfD (C : Int→Int→Prop) [∀ a b,Decidable (C a b)] (k : Int→Int→D) : D→D→Option D
  | .int a,.int b => if C a b then some (k a b) else none
  | _,_ => none
@[simp] theorem ints2_int (k : Int→Int→D) (a b : Int) : zf9 k (.int a) (.int b) = some (k a b) := rfl
@[simp] theorem intsC_int (C : Int→Int→Prop) [∀ a b,Decidable (C a b)] (k : Int→Int→D) (a b : Int) : zfD C k (.int a) (.int b) = if C a b then some (k a b) else none := rfl
section
variable {K : PySem.W.Frag}
theorem zds {gv : Int→Int→V} {gd : Int→Int→D} (hs : ∀ i j,Scl (gv i j) (gd i j)) : OpD K (rI0 gv) (zf9 gd) := by
  intro G H v1 v2 d1 d2 d Q g r1 r2 e q
  unfold zf9 at e
  split at e
  · cases e
    exact ⟨_,_,r1.int g,r2.int g,q _ G H (Grow.refl g) (.scl (hs _ _))⟩
  · cases e
theorem zdV {C : Int→Int→Prop} [∀ a b,Decidable (C a b)] {gv : Int→Int→V} {gd : Int→Int→D} (hs : ∀ i j,Scl (gv i j) (gd i j)) : OpD K (rI C gv) (zfD C gd) := by
  intro G H v1 v2 d1 d2 d Q g r1 r2 e q
  unfold zfD at e
  split at e
  · split at e
    · rename_i hc
      cases e
      exact ⟨_,_,r1.int g,r2.int g,hc,q _ G H (Grow.refl g) (.scl (hs _ _))⟩
    · cases e
  · cases e
theorem OpD.or {r r' : R2} {k k' : D→D→Option D} (h : OpD K r k) (h' : OpD K r' k') : OpD K (fun x y H Q => r x y H Q∨r' x y H Q) (fun a b => match k a b with | some d => some d | none => k' a b) := by
  intro G H v1 v2 d1 d2 d Q g r1 r2 e q
  cases e1 : k d1 d2 with
  | some d' =>
    simp only [e1] at e
    cases e
    exact .inl (h G H v1 v2 d1 d2 d Q g r1 r2 e1 q)
  | none =>
    simp only [e1] at e
    exact .inr (h' G H v1 v2 d1 d2 d Q g r1 r2 e q)
end
noncomputable abbrev subI : D→D→Option D := zf9 fun a b => .int (a - b)
noncomputable abbrev mulI : D→D→Option D := zfD CMul fun a b => .int (a * b)
noncomputable abbrev zfG : D→D→Option D := zfD CDiv fun a b => .int (a / b)
noncomputable abbrev modI : D→D→Option D := zfD (fun _ b => 0 < b) fun a b => .int (a % b)
noncomputable abbrev powI : D→D→Option D := zfD CPow fun a b => .int (a ^ b.toNat)
noncomputable abbrev ltI : D→D→Option D := zf9 fun a b => .bl (decide (a < b))
noncomputable abbrev leI : D→D→Option D := zf9 fun a b => .bl (decide (a≤b))
noncomputable abbrev gtI : D→D→Option D := zf9 fun a b => .bl (decide (b < a))
section
variable {X : Cx} {g : GE} {m : List Md} {e a b c : Expr} {f fa fb fc : FE} {pos : Pos}
theorem znG (ha : SB X g m a fa) (hb : SB X g m b fb) : SE X g m (.BinOp a .Sub b pos) (f2 fa fb subI) := zf1 zmz (zds fun _ _ => .int _) ha hb
theorem zfZ (ha : SB X g m a fa) (hb : SB X g m b fb) : SE X g m (.BinOp a .Mult b pos) (f2 fa fb mulI) := zf1 zmB (zdV fun _ _ => .int _) ha hb
theorem zhC (ha : SB X g m a fa) (hb : SB X g m b fb) : SE X g m (.BinOp a .FloorDiv b pos) (f2 fa fb zfG) := zf1 zkS (zdV fun _ _ => .int _) ha hb
theorem zex (ha : SB X g m a fa) (hb : SB X g m b fb) : SE X g m (.BinOp a .Mod b pos) (f2 fa fb modI) := zf1 zmC (zdV fun _ _ => .int _) ha hb
theorem znI (ha : SB X g m a fa) (hb : SB X g m b fb) : SE X g m (.BinOp a .Pow b pos) (f2 fa fb powI) := zf1 zmA (zdV fun _ _ => .int _) ha hb
theorem s_lt (ha : SB X g m a fa) (hb : SB X g m b fb) : SE X g m (.Compare a [.Lt] [b] pos) (f2 fa fb ltI) := zi0 zkR (zds fun _ _ => .bl _) ha hb (zdJ _)
theorem q_lt (ha : SB X g m a fa) (hb : SB X g m b fb) : SQ X g m (.Compare a [.Lt] [b] pos) (zaR (f2 fa fb ltI)) := zg6 zkR (zds fun _ _ => .bl _) ha hb (zdJ _)
theorem q_gt (ha : SB X g m a fa) (hb : SB X g m b fb) : SQ X g m (.Compare a [.Gt] [b] pos) (zaR (f2 fa fb gtI)) := zg6 znZ (zds fun _ _ => .bl _) ha hb (zdJ _)
noncomputable def f1 (fa : FE) (k : D→Option D) : FE := fun r => (fa r).bind fun d => opt (k d)
noncomputable def negI : D→Option D
  | .int a => some (.int (-a))
  | _ => none
@[simp] theorem negI_int (a : Int) : negI (.int a) = some (.int (-a)) := rfl
theorem znJ (ha : SB X g m a fa) : SE X g m (.UnaryOp .USub a pos) (f1 fa negI) := by
  refine PE.imp (znS zlA ha) fun σ H Q ⟨r,G,si,q⟩ => ⟨r,G,si,zae (zad q) fun d q1 v G1 H1 w1 r1 => ?_⟩
  obtain ⟨d',e,q2⟩ := zat q1
  cases d with
  | int i =>
    cases e
    exact ⟨i,r1.int w1.ok,q2 _ G1 H1 w1 (.scl (.int _))⟩
  | _ => cases e
noncomputable def truD : D→Option Bool
  | .non => some false
  | .bl b => some b
  | .int i => some (i != 0)
  | .str y => if y.length≤sizeLine then some ((y.length : Int) != 0) else none
  | .lst ds => some (! ds.isEmpty)
  | .tup ds => some (! ds.isEmpty)
  | .dic kvs => some (! kvs.isEmpty)
  | .obj _ _ => none
theorem zee {α β : Type} {F : α→β→Prop} {l : List α} {r : List β} (h : Paired F l r) : l.isEmpty = r.isEmpty := by cases h <;> rfl
theorem zko {K : PySem.W.Frag} {G : GH} {H : Hp} {v : V} {d : D} {b : Bool} (gk : GOk K G H) (h : RB K G H v d) (e : truD d = some b) : TruV K v H b := by
  cases d with
  | non => cases e; rw [h.non gk]; rfl
  | bl b' => cases e; rw [h.bl gk]; rfl
  | int i => cases e; rw [h.int gk]; rfl
  | str y =>
    rw [h.str gk]
    have e' : (if y.length≤sizeLine then some ((y.length : Int) != 0) else none) = some b := e
    by_cases hy : y.length≤sizeLine
    · rw [if_pos hy] at e'; cases e'; exact ⟨hy,rfl⟩
    · rw [if_neg hy] at e'; cases e'
  | lst ds =>
    cases e
    obtain ⟨a,xs,rfl,s,r⟩ := h.lst gk
    exact .inl ⟨xs,s,by rw [zee r]⟩
  | tup ds =>
    cases e
    obtain ⟨a,xs,rfl,s,r⟩ := h.tup gk
    exact .inr (.inl ⟨xs,s,by rw [zee r]⟩)
  | dic kvs =>
    cases e
    obtain ⟨a,xs,rfl,s,r⟩ := h.dic gk
    exact .inr (.inr ⟨xs,s,by rw [zee r]⟩)
  | obj _ _ => cases e
noncomputable def fTru (f : FE) : Rho→Res Bool := fun r => (f r).bind fun d => opt (truD d)
theorem zdP (ha : SB X g m a fa) (he : ∀ whole,isTrue a X.env whole = (do let v ← whole; standAt a.pos; holding [v] (truthy v)) := by intro _; rfl) : SQ X g m a (fTru fa) := by
  refine PT.imp (zi6 ha he) fun σ H Q ⟨r,G,si,q⟩ => ⟨r,G,si,zae (zad q) fun d q1 v G1 H1 w1 r1 => ?_⟩
  obtain ⟨b,e,q2⟩ := zat q1
  exact ⟨b,zko w1.ok r1 e,q2 G1 H1 w1⟩
noncomputable abbrev FQ := Rho→Res Bool
noncomputable def fAnd (p q : FQ) : FQ := fun r => (p r).bind fun c => if c = true then q r else .ok false
noncomputable def fOr (p q : FQ) : FQ := fun r => (p r).bind fun c => if c = true then .ok true else q r
noncomputable def fNot (p : FQ) : FQ := fun r => (p r).bind fun c => .ok (! c)
variable {p q : FQ} {rest : List Expr}
theorem zoe {α : Type} {r : Res α} {q : α→Prop} {x x' : D→Prop} (h : fin r q x) (hx : ∀ e,x e→x' e) : fin r q x' := by
  cases r with
  | ok a => exact h
  | exc e => exact hx e h
  | stuck => exact h
theorem zaz {α : Type} {r : Res α} {σ : L2.St} {G G1 : GH} {H H1 : Hp} {P P' : α→Prop} (h : fin r P (XW X σ G H)) (w : Grow X.K G H G1 H1) (hp : ∀ a,P a→P' a) : fin r P' (XW X σ G1 H1) := zoe (zae h hp) fun _ x => x.grow w
theorem zme (ha : SQ X g m a p) : SW X g m (.BoolOp .And [a] pos) p := zkB ha
theorem zfv (ha : SQ X g m a p) : SW X g m (.BoolOp .Or [a] pos) p := zmf ha
theorem znO (ha : SQ X g m a p) (hb : SW X g m (.BoolOp .And (b::rest) pos) q) : SW X g m (.BoolOp .And (a::b::rest) pos) (fAnd p q) := by
  refine PW.imp (zmg ha hb) fun σ H Q ⟨r,G,si,k⟩ => ⟨r,G,si,zae (zad k) fun c k1 G1 H1 w1 => ?_⟩
  cases c with
  | true => rw [if_pos rfl] at k1 ⊢; exact ⟨r,G1,si.grow w1,zaz k1 w1 fun b z G' H' w' => z G' H' (w1.trans w')⟩
  | false => rw [if_neg Bool.false_ne_true] at k1 ⊢; exact k1 G1 H1 w1
theorem q_or (ha : SQ X g m a p) (hb : SW X g m (.BoolOp .Or (b::rest) pos) q) : SW X g m (.BoolOp .Or (a::b::rest) pos) (fOr p q) := by
  refine PW.imp (znP ha hb) fun σ H Q ⟨r,G,si,k⟩ => ⟨r,G,si,zae (zad k) fun c k1 G1 H1 w1 => ?_⟩
  cases c with
  | true => rw [if_pos rfl] at k1 ⊢; exact k1 G1 H1 w1
  | false => rw [if_neg Bool.false_ne_true] at k1 ⊢; exact ⟨r,G1,si.grow w1,zaz k1 w1 fun b z G' H' w' => z G' H' (w1.trans w')⟩
theorem SW.toQ (h : SW X g m e p) : SQ X g m e p := PW.pt h
theorem zfw (ha : SQ X g m a p) : SQ X g m (.UnaryOp .Not a pos) (fNot p) :=
  PT.imp (zmh ha) fun σ H Q ⟨r,G,si,k⟩ => ⟨r,G,si,zae (zad k) fun c k1 G1 H1 w1 => k1 G1 H1 w1⟩
noncomputable def vAnd (fa fb : FE) : FE := fun r => (fa r).bind fun d => (opt (asB d)).bind fun c => if c = true then fb r else .ok (.bl false)
noncomputable def vOr (fa fb : FE) : FE := fun r => (fa r).bind fun d => (opt (asB d)).bind fun c => if c = true then .ok (.bl true) else fb r
noncomputable def vNot (fa : FE) : FE := fun r => (fa r).bind fun d => (opt (asB d)).bind fun c => .ok (.bl (! c))
theorem zfY {op} (h : SE X g m a fa) : SE X g m (.BoolOp op [a] pos) fa := zmq h
theorem zfq (ha : SE X g m a fa) (hb : SE X g m (.BoolOp .And (b::rest) pos) fb) : SE X g m (.BoolOp .And (a::b::rest) pos) (vAnd fa fb) := by
  refine PE.imp (zmw ha hb) fun σ H Q ⟨r,G,si,k⟩ => ⟨r,G,si,zae (zad k) fun d k1 v G1 H1 w1 r1 => ?_⟩
  obtain ⟨c,e,k2⟩ := zat (zad k1)
  cases d with
  | bl c' =>
    cases e
    refine ⟨_,r1.bl w1.ok,?_⟩
    cases c with
    | true => rw [if_pos rfl] at k2 ⊢; exact ⟨r,G1,si.grow w1,zaz k2 w1 fun b z v G' H' w' => z v G' H' (w1.trans w')⟩
    | false => rw [if_neg Bool.false_ne_true] at k2 ⊢; exact k2 _ G1 H1 w1 (.scl (.bl _))
  | _ => cases e
theorem zlU (ha : SE X g m a fa) : SE X g m (.UnaryOp .Not a pos) (vNot fa) := by
  refine PE.imp (zmr ha) fun σ H Q ⟨r,G,si,k⟩ => ⟨r,G,si,zae (zad k) fun d k1 v G1 H1 w1 r1 => ?_⟩
  obtain ⟨c,e,k2⟩ := zat (zad k1)
  cases d with
  | bl c' => cases e; exact ⟨_,r1.bl w1.ok,k2 _ G1 H1 w1 (.scl (.bl _))⟩
  | _ => cases e
noncomputable def fIf (p : FQ) (fa fb : FE) : FE := fun r => (p r).bind fun c => if c = true then fa r else fb r
theorem zlW (hc : SQ X g m c p) (ha : SE X g m a fa) (hb : SE X g m b fb) : SE X g m (.IfExp c a b pos) (fIf p fa fb) := by
  refine PE.imp (zjb hc ha hb) fun σ H Q ⟨r,G,si,k⟩ => ⟨r,G,si,zae (zad k) fun c k1 G1 H1 w1 => ?_⟩
  cases c with
  | true => rw [if_pos rfl] at k1 ⊢; exact ⟨r,G1,si.grow w1,zaz k1 w1 fun b z v G' H' w' => z v G' H' (w1.trans w')⟩
  | false => rw [if_neg Bool.false_ne_true] at k1 ⊢; exact ⟨r,G1,si.grow w1,zaz k1 w1 fun b z v G' H' w' => z v G' H' (w1.trans w')⟩
variable {es : List Expr} {fl fr : Rho → Res (List D)}
noncomputable def lNil : Rho→Res (List D) := fun _ => .ok []
noncomputable def zac (fa : FE) (fl : Rho→Res (List D)) : Rho→Res (List D) := fun r => (fa r).bind fun d => (fl r).bind fun ds => .ok (d::ds)
theorem zek : SA X g m [] lNil := PA.imp zeI fun σ H Q ⟨r,G,si,k⟩ => k [] G H (Grow.refl si.gok) .nil
theorem zcK (ha : SE X g m e fa) (hr : SA X g m es fl) (hs : starEach (e::es) X.env = (false,eval e X.env)::starEach es X.env := by rfl) : SA X g m (e::es) (zac fa fl) := by
  refine PA.imp (zbY ha hr hs) fun σ H Q ⟨r,G,si,k⟩ => ⟨r,G,si,zae (zad k) fun d k1 v G1 H1 w1 r1 => ⟨r,G1,si.grow w1,?_⟩⟩
  exact zaz (zad k1) w1 fun ds z vs G2 H2 w2 r2 => z (v::vs) G2 H2 (w1.trans w2) (.cons (r1.mono w2.ge) r2)
theorem zaJ : SAB X g m [] lNil := PA.imp zeI fun σ H Q ⟨r,G,si,k⟩ => k [] G H (Grow.refl si.gok) .nil
theorem zap (ha : SB X g m e fa) (hr : SAB X g m es fl) (hs : starEach (e::es) X.env = (false,eval e X.env)::starEach es X.env := by rfl) : SAB X g m (e::es) (zac fa fl) := by
  refine PA.imp (zbY ha hr hs) fun σ H Q ⟨r,G,si,k⟩ => ⟨r,G,si,zae (zad k) fun d k1 v G1 H1 w1 r1 => ⟨r,G1,si.grow w1,?_⟩⟩
  exact zaz (zad k1) w1 fun ds z vs G2 H2 w2 r2 => z (v::vs) G2 H2 (w1.trans w2) (.cons (r1.mono w2) r2)
noncomputable def sz (ds : List D) : Option (List D) := if ds.length≤sizeLine then some ds else none
theorem zkq {ds ds' : List D} (h : sz ds = some ds') : ds' = ds∧ds.length≤sizeLine := by
  unfold sz at h; split at h
  · rename_i hl; cases h; exact ⟨rfl,hl⟩
  · cases h
theorem znD {ds : List D} (h : ds.length≤sizeLine) : sz ds = some ds := if_pos h
noncomputable def mkT (fl : Rho→Res (List D)) : FE := fun r => (fl r).bind fun ds => (opt (sz ds)).bind fun ds => .ok (.tup ds)
noncomputable def mkL (fl : Rho→Res (List D)) : FE := fun r => (fl r).bind fun ds => (opt (sz ds)).bind fun ds => .ok (.lst ds)
theorem zlR {x1} (h : SA X g m es fl) : SE X g m (.Tuple es x1 pos) (mkT fl) := by
  refine PE.imp (zmo h) fun σ H Q ⟨r,G,si,k⟩ => ⟨r,G,si,zae (zad k) fun ds k1 vs G1 H1 w1 r1 => ?_⟩
  obtain ⟨ds',e,k2⟩ := zat (zad k1)
  obtain ⟨rfl,hl⟩ := zkq e
  have hlen := Paired.length r1
  refine ⟨by omega,fun p hp => ?_⟩
  exact k2 _ _ _ (w1.trans (Grow.newF (d := .tup ds') w1.ok hp (.tup (.inl zar) r1))) (.ref zan)
theorem zji (h : SA X g m es fl) : SO X g m (.List es pos) (mkL fl) := by
  refine PE.imp (zmt h) fun σ H Q ⟨r,G,si,k⟩ => ⟨r,G,si,zae (zad k) fun ds k1 vs G1 H1 w1 r1 => ?_⟩
  obtain ⟨ds',e,k2⟩ := zat (zad k1)
  obtain ⟨rfl,hl⟩ := zkq e
  have hlen := Paired.length r1
  refine ⟨by omega,fun p hp => ?_⟩
  have hn : H p = none := by
    cases q : H p with
    | none => rfl
    | some o => rw [w1.he _ _ q] at hp; cases hp
  exact k2 p G1 _ (w1.trans (Grow.new w1.ok hp _)) hn ⟨w1.ok.isN hp,.lst zar r1⟩
end
end DL
end
section
namespace DL
open PySem PySem.Spec PyProof.Rows L2
noncomputable def zhj (K : PySem.W.Frag) (r : List V→Hp→VK→Prop) (k : List D→Option D) : Prop := ∀ (G : GH) (H : Hp) (vs : List V) (ds : List D) (d : D) (Q : VK),GOk K G H→Paired (RB K G H) vs ds→k ds = some d →
  (∀ v G' H',Grow K G H G' H'→RG K G' v d→Q v H')→r vs H Q
noncomputable def fC (fl : Rho→Res (List D)) (k : List D→Option D) : FE := fun r => (fl r).bind fun ds => opt (k ds)
theorem Grow.back {K : PySem.W.Frag} {G G1 : GH} {H H1 : Hp} (w : Grow K G H G1 H1) {a : Addr} (hn : H1 a = none) : H a = none := by
  cases q : H a with
  | none => rfl
  | some o => rw [w.he _ _ q] at hn; cases hn
section
variable {X : Cx} {g : GE} {m : List Md} {e a b c : Expr} {f fa fb fc : FE} {pos p p2 : Pos} {es : List Expr} {fl : Rho → Res (List D)} {x : Str} {id T : String} {R : List V → Hp → VK → Prop} {k : List D → Option D}
theorem s_cb (hk : zhj X.K R k) (h : PE X e (tCB R (tLB X g m fl))) : SE X g m e (fC fl k) := by
  refine PE.imp h fun σ H Q ⟨r,G,si,q⟩ => ⟨r,G,si,zae (zad q) fun ds q1 vs G1 H1 w1 r1 => ?_⟩
  obtain ⟨d,e,q2⟩ := zat q1
  exact hk G1 H1 vs ds d Q w1.ok r1 e fun v G' H' w' z => q2 v G' H' (w1.trans w') z
noncomputable def lenD : List D→Option D
  | [.str y] => if y.length≤sizeLine then some (.int y.length) else none
  | [.lst ds] => some (.int ds.length)
  | [.tup ds] => some (.int ds.length)
  | [.dic kvs] => some (.int kvs.length)
  | _ => none
theorem zmN {K : PySem.W.Frag} : zhj K (fun xs H Q => (∃ x n,xs = [x]∧LenV K x H n∧Q (.int n) H)∨∃ a kvs,xs = [V.ref a]∧Rd H a (.dK kvs)∧Q (.int kvs.length) H) lenD := by
  intro G H vs ds d Q gk rs e q
  unfold lenD at e
  split at e
  · split at e
    · cases e
      cases rs with
      | cons r t => cases t; exact .inl ⟨_,_,rfl,by rw [r.str gk]; exact ⟨by assumption,rfl⟩,q _ G H (Grow.refl gk) (.scl (.int _))⟩
    · cases e
  · cases e
    cases rs with
    | cons r t =>
      cases t
      obtain ⟨a,xs,rfl,s,r⟩ := r.lst gk
      have := Paired.length r
      exact .inl ⟨_,_,rfl,.inl ⟨xs,s,rfl⟩,q _ G H (Grow.refl gk) (.scl (by rw [this]; exact .int _))⟩
  · cases e
    cases rs with
    | cons r t =>
      cases t
      obtain ⟨a,xs,rfl,s,r⟩ := r.tup gk
      have := Paired.length r
      exact .inl ⟨_,_,rfl,.inr ⟨xs,s,rfl⟩,q _ G H (Grow.refl gk) (.scl (by rw [this]; exact .int _))⟩
  · cases e
    cases rs with
    | cons r t =>
      cases t
      obtain ⟨a,xs,rfl,s,r⟩ := r.dic gk
      have := Paired.length r
      exact .inr ⟨_,_,rfl,s,q _ G H (Grow.refl gk) (.scl (by rw [this]; exact .int _))⟩
  · cases e
theorem zcM (hg : Gl X "len") (hm : X.mg "len" = none) (ha : SAB X g m (e::es) fl) (he : starEach (e::es) X.env = (false,eval e X.env)::starEach es X.env := by rfl) (hpl : (backTo pos (starEach es X.env)).any (·.1) = false := by rfl) :
    SE X g m (.Call (.Name "len" p) (e::es) [] pos) (fC fl lenD) := s_cb zmN (zdU (zdk.or zjH ziH) hg hm PySem.boot_len ha (by decide) (by decide) he hpl)
noncomputable def zmM : List D→Option D
  | [.lst ds] => some (.lst ds)
  | [.tup ds] => some (.lst ds)
  | _ => none
noncomputable def tupD : List D→Option D
  | [.lst ds] => some (.tup ds)
  | [.tup ds] => some (.tup ds)
  | _ => none
theorem zlF {K : PySem.W.Frag} : zhj K (fun xs H Q => ∃ p ys,xs = [.ref p]∧((SqL K H p ys∧∀ l,H l = none→Q (.ref l) (upd H l (.tup ys)))∨(SqT K H p ys∧Q (.ref p) H))) tupD := by
  intro G H vs ds d Q gk rs e q
  unfold tupD at e
  split at e
  · cases e
    cases rs with
    | cons r t =>
      cases t
      obtain ⟨a,xs,rfl,s,r⟩ := r.lst gk
      exact ⟨a,xs,rfl,.inl ⟨s,fun l hl => q _ _ _ (Grow.newF gk hl (.tup (.inl zar) r)) (.ref zan)⟩⟩
  · cases e
    cases rs with
    | cons r t =>
      cases t
      rcases r with r | ⟨a,_,o⟩
      · obtain ⟨a,xs,rfl,s,r'⟩ := r.tup gk
        exact ⟨a,xs,rfl,.inr ⟨s,q _ G H (Grow.refl gk) r⟩⟩
      · cases o.ob
  · cases e
theorem zdq (hg : Gl X "tuple") (hm : X.mg "tuple" = none) (ha : SAB X g m (e::es) fl) (he : starEach (e::es) X.env = (false,eval e X.env)::starEach es X.env := by rfl) (hpl : (backTo pos (starEach es X.env)).any (·.1) = false := by rfl) :
    SE X g m (.Call (.Name "tuple" p) (e::es) [] pos) (fC fl tupD) := s_cb zlF (zfz zfc hg hm rfl ha (by decide) (by decide) he hpl)
noncomputable def ixD : D→D→Option D
  | .lst ds,.int i => atI ds i
  | .tup ds,.int i => atI ds i
  | .str z,.int i => if z.length≤sizeLine then (atI z.cps.toList i).map fun c => .str ⟨#[c]⟩ else none
  | _,_ => none
theorem zno {K : PySem.W.Frag} {G : GH} {xs : List V} {ds : List D} {i : Int} {d : D} (r : RGs K G xs ds) (h : atI ds i = some d) : ∃ v,atI xs i = some v∧RG K G v d := by
  unfold atI at h ⊢
  rw [Paired.length r]
  cases e : ixN ds.length i with
  | none => rw [e] at h; cases h
  | some j =>
    rw [e] at h
    exact Paired.get r h
theorem zk6 {K : PySem.W.Frag} : OpD K (rIx K) ixD := by
  intro G H v1 v2 d1 d2 d Q gk r1 r2 e q
  unfold ixD at e
  split at e
  · obtain ⟨a,xs,rfl,s,r⟩ := r1.lst gk
    obtain ⟨v,ev,rv⟩ := zno r e
    exact .inl ⟨a,xs,_,v,rfl,r2.int gk,s,ev,q v G H (Grow.refl gk) rv⟩
  · obtain ⟨a,xs,rfl,s,r⟩ := r1.tup gk
    obtain ⟨v,ev,rv⟩ := zno r e
    exact .inr (.inl ⟨a,xs,_,v,rfl,r2.int gk,s,ev,q v G H (Grow.refl gk) rv⟩)
  · split at e
    · rename_i z i hz
      cases ec : atI z.cps.toList i with
      | none => rw [ec] at e; cases e
      | some c =>
        rw [ec] at e; cases e
        exact .inr (.inr ⟨z,i,c,r1.str gk,r2.int gk,hz,ec,q _ G H (Grow.refl gk) (.scl (.str _))⟩)
    · cases e
  · cases e
noncomputable abbrev FP := Rho→Res (Option Int)
noncomputable def tP (X : Cx) (g : GE) (m : List Md) (f : FP) : TO := fun σ H Q => ∃ r G,SI X g m r G σ H∧fin (f r) (fun o => ∀ G' H',Grow X.K G H G' H'→Q o H') (XW X σ G H)
noncomputable def SP1 (X : Cx) (g : GE) (m : List Md) (e : Option Expr) (f : FP) : Prop := PO X e (tP X g m f)
theorem PO.imp {X : Cx} {e : Option Expr} {t t' : TO} (h : PO X e t) (i : ∀ σ H Q,t' σ H Q→t σ H Q) : PO X e t' := fun pins s σ H Q I q => h pins s σ H Q I (i σ H Q q)
noncomputable def asI : D→Option Int
  | .int i => some i
  | _ => none
noncomputable def zjt (f : FE) : FP := fun r => (f r).bind fun d => (opt (asI d)).bind fun i => .ok (some i)
theorem zmy : SP1 X g m none fun _ => .ok none := PO.imp zkG fun σ H Q ⟨r,G,si,q⟩ => q G H (Grow.refl si.gok)
theorem zmx (h : SB X g m e f) : SP1 X g m (some e) (zjt f) := by
  refine PO.imp (zkF h) fun σ H Q ⟨r,G,si,q⟩ => ⟨r,G,si,zae (zad q) fun d q1 v G1 H1 w1 r1 => ?_⟩
  obtain ⟨i,e,q2⟩ := zat (zad q1)
  cases d with
  | int j => cases e; exact ⟨_,r1.int w1.ok,q2 G1 H1 w1⟩
  | _ => cases e
end
end DL
end
section
namespace DL
open PySem PySem.Spec PyProof.Rows L2
inductive Out where
  | nx (r : Rho) | rt (d : D) | bk (r : Rho) | ct (r : Rho) | exc (x : D) (r : Rho) | stuck
noncomputable abbrev FS := Rho→Out
noncomputable def Gle (G G' : GH) : Prop := ∀ a d,G a = some d→G' a = some d
theorem Gle.refl (G : GH) : Gle G G := fun _ _ e => e
theorem Gle.trans {G G1 G2 : GH} (a : Gle G G1) (b : Gle G1 G2) : Gle G G2 := fun x d e => b x d (a x d e)
noncomputable def forget (m : List Md) (r : Rho) : Rho := List.zipWith (fun md o => if md = Md.sh then o else none) m r
noncomputable def zcD (m : List Md) : List Md := m.map fun _ => Md.sh
theorem zbQ {m : List Md} {r : Rho} {i : Nat} {d : D} (h : (forget m r)[i]? = some (some d)) : r[i]? = some (some d)∧m[i]? = some .sh := by
  unfold forget at h
  rw [List.getElem?_zipWith] at h
  cases e1 : m[i]? with
  | none => rw [e1] at h; cases h
  | some md =>
    cases e2 : r[i]? with
    | none => rw [e1,e2] at h; cases h
    | some o =>
      rw [e1,e2] at h
      have h' : (if md = Md.sh then o else none) = some d := Option.some.inj h
      split at h'
      · rename_i hm; subst hm; rw [h']; exact ⟨rfl,rfl⟩
      · cases h'
section
variable {X : Cx} {g : GE} {m : List Md} {r : Rho} {G : GH} {st : L2.St} {H : Hp}
theorem SI.forget (s : SI X g m r G st H) : SI X g (zcD m) (forget m r) G st H where
  gok := s.gok
  old := s.old
  ge := s.ge
  gf := s.gf
  lm := by rw [zcD,List.length_map]; exact s.lm
  lr := by rw [DL.forget,List.length_zipWith,s.lm,s.lr,Nat.min_self]
  sh := fun i d h _ => s.sh i d (zbQ h).1 (zbQ h).2
  ow := fun i d h hm => by rw [zcD,List.getElem?_map,(zbQ h).2] at hm; cases hm
  bw := fun i d h hm => by rw [zcD,List.getElem?_map,(zbQ h).2] at hm; cases hm
  dis := fun i j a d e _ h _ hm => by rw [zcD,List.getElem?_map,(zbQ h).2] at hm; cases hm
  lk := fun i o _ hm => by rw [zcD,List.getElem?_map] at hm; cases q : m[i]? <;> rw [q] at hm <;> cases hm
theorem SI.set (s : SI X g m r G st H) (i : Nat) {v : V} {d : D} (hv : RG X.K G v d) : SI X g (m.set i .sh) (r.set i (some d)) G (st.set i (some v)) H where
  gok := s.gok
  old := s.old
  ge := s.ge
  gf := s.gf
  lm := by simp [s.lm]
  lr := by simp [s.lr]
  sh := fun j e h hm => by
    by_cases hij : i = j
    · subst hij
      have hl : i < r.length := by
        have := (List.getElem?_eq_some_iff.mp h).1
        simpa using this
      rw [List.getElem?_set_self hl] at h
      cases h
      exact ⟨v,by rw [List.getElem?_set_self (by rw [← s.lr]; exact hl)],hv⟩
    · rw [List.getElem?_set_ne hij] at h hm
      rw [List.getElem?_set_ne hij]
      exact s.sh j e h hm
  ow := fun j e h hm => by
    by_cases hij : i = j
    · subst hij
      have hl : i < m.length := by
        have := (List.getElem?_eq_some_iff.mp hm).1
        simpa using this
      rw [List.getElem?_set_self hl] at hm; cases hm
    · rw [List.getElem?_set_ne hij] at h hm
      rw [List.getElem?_set_ne hij]
      exact s.ow j e h hm
  bw := fun j e h hm => by
    by_cases hij : i = j
    · subst hij
      have hl : i < m.length := by
        have := (List.getElem?_eq_some_iff.mp hm).1
        simpa using this
      rw [List.getElem?_set_self hl] at hm; cases hm
    · rw [List.getElem?_set_ne hij] at h hm
      rw [List.getElem?_set_ne hij]
      exact s.bw j e h hm
  dis := fun j k a d1 d2 hjk h1 h2 hm hm' q1 q2 => by
    have hij : i≠j := by
      rintro rfl
      have hl : i < m.length := by
        have := (List.getElem?_eq_some_iff.mp hm).1
        simpa using this
      rw [List.getElem?_set_self hl] at hm; cases hm
    have hik : i≠k := by
      rintro rfl
      have hl : i < m.length := by
        have := (List.getElem?_eq_some_iff.mp h2).1
        rw [List.length_set,s.lr,← s.lm] at this; exact this
      rw [List.getElem?_set_self hl] at hm'; cases hm'
    rw [List.getElem?_set_ne hij] at h1 hm q1
    rw [List.getElem?_set_ne hik] at h2 hm' q2
    exact s.dis j k a d1 d2 hjk h1 h2 hm hm' q1 q2
  lk := fun j o hj hm => by
    have hij : i≠j := by
      rintro rfl
      have hl : i < m.length := by
        have := (List.getElem?_eq_some_iff.mp hm).1
        simpa using this
      rw [List.getElem?_set_self hl] at hm; cases hm
    rw [List.getElem?_set_ne hij] at hm
    have := s.lk j o hj hm
    exact ⟨by rw [List.getElem?_set_ne hij]; exact this.1,fun d h => this.2 d (by rw [List.getElem?_set_ne hij] at h; exact h)⟩
theorem SI.setO (s : SI X g m r G st H) (i : Nat) {a : Addr} {d : D} (ho : Own X.K G H a d) (h0 : g.h0 a = none) (hx : ∀ (j : Nat) (b : Addr) (e : D),r[j]? = some (some e)→m[j]? = some Md.ow→st[j]? = some (some (V.ref b))→b≠a) :
    SI X g (m.set i .ow) (r.set i (some d)) G (st.set i (some (V.ref a))) H where
  gok := s.gok
  old := s.old
  ge := s.ge
  gf := s.gf
  lm := by simp [s.lm]
  lr := by simp [s.lr]
  sh := fun j e h hm => by
    by_cases hij : i = j
    · subst hij
      have hl : i < m.length := by
        have := (List.getElem?_eq_some_iff.mp hm).1
        simpa using this
      rw [List.getElem?_set_self hl] at hm; cases hm
    · rw [List.getElem?_set_ne hij] at h hm
      rw [List.getElem?_set_ne hij]
      exact s.sh j e h hm
  ow := fun j e h hm => by
    by_cases hij : i = j
    · subst hij
      have hl : i < r.length := by
        have := (List.getElem?_eq_some_iff.mp h).1
        simpa using this
      rw [List.getElem?_set_self hl] at h
      cases h
      exact ⟨a,by rw [List.getElem?_set_self (by rw [← s.lr]; exact hl)],ho,h0⟩
    · rw [List.getElem?_set_ne hij] at h hm
      rw [List.getElem?_set_ne hij]
      exact s.ow j e h hm
  bw := fun j e h hm => by
    by_cases hij : i = j
    · subst hij
      have hl : i < m.length := by
        have := (List.getElem?_eq_some_iff.mp hm).1
        simpa using this
      rw [List.getElem?_set_self hl] at hm; cases hm
    · rw [List.getElem?_set_ne hij] at h hm
      rw [List.getElem?_set_ne hij]
      exact s.bw j e h hm
  dis := fun j k b d1 d2 hjk h1 h2 hm hm' q1 q2 => by
    by_cases hij : i = j
    · subst hij
      rw [List.getElem?_set_ne hjk] at h2 hm' q2
      have hl : i < st.length := by
        have := (List.getElem?_eq_some_iff.mp q1).1
        simpa using this
      rw [List.getElem?_set_self hl] at q1
      have e : a = b := by injection q1 with q1; injection q1 with q1; injection q1
      exact hx k b d2 h2 hm' q2 e.symm
    · by_cases hik : i = k
      · subst hik
        rw [List.getElem?_set_ne hij] at h1 hm q1
        have hl : i < st.length := by
          have := (List.getElem?_eq_some_iff.mp q2).1
          simpa using this
        rw [List.getElem?_set_self hl] at q2
        have e : a = b := by injection q2 with q2; injection q2 with q2; injection q2
        exact hx j b d1 h1 hm q1 e.symm
      · rw [List.getElem?_set_ne hij] at h1 hm q1
        rw [List.getElem?_set_ne hik] at h2 hm' q2
        exact s.dis j k b d1 d2 hjk h1 h2 hm hm' q1 q2
  lk := fun j o hj hm => by
    have hij : i≠j := by
      rintro rfl
      have hl : i < m.length := by
        have := (List.getElem?_eq_some_iff.mp hm).1
        simpa using this
      rw [List.getElem?_set_self hl] at hm; cases hm
    rw [List.getElem?_set_ne hij] at hm
    have := s.lk j o hj hm
    exact ⟨by rw [List.getElem?_set_ne hij]; exact this.1,fun d h => this.2 d (by rw [List.getElem?_set_ne hij] at h; exact h)⟩
theorem SI.other (s : SI X g m r G st H) {p : Addr} (hp : G p = none) (h0 : g.h0 p = none) (hm : ∀ (i : Nat),m[i]?≠some Md.ow) (o : HO) : SI X g m r G st (upd H p o) where
  gok := fun b e h => (s.gok b e h).mono (fun _ _ z => z) fun o' q => by rw [zam (by rintro rfl; rw [hp] at h; cases h)]; exact q
  old := fun b o' h => by rw [zam (by rintro rfl; rw [h0] at h; cases h)]; exact s.old b o' h
  ge := s.ge
  gf := s.gf
  lm := s.lm
  lr := s.lr
  sh := s.sh
  ow := fun i d _ h => absurd h (hm i)
  bw := fun i d h1 h2 => by
    obtain ⟨v,h3,h4⟩ := s.bw i d h1 h2
    refine ⟨v,h3,?_⟩
    rcases h4 with h4 | ⟨a,rfl,h4,h5⟩
    · exact .inl h4
    · have ha : a≠p := by rintro rfl; exact h5 h0
      exact .inr ⟨a,rfl,⟨h4.un,h4.ob.mono (fun _ _ z => z) fun o' z => by rw [zam ha]; exact z⟩,h5⟩
  dis := fun i j a d e _ _ _ h => absurd h (hm i)
  lk := s.lk
theorem SI.less (s : SI X g m r G st H) {r' : Rho} (hl : r'.length = r.length) (h : ∀ (i : Nat) d,r'[i]? = some (some d)→r[i]? = some (some d)) : SI X g m r' G st H :=
  ⟨s.gok,s.old,s.ge,s.gf,s.lm,hl.trans s.lr,fun i d a b => s.sh i d (h i d a) b,fun i d a b => s.ow i d (h i d a) b,fun i d a b => s.bw i d (h i d a) b,fun i j a d e n p q x y => s.dis i j a d e n (h i d p) (h j e q) x y,fun i o hi hm => by
    have := s.lk i o hi hm
    exact ⟨this.1,fun d hd => this.2 d (h i d hd)⟩⟩
theorem SI.held (s : SI X g m r G st H) {j : Nat} {b : Addr} {e : D} (h : r[j]? = some (some e)) (hm : m[j]? = some .ow) (hs : st[j]? = some (some (V.ref b))) : H b≠none := by
  obtain ⟨a,h1,h2,_⟩ := s.ow j e h hm
  rw [hs] at h1
  injection h1 with h1; injection h1 with h1; injection h1 with h1
  rw [h1]; exact h2.ob.isS
theorem SI.new (s : SI X g m r G st H) {a : Addr} (hn : H a = none) : g.h0 a = none := by
  cases q : g.h0 a with
  | none => rfl
  | some o => rw [s.old _ _ q] at hn; cases hn
theorem SI.setN (s : SI X g m r G st H) {G' : GH} {H' : Hp} (w : Grow X.K G H G' H') (i : Nat) {a : Addr} {d : D} (hn : H a = none) (ho : Own X.K G' H' a d) : SI X g (m.set i .ow) (r.set i (some d)) G' (st.set i (some (V.ref a))) H' := by
  refine (s.grow w).setO i ho ?_ fun j b e h1 h2 h3 => ?_
  · cases q : g.h0 a with
    | none => rfl
    | some o => rw [s.old _ _ q] at hn; cases hn
  · rintro rfl
    exact s.held h1 h2 h3 hn
theorem SI.mut (s : SI X g m r G st H) {i : Nat} {d : D} (hm : m[i]? = some .ow) (hd : r[i]? = some (some d)) :
    ∃ a,st[i]? = some (some (V.ref a))∧Own X.K G H a d∧∀ (o' : HO) (d' : D),OwnO X.K G (upd H a o') a d'→SI X g m (r.set i (some d')) G st (upd H a o') := by
  obtain ⟨a,h1,h2,h3⟩ := s.ow i d hd hm
  have hl : i < r.length := (List.getElem?_eq_some_iff.mp hd).1
  refine ⟨a,h1,h2,fun o' d' ob => ?_⟩
  have oth : ∀ (j : Nat) (b : Addr) (e : D),j≠i→r[j]? = some (some e)→m[j]? = some .ow→st[j]? = some (some (V.ref b))→b≠a := fun j b e hj q1 q2 q3 z => by
    subst z
    exact s.dis i j b d e (Ne.symm hj) hd q1 hm q2 h1 q3
  refine ⟨fun b e h => ?_,fun b o h => ?_,s.ge,s.gf,s.lm,by simp [s.lr],?_,?_,?_,?_,fun j o hj hm' => ?_⟩
  · have hb : b≠a := by rintro rfl; rw [h2.un] at h; cases h
    exact (s.gok b e h).mono (fun _ _ z => z) fun o q => by rw [zam hb]; exact q
  · have hb : b≠a := by rintro rfl; rw [h3] at h; cases h
    rw [zam hb]; exact s.old b o h
  · intro j e h hm'
    have hij : i≠j := by rintro rfl; rw [hm] at hm'; cases hm'
    rw [List.getElem?_set_ne hij] at h
    exact s.sh j e h hm'
  · intro j e h hm'
    by_cases hij : i = j
    · subst hij
      rw [List.getElem?_set_self hl] at h; cases h
      exact ⟨a,h1,⟨h2.un,ob⟩,h3⟩
    · rw [List.getElem?_set_ne hij] at h
      obtain ⟨b,q1,q2,q3⟩ := s.ow j e h hm'
      have hb := oth j b e (Ne.symm hij) h hm' q1
      exact ⟨b,q1,⟨q2.un,q2.ob.mono (fun _ _ z => z) fun o z => by rw [zam hb]; exact z⟩,q3⟩
  · intro j e h hm'
    have hij : i≠j := by rintro rfl; rw [hm] at hm'; cases hm'
    rw [List.getElem?_set_ne hij] at h
    obtain ⟨v,q1,q2⟩ := s.bw j e h hm'
    refine ⟨v,q1,?_⟩
    rcases q2 with q2 | ⟨b,rfl,q2,q3⟩
    · exact .inl q2
    · have hb : b≠a := by rintro rfl; exact q3 h3
      exact .inr ⟨b,rfl,⟨q2.un,q2.ob.mono (fun _ _ z => z) fun o z => by rw [zam hb]; exact z⟩,q3⟩
  · have bound : ∀ (j : Nat) e,(r.set i (some d'))[j]? = some (some e)→∃ e',r[j]? = some (some e') := fun j e h => by
      by_cases hij : i = j
      · subst hij; exact ⟨d,hd⟩
      · rw [List.getElem?_set_ne hij] at h; exact ⟨e,h⟩
    intro j k b d1 d2 hjk q1 q2 p1 p2 z1 z2
    obtain ⟨e1,q1⟩ := bound j d1 q1
    obtain ⟨e2,q2⟩ := bound k d2 q2
    exact s.dis j k b e1 e2 hjk q1 q2 p1 p2 z1 z2
  · have hij : i≠j := by rintro rfl; rw [hm] at hm'; cases hm'
    have := s.lk j o hj hm'
    exact ⟨this.1,fun d'' h => this.2 d'' (by rw [List.getElem?_set_ne hij] at h; exact h)⟩
end
noncomputable def RV (ro : Bool) (K : PySem.W.Frag) (H0 : Hp) (G : GH) (H : Hp) (v : V) (d : D) : Prop := match ro with
  | false => RG K G v d
  | true => (∃ a,v = .ref a∧H0 a = none∧Own K G H a d)∨(d = .non∧v = .non)
noncomputable def oTo (X : Cx) (g : GE) (ro : Bool) (m' mb : List Md) (G : GH) (D : Ends) : Out→Prop
  | .nx r' => ∀ σ' G' H',Gle G G'→SI X g m' r' G' σ' H'→D.nx σ' H'
  | .rt d => ∀ v G' H',Grow X.K g.gh g.h0 G' H'→RV ro X.K g.h0 G' H' v d→D.rt v H'
  | .bk r' => ∀ σ' G' H',Gle G G'→SI X g mb r' G' σ' H'→D.bk σ' H'
  | .ct r' => ∀ σ' G' H',Gle G G'→SI X g mb r' G' σ' H'→D.ct σ' H'
  | .exc x r' => ∀ pins e s' σ' G' H',Gle G G'→SI X g (zcD m') r' G' σ' H'→Inv X pins σ' H' s'→ExV X σ' G' H' e x s'→X.xe e s'
  | .stuck => False
noncomputable def tS (X : Cx) (g : GE) (ro : Bool) (m m' mb : List Md) (f : FS) : TS := fun D σ H => ∃ r G,SI X g m r G σ H∧oTo X g ro m' mb G D (f r)
noncomputable def SS (X : Cx) (g : GE) (ro : Bool) (mb m : List Md) (st : Stmt) (f : FS) (m' : List Md) : Prop := m'.length = m.length∧PS X st (tS X g ro m m' mb f)
noncomputable def SSs (X : Cx) (g : GE) (ro : Bool) (mb m : List Md) (st : List Stmt) (f : FS) (m' : List Md) : Prop := m'.length = m.length∧PSs X st (tS X g ro m m' mb f)
theorem zc8 {m m' : List Md} (h : m'.length = m.length) : zcD m' = zcD m := by
  unfold zcD
  rw [List.map_const',List.map_const',h]
theorem oTo.x {X : Cx} {g : GE} {ro : Bool} {m m' mb : List Md} {r : Rho} {G : GH} {D : Ends} {σ : L2.St} {H : Hp} {x : DL.D} (h : oTo X g ro m' mb G D (.exc x (forget m r))) (si : SI X g m r G σ H) (hl : m'.length = m.length) : XW X σ G H x :=
  fun pins e s' G' H' w I ex => h pins e s' σ G' H' w.ge (by rw [zc8 hl]; exact (si.grow w).forget) I ex
section
variable {X : Cx} {g : GE} {ro : Bool} {m m' m1 mb : List Md} {e a b c tg : Expr} {f fa fb fc : FE} {p : FQ} {pos pos' : Pos} {st : Stmt} {sts sts' : List Stmt} {s1 s2 : FS}
theorem oTo.gle {G G1 : GH} {D : Ends} {o : Out} (h : oTo X g ro m' mb G D o) (w : Gle G G1) : oTo X g ro m' mb G1 D o := by
  cases o with
  | nx r' => exact fun σ' G' H' q si => h σ' G' H' (w.trans q) si
  | rt d => exact h
  | bk r' => exact fun σ' G' H' q si => h σ' G' H' (w.trans q) si
  | ct r' => exact fun σ' G' H' q si => h σ' G' H' (w.trans q) si
  | exc x r' => exact fun pins e s' σ' G' H' q => h pins e s' σ' G' H' (w.trans q)
  | stuck => exact h
noncomputable def seqF (s1 s2 : FS) : FS := fun r => match s1 r with
  | .nx r' => s2 r'
  | o => o
noncomputable def zaj : FS := fun r => .nx r
theorem zag : SSs X g ro mb m [] zaj m := ⟨rfl,PSs.imp zkE fun D σ H ⟨r,G,si,q⟩ => q σ G H (Gle.refl G) si⟩
theorem zaa (h1 : SS X g ro mb m st s1 m1) (h2 : SSs X g ro mb m1 sts s2 m') : SSs X g ro mb m (st::sts) (seqF s1 s2) m' := by
  refine ⟨h2.1.trans h1.1,PSs.imp (zi7 h1.2 h2.2) fun D σ H ⟨r,G,si,q⟩ => ⟨r,G,si,?_⟩⟩
  unfold seqF at q
  cases e : s1 r with
  | nx r' =>
    rw [e] at q
    exact fun σ' G' H' w si' => ⟨r',G',si',oTo.gle q w⟩
  | rt d => rw [e] at q; exact q
  | bk r' => rw [e] at q; exact q
  | ct r' => rw [e] at q; exact q
  | exc x r' => rw [e] at q; exact fun pins e s' σ' G' H' w si' => q pins e s' σ' G' H' w (by rw [zc8 h2.1]; exact si')
  | stuck => rw [e] at q; exact q
theorem zcL : SS X g ro mb m st (fun _ => .stuck) m := ⟨rfl,PS.imp zi8 fun D σ H ⟨r,G,si,q⟩ => q⟩
theorem znL (i : Nat) (hi : m[i]? = some .ow) (h : SS X g ro mb (m.set i .sh) st s1 m') : SS X g ro mb m st s1 m' := by
  refine ⟨h.1.trans (by simp),fun pins s σ H D I ⟨r,G,si,q⟩ => ?_⟩
  rcases si.frz i hi with ⟨G',le,si'⟩ | ⟨a,z⟩
  · exact h.2 pins s σ H D I ⟨r,G',si',oTo.gle q le⟩
  · obtain ⟨ob,I2⟩ := Inv.fast I a
    obtain ⟨G',le,si'⟩ := z ob
    exact h.2 pins s σ _ D I2 ⟨r,G',si',oTo.gle q le⟩
noncomputable def onE {α : Type} (m : List Md) (r : Rho) (x : Res α) (k : α→Out) : Out := match x with
  | .ok a => k a
  | .exc e => .exc e (forget m r)
  | .stuck => .stuck
@[simp] theorem onE_ok {α : Type} (m : List Md) (r : Rho) (a : α) (k : α→Out) : onE m r (.ok a) k = k a := rfl
theorem zbh {α : Type} {x : Res α} {k : α→Out} {r : Rho} {G : GH} {D : Ends} {σ : L2.St} {H : Hp} (si : SI X g m r G σ H) (hl : m'.length = m.length) (h : oTo X g ro m' mb G D (onE m r x k)) : fin x (fun a => oTo X g ro m' mb G D (k a)) (XW X σ G H) := by
  cases x with
  | ok a => exact h
  | exc e => exact oTo.x h si hl
  | stuck => exact h
noncomputable def setF (m : List Md) (i : Nat) (f : FE) : FS := fun r => onE m r (f r) fun d => .nx (r.set i (some d))
theorem zcB (i : Nat) {x : Str} (hN : X.N.Nodup) (hi : X.N[i]? = some x) (hx : Loc X.env.scope x) (he : SE X g m e f) (hs : swapsWith e (some (.Name x pos')) pos.line X.env = pure false := by rfl)
    (hf : X.fn x = true∨X.env.scope.names.lookup x = some .local := by first | exact .inl rfl | exact .inr rfl | assumption) : SS X g ro mb m (.Assign [.Name x pos'] e pos) (setF m i f) (m.set i .sh) := by
  have hl : (m.set i .sh).length = m.length := by simp
  refine ⟨hl,PS.imp (zj0 hN hi hx he hs hf) fun D σ H ⟨r,G,si,q⟩ => ⟨r,G,si,?_⟩⟩
  exact zae (zbh si hl q) fun d q v G' H' w rv => q _ G' H' w.ge ((si.grow w).set i rv)
theorem zeH (i : Nat) {x : Str} (hN : X.N.Nodup) (hi : X.N[i]? = some x) (hx : Loc X.env.scope x) (he : SO X g m e f) (hs : swapsWith e (some (.Name x pos')) pos.line X.env = pure false := by rfl)
    (hf : X.fn x = true∨X.env.scope.names.lookup x = some .local := by first | exact .inl rfl | exact .inr rfl | assumption) : SS X g ro mb m (.Assign [.Name x pos'] e pos) (setF m i f) (m.set i .ow) := by
  have hl : (m.set i .ow).length = m.length := by simp
  refine ⟨hl,PS.imp (zj0 hN hi hx he hs hf) fun D σ H ⟨r,G,si,q⟩ => ⟨r,G,si,?_⟩⟩
  exact zae (zbh si hl q) fun d q a G' H' w hn ho => q _ G' H' w.ge (si.setN w i hn ho)
noncomputable def zjz (m : List Md) (f : FE) : FS := fun r => onE m r (f r) fun _ => .nx r
theorem zlY (he : SE X g m e f) (hs : swapsWith e none pos.line X.env = pure false := by rfl) : SS X g ro mb m (.Expr e pos) (zjz m f) m :=
  ⟨rfl,PS.imp (zhN he hs) fun D σ H ⟨r,G,si,q⟩ => ⟨r,G,si,zae (zbh si rfl q) fun d q v G' H' w _ => q σ G' H' w.ge (si.grow w)⟩⟩
noncomputable def retF (m : List Md) (f : FE) : FS := fun r => onE m r (f r) fun d => .rt d
theorem zaV (he : SE X g m e f) : SS X g false mb m (.Return (some e) pos) (retF m f) m :=
  ⟨rfl,PS.imp (zmi he) fun D σ H ⟨r,G,si,q⟩ => ⟨r,G,si,zae (zbh si rfl q) fun d q v G' H' w rv => q v G' H' (si.grow w).grown rv⟩⟩
noncomputable def ifF (m : List Md) (p : FQ) (s1 s2 : FS) : FS := fun r => onE m r (p r) fun c => if c = true then s1 r else s2 r
theorem s_if (hc : SQ X g m c p) (h1 : SSs X g ro mb m sts s1 m') (h2 : SSs X g ro mb m sts' s2 m') : SS X g ro mb m (.If c sts sts' pos) (ifF m p s1 s2) m' := by
  refine ⟨h1.1,PS.imp (znR hc h1.2 h2.2) fun D σ H ⟨r,G,si,q⟩ => ⟨r,G,si,zae (zbh si h1.1 q) fun c q G' H' w => ?_⟩⟩
  cases c with
  | true => rw [if_pos rfl] at q ⊢; exact ⟨r,G',si.grow w,oTo.gle q w.ge⟩
  | false => rw [if_neg Bool.false_ne_true] at q ⊢; exact ⟨r,G',si.grow w,oTo.gle q w.ge⟩
theorem zhr (i : Nat) (h : SSs X g ro mb m sts s1 m') (hi : m'[i]? = some .ow) : SSs X g ro mb m sts s1 (m'.set i .sh) := by
  refine ⟨by simp [h.1],fun pins s σ H D I ⟨r,G,si,q⟩ => ?_⟩
  refine thn (h.2 pins s σ H ⟨fun σ' H' => D.nx σ' H'∨∃ a,∀ ob,D.nx σ' (fz H' a ob),D.rt,D.bk,D.ct⟩ I ⟨r,G,si,?_⟩) fun f s' p => ?_
  · cases e : s1 r with
    | nx r' =>
      rw [e] at q
      intro σ' G' H' w si'
      rcases si'.frz i hi with ⟨G2,le,si2⟩ | ⟨a,z⟩
      · exact .inl (q σ' G2 H' (w.trans le) si2)
      · refine .inr ⟨a,fun ob => ?_⟩
        obtain ⟨G2,le,si2⟩ := z ob
        exact q σ' G2 _ (w.trans le) si2
    | rt d => rw [e] at q; exact q
    | bk r' => rw [e] at q; exact q
    | ct r' => rw [e] at q; exact q
    | exc x r' => rw [e] at q; exact fun pins e s' σ' G' H' w si' => q pins e s' σ' G' H' w (by rw [zc8 (m := m') (by simp)]; exact si')
    | stuck => rw [e] at q; exact q
  · cases f with
    | next =>
      obtain ⟨σ',H',I',z | ⟨a,z⟩⟩ := p
      · exact ⟨σ',H',I',z⟩
      · obtain ⟨ob,I2⟩ := Inv.fast I' a
        exact ⟨σ',_,I2,z ob⟩
    | brk => exact p
    | cont => exact p
    | ret u => exact p
end
end DL
end
section
namespace DL
open PySem PySem.Spec PyProof.Rows L2
noncomputable abbrev FT := D→Rho→Option Rho
noncomputable abbrev FTs := List D→Rho→Option Rho
noncomputable def tG (X : Cx) (g : GE) (m m' : List Md) (ft : FT) : TG := fun v σ H Q => ∃ r G d,SI X g m r G σ H∧RG X.K G v d∧∃ r',ft d r = some r'∧∀ σ',SI X g m' r' G σ' H→Q σ' H
noncomputable def tGs (X : Cx) (g : GE) (m m' : List Md) (ft : FTs) : TGs := fun vs σ H Q => ∃ r G ds,SI X g m r G σ H∧RGs X.K G vs ds∧∃ r',ft ds r = some r'∧∀ σ',SI X g m' r' G σ' H→Q σ' H
theorem PG.imp {X : Cx} {e : Expr} {t t' : TG} (h : PG X e t) (i : ∀ v σ H Q,t' v σ H Q→t v σ H Q) : PG X e t' := fun pins s σ H v u Q I r q => h pins s σ H v u Q I r (i v σ H Q q)
theorem PGs.imp {X : Cx} {e : List Expr} {t t' : TGs} (h : PGs X e t) (i : ∀ v σ H Q,t' v σ H Q→t v σ H Q) : PGs X e t' := fun pins s σ H v u Q I r q => h pins s σ H v u Q I r (i v σ H Q q)
noncomputable def SG (X : Cx) (g : GE) (m : List Md) (tg : Expr) (ft : FT) (m' : List Md) : Prop := m'.length = m.length∧PG X tg (tG X g m m' ft)
structure SGs (X : Cx) (g : GE) (m : List Md) (ts : List Expr) (n : Nat) (ft : FTs) (m' : List Md) : Prop where
  ml : m'.length = m.length
  ln : ∀ ds r r',ft ds r = some r'→ds.length = n
  pg : PGs X ts (tGs X g m m' ft)
noncomputable def ftN (i : Nat) : FT := fun d r => some (r.set i (some d))
noncomputable def ftT (ft : FTs) : FT := fun d r => match d with
  | .tup ds => ft ds r
  | .lst ds => ft ds r
  | _ => none
noncomputable def zc4 : FTs := fun ds r => match ds with
  | [] => some r
  | _ => none
noncomputable def zaE (ft : FT) (fts : FTs) : FTs := fun ds r => match ds with
  | [] => none
  | d::ds => (ft d r).bind fun r' => fts ds r'
section
variable {X : Cx} {g : GE} {m m' m1 : List Md} {tg : Expr} {ts : List Expr} {ft : FT} {fts : FTs} {pos : Pos} {n : Nat}
theorem zaA (i : Nat) {x : Str} (hN : X.N.Nodup) (hi : X.N[i]? = some x) (hx : Loc X.env.scope x) (hf : X.fn x = true∨X.env.scope.names.lookup x = some .local := by first | exact .inl rfl | exact .inr rfl | assumption) :
    SG X g m (.Name x pos) (ftN i) (m.set i .sh) :=
  ⟨by simp,PG.imp (zkI hN hi hx hf) fun v σ H Q ⟨r,G,d,si,rv,r',e,k⟩ => by cases e; exact k _ (si.set i rv)⟩
theorem zhf : SGs X g m [] 0 zc4 m := by
  refine ⟨rfl,fun ds r r' e => ?_,PGs.imp zkH fun v σ H Q ⟨r,G,ds,si,rv,r',e,k⟩ => ?_⟩
  · cases ds with
    | nil => rfl
    | cons _ _ => cases e
  · cases rv with
    | nil => cases e; exact ⟨rfl,k σ si⟩
    | cons _ _ => cases e
theorem zcj (h1 : SG X g m tg ft m1) (h2 : SGs X g m1 ts n fts m') (hs : (assignEach (tg::ts) X.env).map (·.2) = assign tg X.env::(assignEach ts X.env).map (·.2) := by rfl) : SGs X g m (tg::ts) (n + 1) (zaE ft fts) m' := by
  refine ⟨h2.ml.trans h1.1,fun ds r r' e => ?_,PGs.imp (zi9 h1.2 h2.pg hs) fun v σ H Q ⟨r,G,ds,si,rv,r',e,k⟩ => ?_⟩
  · cases ds with
    | nil => cases e
    | cons d ds =>
      have e' : ((ft d r).bind fun r' => fts ds r') = some r' := e
      cases q : ft d r with
      | none => rw [q] at e'; cases e'
      | some r1 =>
        rw [q] at e'
        have := h2.ln ds r1 r' e'
        simp [this]
  · cases rv with
    | nil => cases e
    | @cons v0 d vs ds rv rs =>
      have e' : ((ft d r).bind fun r' => fts ds r') = some r' := e
      cases q : ft d r with
      | none => rw [q] at e'; cases e'
      | some r1 =>
        rw [q] at e'
        exact ⟨_,_,rfl,r,G,d,si,rv,r1,q,fun σ' si' => ⟨r1,G,ds,si',rs,r',e',k⟩⟩
theorem zml {k : Nat} {t : TGs} (hc : X.calm = true) (h : PGs X ts t) (hn : (assignEach ts X.env).length = n) (hst : (assignEach ts X.env).findIdx? (·.1) = none) :
    PG X (.Tuple ts k pos) (fun v σ H Q => ∃ a xs,v = .ref a∧SqL X.K H a xs∧xs.length = n∧t xs σ H Q) := by
  intro pins s σ H v u Q I r hw
  obtain ⟨a,xs,e1,hq,hl,hw⟩ := hw
  subst e1
  cases r
  obtain ⟨its,rv,⟨o,nn,l1,l2,l3,l4⟩,hz⟩ := I.list hq
  rw [PyProof.Rows.assign_Tuple]
  refine wpAny_bind (wpAny_standAt ?_)
  unfold unpack
  rw [hst,show (assignEach ts X.env).length = its.toArray.size by simp [hn,← hl,rv.length]]
  refine wpAny_bind (wpAny_holding (PySem.W.kun_itemsOf (I.ok.hd hc) ⟨o,l1,l2,nn,l4⟩ fun h' hx => ?_))
  have I1 : Inv X pins σ H { s with heap := h' } := I.kept (t' := s.toks) fun b o e => hx b o (Nat.ne_of_lt (Heap.lt_size e)) e
  exact h pins _ σ H xs _ Q I1 (by simpa using rv) hw
theorem PG.or {e : Expr} {t t' : TG} (h : PG X e t) (h' : PG X e t') : PG X e (fun v σ H Q => t v σ H Q∨t' v σ H Q) := fun pins s σ H v u Q I r q => q.elim (h pins s σ H v u Q I r) (h' pins s σ H v u Q I r)
theorem zhe {k : Nat} (hc : X.calm = true) (h : SGs X g m ts n fts m') (hn : (assignEach ts X.env).length = n := by rfl) (hst : (assignEach ts X.env).findIdx? (·.1) = none := by rfl) : SG X g m (.Tuple ts k pos) (ftT fts) m' := by
  refine ⟨h.ml,PG.imp (PG.or (zmm hc h.pg hn hst) (zml hc h.pg hn hst)) fun v σ H Q ⟨r,G,d,si,rv,r',e,k⟩ => ?_⟩
  cases d with
  | tup ds =>
    obtain ⟨a,xs,rfl,s,rs⟩ := rv.tup si.gok
    exact .inl ⟨a,xs,rfl,s,(Paired.length rs).trans (h.ln ds r r' e),r,G,ds,si,rs,r',e,k⟩
  | lst ds =>
    obtain ⟨a,xs,rfl,s,rs⟩ := rv.lst si.gok
    exact .inr ⟨a,xs,rfl,s,(Paired.length rs).trans (h.ln ds r r' e),r,G,ds,si,rs,r',e,k⟩
  | _ => cases e
end
structure Yields (K : PySem.W.Frag) (J : It) (ds : List D) (G0 : GH) : Prop where
  go : ∀ G H (i : Nat),Gle G0 G→GOk K G H→i < ds.length→J.go i H
  yld : ∀ G H (i : Nat) x H' d,Gle G0 G→GOk K G H→J.yld i H x H'→ds[i]? = some d→∃ G',Grow K G H G' H'∧RG K G' x d
  stop : ∀ G H,Gle G0 G→GOk K G H→J.stop ds.length H
noncomputable abbrev FI := Rho→Res (List D)
noncomputable def tI (X : Cx) (g : GE) (m : List Md) (f : FI) : TI := fun σ H R => ∃ r G,SI X g m r G σ H∧fin (f r) (fun ds => ∀ J G' H',Grow X.K G H G' H'→Yields X.K J ds G'→R J H') (XW X σ G H)
noncomputable def SIt (X : Cx) (g : GE) (m : List Md) (tg iter : Expr) (f : FI) : Prop := PI X tg iter (tI X g m f)
theorem PI.imp {X : Cx} {tg e : Expr} {t t' : TI} (h : PI X tg e t) (i : ∀ σ H Q,t' σ H Q→t σ H Q) : PI X tg e t' := fun pins s σ H R I q => h pins s σ H R I (i σ H R q)
theorem zhm {K : PySem.W.Frag} {a : Addr} {ds : List D} {G0 : GH} (h0 : RG K G0 (.ref a) (.lst ds)) : Yields K (Itl K a) ds G0 := by
  have at_ : ∀ G H,Gle G0 G→GOk K G H→∃ xs,SqL K H a xs∧RGs K G xs ds := fun G H w gk => by
    obtain ⟨b,xs,e,s,r⟩ := (h0.mono w).lst gk
    cases e
    exact ⟨xs,s,r⟩
  refine ⟨fun G H i w gk hi => ?_,fun G H i x H' d w gk y e => ?_,fun G H w gk => ?_⟩
  · obtain ⟨xs,s,r⟩ := at_ G H w gk
    have hl := Paired.length r
    exact ⟨xs,xs[i],s,List.getElem?_eq_getElem (by omega)⟩
  · obtain ⟨xs,s,r⟩ := at_ G H w gk
    obtain ⟨rfl,y⟩ := y
    obtain ⟨v,e1,rv⟩ := Paired.get r e
    have := y xs s
    rw [e1] at this; cases this
    exact ⟨G,Grow.refl gk,rv⟩
  · obtain ⟨xs,s,r⟩ := at_ G H w gk
    exact ⟨xs,s,Nat.le_of_eq (Paired.length r)⟩
theorem zjR {K : PySem.W.Frag} {a : Addr} {ds : List D} {G0 : GH} (h0 : RG K G0 (.ref a) (.tup ds)) : Yields K (Itt K a) ds G0 := by
  have at_ : ∀ G H,Gle G0 G→GOk K G H→∃ xs,SqT K H a xs∧RGs K G xs ds := fun G H w gk => by
    obtain ⟨b,xs,e,s,r⟩ := (h0.mono w).tup gk
    cases e
    exact ⟨xs,s,r⟩
  refine ⟨fun G H i w gk hi => ?_,fun G H i x H' d w gk y e => ?_,fun G H w gk => ?_⟩
  · obtain ⟨xs,s,r⟩ := at_ G H w gk
    have hl := Paired.length r
    exact ⟨xs,xs[i],s,List.getElem?_eq_getElem (by omega)⟩
  · obtain ⟨xs,s,r⟩ := at_ G H w gk
    obtain ⟨rfl,y⟩ := y
    obtain ⟨v,e1,rv⟩ := Paired.get r e
    have := y xs s
    rw [e1] at this; cases this
    exact ⟨G,Grow.refl gk,rv⟩
  · obtain ⟨xs,s,r⟩ := at_ G H w gk
    exact ⟨xs,s,Nat.le_of_eq (Paired.length r)⟩
noncomputable def rngD (lo : Int) (n : Nat) : List D := (List.range n).map fun (i : Nat) => D.int (lo + (i : Int))
theorem zlx {K : PySem.W.Frag} {lo : Int} {n : Nat} {G0 : GH} : Yields K (Itr lo n) (rngD lo n) G0 := by
  have hl : (rngD lo n).length = n := by simp [rngD]
  refine ⟨fun G H i w gk hi => (by rw [hl] at hi; exact hi),fun G H i x H' d w gk y e => ?_,fun G H w gk => (by rw [hl]; exact Nat.le_refl _)⟩
  obtain ⟨rfl,rfl⟩ := y
  have hi : i < n := by
    have := (List.getElem?_eq_some_iff.mp e).1
    rw [hl] at this; exact this
  unfold rngD at e
  rw [List.getElem?_map,List.getElem?_range hi] at e
  cases e
  exact ⟨G,Grow.refl gk,.scl (.int _)⟩
noncomputable def za2 : D→Option (List D)
  | .lst ds => some ds
  | .tup ds => some ds
  | _ => none
section
variable {X : Cx} {g : GE} {m m' m1 mb : List Md} {tg e a b c iter : Expr} {f fa fb : FE} {p : FQ} {pos pos' : Pos} {ro : Bool} {fl : Rho → Res (List D)} {sts : List Stmt} {s1 : FS}
noncomputable def fSeq (k : D→Option (List D)) (f : FE) : FI := fun r => (f r).bind fun d => opt (k d)
theorem zj1 {l : Expr} {tl : TE} (hl : PE X l tl) : PI X tg l (fun σ H R => tl σ H fun x H1 => (∃ a,x = .ref a∧(∃ xs,SqL X.K H1 a xs)∧R (Itl X.K a) H1)∨∃ a,x = .ref a∧(∃ xs,SqT X.K H1 a xs)∧R (Itt X.K a) H1) := by
  intro pins s σ H R I h
  refine thn (hl pins s σ H _ I h) fun v s1 ⟨x,H1,I1,r1,q1⟩ => ?_
  rcases q1 with ⟨a,e,⟨xs,hq⟩,q⟩ | ⟨a,e,⟨xs,hq⟩,q⟩
  · subst e
    cases r1
    obtain ⟨its,rv,p,hz⟩ := I1.list hq
    refine wpAny_pyIter_list p.isList ?_
    refine ⟨s1.heap.objs.size,[s1.heap.objs.size],_,_,H1,rfl,I1.kept (t' := s1.toks) fun b o e => Heap.get?_push_of_some _ e,zhq a _,⟨_,Heap.get?_push_size _ rfl,rfl,rfl⟩,fun b hb => ?_,q⟩
    have e : b = s1.heap.objs.size := by simpa using hb
    subst e
    exact I1.fpOk (Nat.le_refl _) (I1.hok.fresh (Nat.le_refl _))
  · subst e
    cases r1
    obtain ⟨its,rv,p,hz⟩ := I1.tuple hq
    refine wpAny_pyIter_tuple (show s1.heap.IsTuple a its.toArray from p) ?_
    refine ⟨s1.heap.objs.size,[s1.heap.objs.size],_,_,H1,rfl,I1.kept (t' := s1.toks) fun b o e => Heap.get?_push_of_some _ e,zgQ a _,⟨_,Heap.get?_push_size _ rfl,rfl,rfl⟩,fun b hb => ?_,q⟩
    have e : b = s1.heap.objs.size := by simpa using hb
    subst e
    exact I1.fpOk (Nat.le_refl _) (I1.hok.fresh (Nat.le_refl _))
theorem zm6 (h : SE X g m e f) : SIt X g m tg e (fSeq za2 f) := by
  refine PI.imp (zj1 h) fun σ H R ⟨r,G,si,q⟩ => ⟨r,G,si,zae (zad q) fun d q v G' H' w rv => ?_⟩
  obtain ⟨ds,e,q⟩ := zat q
  cases d with
  | lst ds' =>
    cases e
    obtain ⟨a,xs,rfl,s,rs⟩ := rv.lst w.ok
    exact .inl ⟨a,rfl,⟨xs,s⟩,q _ G' H' w (zhm rv)⟩
  | tup ds' =>
    cases e
    obtain ⟨a,xs,rfl,s,rs⟩ := rv.tup w.ok
    exact .inr ⟨a,rfl,⟨xs,s⟩,q _ G' H' w (zjR rv)⟩
  | _ => cases e
structure YieldsC (K : PySem.W.Frag) (J : It) (ds : List D) (G0 : GH) (H0 : Hp) : Prop where
  go : ∀ G H (i : Nat),Grow K G0 H0 G H→i < ds.length→J.go i H
  yld : ∀ G H (i : Nat) x H' d,Grow K G0 H0 G H→J.yld i H x H'→ds[i]? = some d→∃ G',Grow K G H G' H'∧RG K G' x d
  stop : ∀ G H,Grow K G0 H0 G H→J.stop ds.length H
theorem Yields.toC {K : PySem.W.Frag} {J : It} {ds : List D} {G0 : GH} {H0 : Hp} (y : Yields K J ds G0) : YieldsC K J ds G0 H0 :=
  ⟨fun G H i w hi => y.go G H i w.ge w.ok hi,fun G H i x H' d w q e => y.yld G H i x H' d w.ge w.ok q e,fun G H w => y.stop G H w.ge w.ok⟩
noncomputable def tIC (X : Cx) (g : GE) (m : List Md) (f : FI) : TI := fun σ H R => ∃ r G,SI X g m r G σ H∧fin (f r) (fun ds => ∀ J G' H',Grow X.K G H G' H'→YieldsC X.K J ds G' H'→R J H') (XW X σ G H)
noncomputable def SItC (X : Cx) (g : GE) (m : List Md) (tg iter : Expr) (f : FI) : Prop := PI X tg iter (tIC X g m f)
theorem SIt.toC {fi : FI} (h : SIt X g m tg iter fi) : SItC X g m tg iter fi := PI.imp h fun σ H R ⟨r,G,si,q⟩ => ⟨r,G,si,zae q fun ds k J G' H' w y => k J G' H' w y.toC⟩
theorem zly {K : PySem.W.Frag} {a : Addr} {ds : List D} {G0 : GH} {H0 : Hp} (o : Own K G0 H0 a (.lst ds)) : YieldsC K (Itl K a) ds G0 H0 := by
  have at_ : ∀ G H,Grow K G0 H0 G H→∃ xs,SqL K H a xs∧RGs K G xs ds := fun G H w => by
    cases (o.mono w).ob with
    | lst r s => exact ⟨_,SqL.of r,s⟩
  refine ⟨fun G H i w hi => ?_,fun G H i x H' d w y e => ?_,fun G H w => ?_⟩
  · obtain ⟨xs,s,r⟩ := at_ G H w
    have hl := Paired.length r
    exact ⟨xs,xs[i],s,List.getElem?_eq_getElem (by omega)⟩
  · obtain ⟨xs,s,r⟩ := at_ G H w
    obtain ⟨rfl,y⟩ := y
    obtain ⟨v,e1,rv⟩ := Paired.get r e
    have := y xs s
    rw [e1] at this; cases this
    exact ⟨G,Grow.refl w.ok,rv⟩
  · obtain ⟨xs,s,r⟩ := at_ G H w
    exact ⟨xs,s,Nat.le_of_eq (Paired.length r)⟩
theorem zco (h : SB X g m e f) : SItC X g m tg e (fSeq za2 f) := by
  refine PI.imp (zj1 h) fun σ H R ⟨r,G,si,q⟩ => ⟨r,G,si,zae (zad q) fun d q v G' H' w rv => ?_⟩
  obtain ⟨ds,e,q⟩ := zat q
  cases d with
  | lst ds' =>
    cases e
    rcases rv with rv | ⟨a,rfl,o⟩
    · obtain ⟨a,xs,rfl,s,rs⟩ := rv.lst w.ok
      exact .inl ⟨a,rfl,⟨xs,s⟩,q _ G' H' w (zhm rv).toC⟩
    · cases o.ob with
      | lst r s => exact .inl ⟨a,rfl,⟨_,SqL.of r⟩,q _ G' H' w (zly o)⟩
  | tup ds' =>
    cases e
    rcases rv with rv | ⟨a,rfl,o⟩
    · obtain ⟨a,xs,rfl,s,rs⟩ := rv.tup w.ok
      exact .inr ⟨a,rfl,⟨xs,s⟩,q _ G' H' w (zjR rv).toC⟩
    · cases o.ob
  | _ => cases e
noncomputable def rng1 : List D→Option (List D)
  | [.int j] => if -(2 ^ 62)≤j∧j < 2 ^ 62 then some (rngD 0 j.toNat) else none
  | _ => none
noncomputable def fRng (k : List D→Option (List D)) (fl : Rho→Res (List D)) : FI := fun r => (fl r).bind fun ds => opt (k ds)
theorem ze7 {pn : Pos} (hg : Gl X "range") (hm : X.mg "range" = none) (ha : SAB X g m [a] fl) (hs : starEach [a] X.env = [(false,eval a X.env)] := by rfl) : SIt X g m tg (.Call (.Name "range" pn) [a] [] pos) (fRng rng1 fl) := by
  refine PI.imp (zhP hg hm ha hs) fun σ H R ⟨r,G,si,q⟩ => ⟨r,G,si,zae (zad q) fun ds q vs G' H' w rs => ?_⟩
  obtain ⟨zs,e,q⟩ := zat q
  unfold rng1 at e
  split at e
  · split at e
    · rename_i j hj
      cases e
      cases rs with
      | cons r1 t => cases t; exact ⟨j,by rw [r1.int w.ok],hj.1,hj.2,q _ G' H' w zlx⟩
    · cases e
  · cases e
noncomputable def forF (ft : FT) (body : FS) : List D→FS
  | [],r => .nx r
  | d::ds,r => match ft d r with
    | none => .stuck
    | some r1 => match body r1 with
      | .nx r' => forF ft body ds r'
      | .ct r' => forF ft body ds r'
      | .bk r' => .nx r'
      | o => o
noncomputable def zcC (m : List Md) (fi : FI) (ft : FT) (body : FS) : FS := fun r => onE m r (fi r) fun ds => forF ft body ds r
theorem zf0 (hp : PassesOwn (model X.prog X.w) X.A X.env X.xe) (hc : X.calm = true) {ft : FT} {fi : FI} (hi : SIt X g m tg iter fi) (hg : SG X g m tg ft m) (hb : SSs X g ro m m sts s1 m)
    (hs : ∀ x,foldedSetIterable iter X.env x = pure x := by intro _; rfl) : SS X g ro mb m (.For tg iter sts [] pos) (zcC m fi ft s1) m := by
  refine ⟨rfl,PS.imp (zhM hp hc hi hg.2 hb.2 hs) fun D σ H ⟨r,G,si,q⟩ => ⟨r,G,si,zae (zbh si rfl q) fun ds q J G0 H0 w0 Y => ?_⟩⟩
  refine ⟨fun i n σ H => ∃ r G,SI X g m r G σ H∧Gle G0 G∧i≤ds.length∧n = ds.length - i∧oTo X g ro m mb G D (forF ft s1 (ds.drop i) r),⟨ds.length,r,G0,si.grow w0,Gle.refl G0,Nat.zero_le _,rfl,oTo.gle q w0.ge⟩,?_⟩
  rintro i n σ1 H1 ⟨r1,G1,si1,le1,hi,rfl,q1⟩
  by_cases hlt : i < ds.length
  · have hd : ds.drop i = ds[i]::ds.drop (i + 1) := List.drop_eq_getElem_cons hlt
    rw [hd] at q1
    unfold forF at q1
    refine .inr ⟨Y.go G1 H1 i le1 si1.gok hlt,fun σ' H' => ∃ r G,SI X g m r G σ' H'∧Gle G0 G∧oTo X g ro m mb G D (forF ft s1 (ds.drop (i + 1)) r),fun σ' H' ⟨r',G',si',le',q'⟩ => ⟨ds.length - (i + 1),by omega,r',G',si',le',hlt,rfl,q'⟩,fun x H' y => ?_⟩
    obtain ⟨G',w',rv⟩ := Y.yld G1 H1 i x H' ds[i] le1 si1.gok y (List.getElem?_eq_getElem hlt)
    have le' : Gle G0 G' := le1.trans w'.ge
    cases eft : ft ds[i] r1 with
    | none => simp only [eft] at q1; exact q1.elim
    | some r2 =>
      simp only [eft] at q1
      refine ⟨r1,G',ds[i],si1.grow w',rv,r2,eft,fun σ2 si2 => ⟨r2,G',si2,?_⟩⟩
      cases eb : s1 r2 with
      | nx r' => simp only [eb] at q1; exact fun σ3 G3 H3 le3 si3 => ⟨r',G3,si3,le'.trans le3,oTo.gle q1 (Gle.trans w'.ge le3)⟩
      | ct r' => simp only [eb] at q1; exact fun σ3 G3 H3 le3 si3 => ⟨r',G3,si3,le'.trans le3,oTo.gle q1 (Gle.trans w'.ge le3)⟩
      | bk r' => simp only [eb] at q1; exact fun σ3 G3 H3 le3 si3 => q1 σ3 G3 H3 (Gle.trans w'.ge le3) si3
      | rt d => simp only [eb] at q1; exact q1
      | exc x r' => simp only [eb] at q1; exact fun pins e s' σ3 G3 H3 le3 => q1 pins e s' σ3 G3 H3 (Gle.trans w'.ge le3)
      | stuck => simp only [eb] at q1; exact q1
  · have e : i = ds.length := by omega
    subst e
    rw [List.drop_length] at q1
    exact .inl ⟨Y.stop G1 H1 le1 si1.gok,q1 σ1 G1 H1 (Gle.refl _) si1⟩
noncomputable def za1 (m : List Md) : List Md := m.map fun x => if x = Md.sh then Md.sh else Md.bw
noncomputable def zf7 (m : List Md) (r : Rho) (st : L2.St) (G : GH) (H : Hp) : GE := ⟨G,H,fun i => if m[i]? = some Md.ow∨m[i]? = some Md.bw then some ((st[i]?).join,(r[i]?).join) else none⟩
theorem zcn {m : List Md} {i : Nat} {x : Md} (h : m[i]? = some x) : (za1 m)[i]? = some (if x = Md.sh then Md.sh else Md.bw) := by
  unfold za1; rw [List.getElem?_map,h]; rfl
theorem zjk {m : List Md} {i : Nat} (h : (za1 m)[i]? = some Md.sh) : m[i]? = some Md.sh := by
  cases q : m[i]? with
  | none => unfold za1 at h; rw [List.getElem?_map,q] at h; cases h
  | some x =>
    rw [zcn q] at h
    cases x <;> first | rfl | (simp at h)
theorem zgD {m : List Md} {i : Nat} (h : (za1 m)[i]? = some Md.ow) : False := by
  cases q : m[i]? with
  | none => unfold za1 at h; rw [List.getElem?_map,q] at h; cases h
  | some x =>
    rw [zcn q] at h
    cases x <;> simp at h
theorem lockM_bw {m : List Md} {i : Nat} (h : (za1 m)[i]? = some Md.bw) : m[i]? = some Md.ow∨m[i]? = some Md.bw := by
  cases q : m[i]? with
  | none => unfold za1 at h; rw [List.getElem?_map,q] at h; cases h
  | some x =>
    rw [zcn q] at h
    cases x with
    | sh => simp at h
    | ow => exact .inl rfl
    | bw => exact .inr rfl
theorem SI.lock {r : Rho} {G : GH} {st : L2.St} {H : Hp} (s : SI X g m r G st H) : SI X (zf7 m r st G H) (za1 m) r G st H where
  gok := s.gok
  old := fun _ _ e => e
  ge := fun _ _ e => e
  gf := fun _ _ => rfl
  lm := by unfold za1; rw [List.length_map]; exact s.lm
  lr := s.lr
  sh := fun i d h hm => s.sh i d h (zjk hm)
  ow := fun i d h hm => (zgD hm).elim
  bw := fun i d h hm => by
    rcases lockM_bw hm with z | z
    · obtain ⟨a,h1,h2,_⟩ := s.ow i d h z
      exact ⟨_,h1,.inr ⟨a,rfl,h2,h2.ob.isS⟩⟩
    · obtain ⟨v,h1,h2⟩ := s.bw i d h z
      refine ⟨v,h1,?_⟩
      rcases h2 with h2 | ⟨a,e,h2,_⟩
      · exact .inl h2
      · exact .inr ⟨a,e,h2,h2.ob.isS⟩
  dis := fun i j a d e _ _ _ hm => (zgD hm).elim
  lk := fun i o h hm => by
    have h' : (if m[i]? = some Md.ow∨m[i]? = some Md.bw then some ((st[i]?).join,(r[i]?).join) else none) = some o := h
    rw [if_pos (lockM_bw hm)] at h'
    cases h'
    have hi : i < st.length := by
      have := (List.getElem?_eq_some_iff.mp hm).1
      unfold za1 at this
      rw [List.length_map,s.lm] at this; exact this
    refine ⟨?_,fun d hd => by rw [hd]; rfl⟩
    rw [List.getElem?_eq_getElem hi]; rfl
theorem SI.unlock {r r' : Rho} {G G' : GH} {st st' : L2.St} {H H' : Hp} (s : SI X g m r G st H) (s' : SI X (zf7 m r st G H) (za1 m) r' G' st' H') : SI X g m r' G' st' H' := by
  have w : Grow X.K G H G' H' := s'.grown
  have hlk : ∀ (i : Nat),(m[i]? = some Md.ow∨m[i]? = some Md.bw)→st'[i]? = some (st[i]?).join∧∀ d,r'[i]? = some (some d)→r[i]? = some (some d) := fun i hi => by
    have hm : (za1 m)[i]? = some Md.bw := by
      rcases hi with z | z <;> rw [zcn z] <;> simp
    obtain ⟨h1,h2⟩ := s'.lk i ((st[i]?).join,(r[i]?).join) (if_pos hi) hm
    refine ⟨h1,fun d hd => ?_⟩
    have := h2 d hd
    cases q : r[i]? with
    | none => rw [q] at this; cases this
    | some o => rw [q] at this; rw [show o = some d from this]
  have hst : ∀ (i : Nat) v,(m[i]? = some Md.ow∨m[i]? = some Md.bw)→st[i]? = some (some v)→st'[i]? = some (some v) := fun i v hi h => by
    rw [(hlk i hi).1,h]; rfl
  refine ⟨s'.gok,fun a o e => s'.old a o (s.old a o e),fun a d e => s'.ge a d (s.ge a d e),fun a h => ?_,?_,s'.lr,fun i d h hm => ?_,fun i d h hm => ?_,fun i d h hm => ?_,fun i j a d e hij h1 h2 m1 m2 q1 q2 => ?_,fun i o hi hm => ?_⟩
  · have h1 : H a≠none := by
      cases e : g.h0 a with
      | none => exact absurd e h
      | some o => rw [s.old _ _ e]; simp
    rw [w.gf a h1,s.gf a h]
  · have := s'.lm
    unfold za1 at this
    rw [List.length_map] at this; exact this
  · exact s'.sh i d h (by rw [zcn hm]; simp)
  · obtain ⟨a,h1,h2,h3⟩ := s.ow i d ((hlk i (.inl hm)).2 d h) hm
    exact ⟨a,hst i _ (.inl hm) h1,h2.mono w,h3⟩
  · obtain ⟨v,h1,h2⟩ := s.bw i d ((hlk i (.inr hm)).2 d h) hm
    exact ⟨v,hst i _ (.inr hm) h1,h2.grow w⟩
  · have e1 := (hlk i (.inl m1)).2 d h1
    have e2 := (hlk j (.inl m2)).2 e h2
    obtain ⟨b,z1,_,_⟩ := s.ow i d e1 m1
    obtain ⟨c,z2,_,_⟩ := s.ow j e e2 m2
    have y1 := hst i _ (.inl m1) z1
    have y2 := hst j _ (.inl m2) z2
    rw [q1] at y1
    rw [q2] at y2
    cases y1
    cases y2
    exact s.dis i j a d e hij e1 e2 m1 m2 z1 z2
  · obtain ⟨h1,h2⟩ := s.lk i o hi hm
    refine ⟨?_,fun d hd => h2 d ((hlk i (.inr hm)).2 d hd)⟩
    rw [(hlk i (.inr hm)).1,h1]; rfl
theorem SI.unlockX {r r' : Rho} {G G' : GH} {st st' : L2.St} {H H' : Hp} (s : SI X g m r G st H) (s' : SI X (zf7 m r st G H) (zcD (za1 m)) r' G' st' H') : SI X g (zcD m) r' G' st' H' := by
  have w : Grow X.K G H G' H' := s'.grown
  have el : zcD (za1 m) = zcD m := zc8 (by unfold za1; rw [List.length_map])
  rw [el] at s'
  have no : ∀ {i : Nat} {x : Md},(zcD m)[i]? = some x→x = Md.sh := fun {i x} h => by
    unfold zcD at h
    rw [List.getElem?_map] at h
    cases q : m[i]? with
    | none => rw [q] at h; cases h
    | some y => rw [q] at h; cases h; rfl
  refine ⟨s'.gok,fun a o e => s'.old a o (s.old a o e),fun a d e => s'.ge a d (s.ge a d e),fun a h => ?_,s'.lm,s'.lr,s'.sh,fun i d h hm => (nomatch (no hm)),fun i d h hm => (nomatch (no hm)),fun i j a d e hij h1 h2 m1 m2 => (nomatch (no m1)),fun i o hi hm => (nomatch (no hm))⟩
  have h1 : H a≠none := by
    cases e : g.h0 a with
    | none => exact absurd e h
    | some o => rw [s.old _ _ e]; simp
  rw [w.gf a h1,s.gf a h]
theorem zlX (hp : PassesOwn (model X.prog X.w) X.A X.env X.xe) (hc : X.calm = true) {ft : FT} {fi : FI} (hi : SItC X g m tg iter fi) (hg : ∀ g',SG X g' (za1 m) tg ft (za1 m)) (hb : ∀ g',SSs X g' ro (za1 m) (za1 m) sts s1 (za1 m))
    (hs : ∀ x,foldedSetIterable iter X.env x = pure x := by intro _; rfl) : SS X g ro mb m (.For tg iter sts [] pos) (zcC m fi ft s1) m := by
  have hgA : PG X tg (fun v σ H Q => ∃ g',tG X g' (za1 m) (za1 m) ft v σ H Q) := fun pins s σ H v u Q I r ⟨g',q⟩ => (hg g').2 pins s σ H v u Q I r q
  have hbA : PSs X sts (fun D σ H => ∃ g',tS X g' ro (za1 m) (za1 m) (za1 m) s1 D σ H) := fun pins s σ H D I ⟨g',q⟩ => (hb g').2 pins s σ H D I q
  refine ⟨rfl,PS.imp (zhM hp hc hi hgA hbA hs) fun D σ H ⟨r,G,si,q⟩ => ⟨r,G,si,zae (zbh si rfl q) fun ds q J G0 H0 w0 Y => ?_⟩⟩
  have si0 := si.grow w0
  refine ⟨fun i n σ1 H1 => ∃ r1 G1,SI X (zf7 m r σ G0 H0) (za1 m) r1 G1 σ1 H1∧i≤ds.length∧n = ds.length - i∧oTo X g ro m mb G1 D (forF ft s1 (ds.drop i) r1),⟨ds.length,r,G0,si0.lock,Nat.zero_le _,rfl,oTo.gle q w0.ge⟩,?_⟩
  rintro i n σ1 H1 ⟨r1,G1,si1,hi,rfl,q1⟩
  have wg : Grow X.K G0 H0 G1 H1 := si1.grown
  by_cases hlt : i < ds.length
  · have hd : ds.drop i = ds[i]::ds.drop (i + 1) := List.drop_eq_getElem_cons hlt
    rw [hd] at q1
    unfold forF at q1
    refine .inr ⟨Y.go G1 H1 i wg hlt,fun σ' H' => ∃ r' G',SI X (zf7 m r σ G0 H0) (za1 m) r' G' σ' H'∧oTo X g ro m mb G' D (forF ft s1 (ds.drop (i + 1)) r'),fun σ' H' ⟨r',G',si',q'⟩ => ⟨ds.length - (i + 1),by omega,r',G',si',hlt,rfl,q'⟩,fun x H' y => ?_⟩
    obtain ⟨G',w',rv⟩ := Y.yld G1 H1 i x H' ds[i] wg y (List.getElem?_eq_getElem hlt)
    cases eft : ft ds[i] r1 with
    | none => simp only [eft] at q1; exact q1.elim
    | some r2 =>
      simp only [eft] at q1
      refine ⟨zf7 m r σ G0 H0,r1,G',ds[i],si1.grow w',rv,r2,eft,fun σ2 si2 => ⟨zf7 m r σ G0 H0,r2,G',si2,?_⟩⟩
      cases eb : s1 r2 with
      | nx r' => simp only [eb] at q1; exact fun σ3 G3 H3 le3 si3 => ⟨r',G3,si3,oTo.gle q1 (Gle.trans w'.ge le3)⟩
      | ct r' => simp only [eb] at q1; exact fun σ3 G3 H3 le3 si3 => ⟨r',G3,si3,oTo.gle q1 (Gle.trans w'.ge le3)⟩
      | bk r' => simp only [eb] at q1; exact fun σ3 G3 H3 le3 si3 => q1 σ3 G3 H3 (Gle.trans w'.ge le3) (si0.unlock si3)
      | rt d =>
        simp only [eb] at q1
        intro v G2 H2 wr rv2
        refine q1 v G2 H2 (si0.grown.trans wr) ?_
        cases ro with
        | false => exact rv2
        | true =>
          rcases rv2 with ⟨a,e1,e2,e3⟩ | z
          · exact .inl ⟨a,e1,si0.grown.back e2,e3⟩
          · exact .inr z
      | exc x r' => simp only [eb] at q1; exact fun pins e s' σ3 G3 H3 le3 si3 => q1 pins e s' σ3 G3 H3 (Gle.trans w'.ge le3) (si0.unlockX si3)
      | stuck => simp only [eb] at q1; exact q1
  · have e : i = ds.length := by omega
    subst e
    rw [List.drop_length] at q1
    exact .inl ⟨Y.stop G1 H1 wg,q1 σ1 G1 H1 (Gle.refl _) (si0.unlock si1)⟩
end
noncomputable def noX : Res D→Res D
  | .ok d => .ok d
  | _ => .stuck
@[simp] theorem noX_ok (d : D) : noX (.ok d) = .ok d := rfl
inductive ArgsOk (K : PySem.W.Frag) (G : GH) (H : Hp) : List Md→List V→List D→Prop where
  | nil : ArgsOk K G H [] [] []
  | sh {v : V} {d : D} {ms : List Md} {vs : List V} {ds : List D} : RG K G v d→ArgsOk K G H ms vs ds→ArgsOk K G H (.sh::ms) (v::vs) (d::ds)
  | bw {v : V} {d : D} {ms : List Md} {vs : List V} {ds : List D} : RB K G H v d→ArgsOk K G H ms vs ds→ArgsOk K G H (.bw::ms) (v::vs) (d::ds)
section
variable {K : PySem.W.Frag} {G G' : GH} {H H' : Hp}
theorem ArgsOk.mono : ∀ {ms : List Md} {vs : List V} {ds : List D},ArgsOk K G H ms vs ds→Grow K G H G' H'→ArgsOk K G' H' ms vs ds
  | _,_,_,.nil,_ => .nil
  | _,_,_,.sh h t,w => .sh (h.mono w.ge) (t.mono w)
  | _,_,_,.bw h t,w => .bw (h.mono w) (t.mono w)
theorem ArgsOk.len {ms : List Md} {vs : List V} {ds : List D} (h : ArgsOk K G H ms vs ds) : vs.length = ms.length∧ds.length = ms.length := by
  induction h with
  | nil => exact ⟨rfl,rfl⟩
  | sh h t ih => exact ⟨congrArg (· + 1) ih.1,congrArg (· + 1) ih.2⟩
  | bw h t ih => exact ⟨congrArg (· + 1) ih.1,congrArg (· + 1) ih.2⟩
theorem ArgsOk.app {dvs : List V} {dds : List D} (hs : Paired Scl dvs dds) : ∀ {ms : List Md} {vs : List V} {ds : List D},ArgsOk K G H ms vs ds→ArgsOk K G H (ms++List.replicate dds.length .sh) (vs++dvs) (ds++dds)
  | _,_,_,.nil => by
    induction hs with
    | nil => exact .nil
    | cons h t ih => exact .sh (.scl h) ih
  | _,_,_,.sh h t => .sh h (t.app hs)
  | _,_,_,.bw h t => .bw h (t.app hs)
theorem ArgsOk.get : ∀ {ms : List Md} {vs : List V} {ds : List D} {i : Nat} {d : D},ArgsOk K G H ms vs ds→ds[i]? = some d→∃ v,vs[i]? = some v∧((ms[i]? = some .sh∧RG K G v d)∨(ms[i]? = some .bw∧RB K G H v d))
  | _,_,_,_,_,.nil,e => by simp at e
  | _,_,_,0,_,.sh h t,e => by simp at e; subst e; exact ⟨_,rfl,.inl ⟨rfl,h⟩⟩
  | _,_,_,0,_,.bw h t,e => by simp at e; subst e; exact ⟨_,rfl,.inr ⟨rfl,h⟩⟩
  | _,_,_,i + 1,d,.sh h t,e => by
    obtain ⟨v,h1,h2⟩ := t.get (i := i) (d := d) (by simpa using e)
    exact ⟨v,by simpa using h1,by simpa using h2⟩
  | _,_,_,i + 1,d,.bw h t,e => by
    obtain ⟨v,h1,h2⟩ := t.get (i := i) (d := d) (by simpa using e)
    exact ⟨v,by simpa using h1,by simpa using h2⟩
end
noncomputable def spM (K : PySem.W.Frag) (ro : Bool) (ms : List Md) (F : List D→Res D) : Sp := fun vs H Q _ => ∃ G ds,GOk K G H∧ArgsOk K G H ms vs ds∧fin (F ds) (fun d => ∀ v G' H',Grow K G H G' H'→RV ro K H G' H' v d→Q v H') fun _ => False
noncomputable def outR (ro : Bool) : Out→Res D
  | .nx _ => if ro = true then .stuck else .ok .non
  | .rt d => .ok d
  | .exc x _ => .exc x
  | _ => .stuck
noncomputable def zal (n : Nat) (ds : List D) : Rho := ds.map some++List.replicate (n - ds.length) none
noncomputable def zd1 (n : Nat) (ms : List Md) : List Md := ms++List.replicate (n - ms.length) .sh
section
variable {P : Program} {w : World} {K : PySem.W.Frag} {mg : Str → Option Value} {base : Heap}
theorem ziY {X : Cx} {N : List Str} {ms : List Md} {vs : List V} {ds : List D} {G : GH} {H : Hp} (gk : GOk X.K G H) (rs : ArgsOk X.K G H ms vs ds) (hn : ms.length≤N.length) : SI X ⟨G,H,fun _ => none⟩ (zd1 N.length ms) (zal N.length ds) G (L2.start N vs) H := by
  obtain ⟨l1,l2⟩ := rs.len
  have e1 : (L2.start N vs).length = N.length := by unfold L2.start; rw [List.length_append,List.length_map,List.length_replicate]; omega
  have e2 : (zal N.length ds).length = N.length := by unfold zal; rw [List.length_append,List.length_map,List.length_replicate]; omega
  have e3 : (zd1 N.length ms).length = N.length := by unfold zd1; rw [List.length_append,List.length_replicate]; omega
  have at_ : ∀ (i : Nat) d,(zal N.length ds)[i]? = some (some d)→i < ms.length∧(zd1 N.length ms)[i]? = ms[i]?∧∃ v,(L2.start N vs)[i]? = some (some v)∧((ms[i]? = some .sh∧RG X.K G v d)∨(ms[i]? = some .bw∧RB X.K G H v d)) := fun i d h => by
    unfold zal at h
    by_cases hi : i < ds.length
    · rw [List.getElem?_append_left (by simpa using hi),List.getElem?_map] at h
      have hd : ds[i]? = some d := by
        cases z : ds[i]? with
        | none => rw [z] at h; cases h
        | some d' => rw [z] at h; cases h; rfl
      obtain ⟨v,hv,rv⟩ := rs.get hd
      refine ⟨by omega,?_,v,?_,rv⟩
      · unfold zd1
        rw [List.getElem?_append_left (by omega)]
      · unfold L2.start
        rw [List.getElem?_append_left (by rw [List.length_map]; omega),List.getElem?_map,hv]
        rfl
    · rw [List.getElem?_append_right (by simpa using hi),List.getElem?_replicate] at h
      split at h <;> cases h
  refine ⟨gk,fun _ _ e => e,fun _ _ e => e,fun _ _ => rfl,by rw [e3,e1],by rw [e1,e2],fun i d h hm => ?_,fun i d h hm => ?_,fun i d h hm => ?_,fun i j a d e _ h _ hm => ?_,fun i o h => nomatch h⟩
  · obtain ⟨_,hq,v,h1,h2⟩ := at_ i d h
    rw [hq] at hm
    rcases h2 with ⟨_,h2⟩ | ⟨h3,h2⟩
    · exact ⟨v,h1,h2⟩
    · rw [hm] at h3; cases h3
  · obtain ⟨_,hq,v,h1,h2⟩ := at_ i d h
    rw [hq] at hm
    rcases h2 with ⟨h3,h2⟩ | ⟨h3,h2⟩ <;> rw [hm] at h3 <;> cases h3
  · obtain ⟨_,hq,v,h1,h2⟩ := at_ i d h
    rw [hq] at hm
    rcases h2 with ⟨h3,h2⟩ | ⟨h3,h2⟩
    · rw [hm] at h3; cases h3
    · refine ⟨v,h1,?_⟩
      rcases h2 with h2 | ⟨a,rfl,h2⟩
      · exact .inl h2
      · exact .inr ⟨a,rfl,h2,h2.ob.isS⟩
  · obtain ⟨_,hq,v,h1,h2⟩ := at_ i d h
    rw [hq] at hm
    rcases h2 with ⟨h3,h2⟩ | ⟨h3,h2⟩ <;> rw [hm] at h3 <;> cases h3
theorem zjL {X : Cx} {ro : Bool} {fs : FS} {m' : List Md} {G : GH} {H : Hp} {r : Rho} {Q : VK} (q : fin (outR ro (fs r)) (fun d => ∀ v G' H',Grow X.K G H G' H'→RV ro X.K H G' H' v d→Q v H') fun _ => False) :
    oTo X ⟨G,H,fun _ => none⟩ ro m' [] G { nx := fun _ H' => Q .non H',rt := Q } (fs r) := by
  cases e : fs r with
  | nx r' =>
    rw [e] at q
    cases ro with
    | false => exact fun σ' G' H' _ si => q .non G' H' si.grown (.scl .non)
    | true => exact q.elim
  | rt d => rw [e] at q; exact fun v G' H' wg rv => q v G' H' wg rv
  | bk r' => rw [e] at q; exact q.elim
  | ct r' => rw [e] at q; exact q.elim
  | exc x r' => rw [e] at q; exact q.elim
  | stuck => rw [e] at q; exact q
theorem zkj {x qual : Str} {st : Stmt} {f : Addr} {fd : FuncData} {N ps : List Str} {k : Nat} {ro : Bool} {ms : List Md} {fs : FS} {m' : List Md} (F : Fun K x qual st f fd) (S : FnScope N ps (zab st)) (hms : ms.length = ps.length)
    (hbody : ∀ (cdv : Value) (A : Around) (outer : List Env) (s : Shared) (H : Hp) (g : GE) (E : XK),Room k (A.deeper (envOfC qual (zab st) s.heap.objs.size f cdv)) →
      SSs (cxOf CX0 P w K mg base N qual (zab st) f cdv A outer s H E).nox g ro [] (zd1 N.length ms) (zbt st) fs m') :
    FnOk P w K mg base CX0 (k + 1) f fd ps (spM K ro ms fun ds => outR ro (fs (zal N.length ds))) := by
  refine F.ok S (fun vs H Q E ⟨G,ds,gk,rs,q⟩ => rs.len.1.trans hms) fun cdv A outer s H vs Q E hr h => ?_
  obtain ⟨G,ds,gk,rs,q⟩ := h
  have hpl : ps.length≤N.length := by have := congrArg List.length S.pre; rw [List.length_take] at this; omega
  exact ⟨_,(hbody cdv A outer s H ⟨G,H,fun _ => none⟩ E hr).2,zal N.length ds,G,ziY gk rs (by omega),zjL q⟩
end
section
variable {X : Cx} {g : GE} {m : List Md} {e : Expr} {f : FE} {es : List Expr} {fl : Rho → Res (List D)} {k : Nat} {fa : Addr} {fd : FuncData} {ps : List Str} {F : List D → Res D} {dvs : List V} {ds : List Value} {dds : List D} {x : Str} {p pos : Pos} {ms : List Md}
noncomputable def tLM (X : Cx) (g : GE) (m : List Md) (ms : List Md) (f : Rho→Res (List D)) : TA := fun σ H Q => ∃ r G,SI X g m r G σ H∧fin (f r) (fun ds => ∀ vs G' H',Grow X.K G H G' H'→ArgsOk X.K G' H' ms vs ds→Q vs H') (XW X σ G H)
noncomputable def SAM (X : Cx) (g : GE) (m : List Md) (es : List Expr) (ms : List Md) (f : Rho→Res (List D)) : Prop := PA X es (tLM X g m ms f)
theorem zaN : SAM X g m [] [] lNil := PA.imp zeI fun σ H Q ⟨r,G,si,k⟩ => k [] G H (Grow.refl si.gok) .nil
theorem m_sh (ha : SE X g m e f) (hr : SAM X g m es ms fl) (hs : starEach (e::es) X.env = (false,eval e X.env)::starEach es X.env := by rfl) : SAM X g m (e::es) (.sh::ms) (zac f fl) := by
  refine PA.imp (zbY ha hr hs) fun σ H Q ⟨r,G,si,k⟩ => ⟨r,G,si,zae (zad k) fun d k1 v G1 H1 w1 r1 => ⟨r,G1,si.grow w1,?_⟩⟩
  exact zaz (zad k1) w1 fun ds z vs G2 H2 w2 r2 => z (v::vs) G2 H2 (w1.trans w2) (.sh (r1.mono w2.ge) r2)
theorem m_bw (ha : SB X g m e f) (hr : SAM X g m es ms fl) (hs : starEach (e::es) X.env = (false,eval e X.env)::starEach es X.env := by rfl) : SAM X g m (e::es) (.bw::ms) (zac f fl) := by
  refine PA.imp (zbY ha hr hs) fun σ H Q ⟨r,G,si,k⟩ => ⟨r,G,si,zae (zad k) fun d k1 v G1 H1 w1 r1 => ⟨r,G1,si.grow w1,?_⟩⟩
  exact zaz (zad k1) w1 fun ds z vs G2 H2 w2 r2 => z (v::vs) G2 H2 (w1.trans w2) (.bw (r1.mono w2) r2)
noncomputable def zau (fl : Rho→Res (List D)) (dds : List D) (F : List D→Res D) : FE := fun r => (fl r).bind fun ds => noX (F (ds++dds))
theorem ziJ {ro : Bool} {vs : List V} {zs : List D} {G : GH} {H : Hp} {Q : VK} (gk : GOk X.K G H) (rs : ArgsOk X.K G H ms vs zs) (hsc : Paired Scl dvs dds) (q : fin (noX (F (zs++dds))) (fun d => ∀ v G' H',Grow X.K G H G' H'→RV ro X.K H G' H' v d→Q v H') fun _ => False) :
    spM X.K ro (ms++List.replicate dds.length .sh) F (vs++dvs) H Q E0 := by
  refine ⟨G,zs++dds,gk,rs.app hsc,?_⟩
  cases e : F (zs++dds) with
  | ok d => rw [e] at q; exact q
  | exc x => rw [e] at q; exact q.elim
  | stuck => rw [e] at q; exact q.elim
theorem ziu {α : Type} {r : Res α} {q : α→Prop} {x : D→Prop} (h : fin r q x) (hr : ∀ e,r≠.exc e) : fin r q fun _ => False := by
  cases r with
  | ok a => exact h
  | exc e => exact absurd rfl (hr e)
  | stuck => exact h
theorem zmL (r : Res D) (e : D) : noX r≠.exc e := by cases r <;> simp [noX]
theorem zlZ (G1 : FnOk X.prog X.w X.K X.mg X.base CX0 k fa fd ps (spM X.K false (ms++List.replicate dds.length .sh) F)) (hr : Room k X.A) (hg : Gl X x) (hm : X.mg x = some (.ref fa)) (hk : PySem.W.keepIn X.K (.ref fa) = true) (hb : zeB X.K fd ps ds) (hd : Vals dvs ds) (hsc : Paired Scl dvs dds)
    (ha : SAM X g m (e::es) ms fl) (hdb : (x == ("__debug__" : Str)) = false := by decide) (he : starEach (e::es) X.env = (false,eval e X.env)::starEach es X.env := by rfl) (hpl : (backTo pos (starEach es X.env)).any (·.1) = false := by rfl) :
    SE X g m (.Call (.Name x p) (e::es) [] pos) (zau fl dds F) := by
  refine PE.imp (zkL G1 hr hg hm hk hb hd znW ha hdb he hpl) fun σ H Q ⟨r,G,si,q⟩ => ⟨r,G,si,?_⟩
  cases ez : fl r with
  | ok zs =>
    unfold zau at q
    rw [ez] at q
    intro vs G' H' w' rs
    exact ziJ w'.ok rs hsc (zae (ziu q (zmL _)) fun d k v G2 H2 w2 rv => k v G2 H2 (w'.trans w2) rv)
  | exc x => unfold zau at q; rw [ez] at q; exact q
  | stuck => unfold zau at q; rw [ez] at q; exact q
end
end DL
end
section
namespace DL
open PySem PySem.Spec PyProof.Rows L2
theorem zjC {env : Env} : ∀ (l : List (Str × NameKind)) (cs : List (Str × Addr)),(∀ x∈l,x.2 = .free→∃ c,env.cells.lookup x.1 = some c)→(∀ x c,cs.lookup x = some c→env.cells.lookup x = some c) →
    ∃ cl,(forIn l cs (fun (x : Str × NameKind) (cs : List (Str × Addr)) => if (x.2 == NameKind.free) = true then (do let a ← cellOf env x.1; pure (ForInStep.yield ((x.1,a)::cs))) else pure (ForInStep.yield cs)) : Sem (List (Str × Addr))) = pure cl ∧
      (∀ x c,cl.lookup x = some c→env.cells.lookup x = some c)∧(∀ x,(x,NameKind.free)∈l→∃ c,cl.lookup x = some c)∧(∀ x c,cs.lookup x = some c→∃ c',cl.lookup x = some c') := by
  intro l
  induction l with
  | nil => intro cs _ h; exact ⟨cs,rfl,h,fun x hx => (by cases hx),fun x c h => ⟨c,h⟩⟩
  | cons y l ih =>
    intro cs hf hc
    obtain ⟨n,k⟩ := y
    by_cases hk : k = .free
    · subst hk
      obtain ⟨c,ec⟩ := hf (n,.free) List.mem_cons_self rfl
      have e1 : cellOf env n = pure c := by unfold cellOf; rw [ec]
      have hc' : ∀ x c',((n,c)::cs).lookup x = some c'→env.cells.lookup x = some c' := fun x c' h => by
        rw [List.lookup_cons] at h
        cases q : x == n with
        | true => rw [q] at h; cases h; rw [eq_of_beq q]; exact ec
        | false => rw [q] at h; exact hc x c' h
      obtain ⟨cl,e2,h1,h2,h3⟩ := ih ((n,c)::cs) (fun x hx => hf x (List.mem_cons_of_mem _ hx)) hc'
      refine ⟨cl,?_,h1,fun x hx => ?_,fun x c' h => ?_⟩
      · rw [← e2]
        rw [List.forIn_cons]
        show (cellOf env n >>= fun a => pure (ForInStep.yield ((n,a)::cs))) >>= _ = _
        rw [e1]
        rfl
      · rcases List.mem_cons.mp hx with z | z
        · cases z; exact h3 n c (by rw [List.lookup_cons]; simp)
        · exact h2 x z
      · cases q : x == n with
        | true => exact h3 x c (by rw [List.lookup_cons,q])
        | false => exact h3 x c' (by rw [List.lookup_cons,q]; exact h)
    · obtain ⟨cl,e2,h1,h2,h3⟩ := ih cs (fun x hx => hf x (List.mem_cons_of_mem _ hx)) hc
      have hb : (k == NameKind.free) = false := by simpa using hk
      refine ⟨cl,?_,h1,fun x hx => ?_,h3⟩
      · rw [← e2,List.forIn_cons]
        simp only [hb,Bool.false_eq_true,if_false]
        rfl
      · rcases List.mem_cons.mp hx with z | z
        · cases z; exact absurd rfl hk
        · exact h2 x z
theorem zhh {scope : Scope} {env : Env} (hf : ∀ x∈scope.names,x.2 = .free→∃ c,env.cells.lookup x.1 = some c) :
    ∃ cl,closureFor scope env = pure cl∧(∀ x c,cl.lookup x = some c→env.cells.lookup x = some c)∧(∀ x,(x,NameKind.free)∈scope.names→∃ c,cl.lookup x = some c) := by
  obtain ⟨cl,e,h1,h2,_⟩ := zjC scope.names [] hf (fun x c h => by cases h)
  refine ⟨cl,?_,h1,h2⟩
  have e0 : closureFor scope env = ((forIn scope.names ([] : List (Str × Addr)) (fun (x : Str × NameKind) (cs : List (Str × Addr)) => if (x.2 == NameKind.free) = true then (do let a ← cellOf env x.1; pure (ForInStep.yield ((x.1,a)::cs))) else pure (ForInStep.yield cs)) : Sem (List (Str × Addr))) >>= fun cs => pure cs) := rfl
  rw [e0,e]
  rfl
theorem zcJ {f : Str→NameKind→NameKind} : ∀ (l : List (Str × NameKind)) (x : Str),(l.map fun y => (y.1,f y.1 y.2)).lookup x = (l.lookup x).map (f x)
  | [],x => rfl
  | (n,k)::l,x => by
    rw [List.map_cons,List.lookup_cons,List.lookup_cons]
    cases q : x == n with
    | true => simp [eq_of_beq q]
    | false => exact zcJ l x
noncomputable def relK (env : Env) (n : Str) (k : NameKind) : NameKind := if (k == .free && env.scope.kind == .function && env.kindOf n == some .cell) = true then .cell else k
theorem zcG (scope : Scope) (env : Env) (x : Str) : (relabel scope env).names.lookup x = (scope.names.lookup x).map (relK env x) := by
  rw [← zcJ]
  unfold relabel
  congr 1
  apply List.map_congr_left
  intro y _
  obtain ⟨n,k⟩ := y
  show (if (k == NameKind.free && env.scope.kind == .function && env.kindOf n == some .cell) = true then (n,NameKind.cell) else (n,k)) = (n,relK env n k)
  unfold relK
  split <;> rfl
structure CompSc (X : Cx) (scope : Scope) (N' : List Str) (nl : Nat) (cap : List Nat) : Prop where
  kind : scope.kind = .function
  nocell : ∀ y∈scope.names,y.2≠.cell
  names : ∀ y∈scope.names,y.2 = .local→scope.names.lookup y.1 = some .local
  freeK : ∀ y∈scope.names,y.2 = .free→X.env.kindOf y.1 = some .cell∨X.env.kindOf y.1 = some .free
  len : N'.length = nl + cap.length
  capN : ∀ j,j < cap.length→∃ x,N'[nl + j]? = some x∧X.N[cap.getD j 0]? = some x∧scope.names.lookup x = some .free
noncomputable def cxC (X : Cx) (s₀ : Shared) (H₀ : Hp) (N' : List Str) (scope : Scope) (cl : List (Str × Addr)) (C : Addr) (fp : List Addr) : Cx where
  prog := X.prog
  w := X.w
  K := X.K
  mg := X.mg
  base := X.base
  A := X.A
  N := N'
  s₀ := s₀
  H₀ := H₀
  env := compEnvC scope cl C X.env
  outer := X.stack
  stack := X.stack
  ex := fp
  fn := fun _ => false
  calm := X.calm
  pn := []
  xe := fun _ _ => False
section
variable {X : Cx} {pins : List (Addr × Obj)} {σ : L2.St} {H : Hp} {s : Shared} {scope : Scope} {N' : List Str} {nl : Nat} {cap : List Nat} {cl : List (Str × Addr)} {C : Addr} {fp : List Addr}
theorem znm (I : Inv X pins σ H s) (sc : CompSc X scope N' nl cap) (h1 : ∀ x c,cl.lookup x = some c→X.env.cells.lookup x = some c) (h2 : ∀ x,(x,NameKind.free)∈scope.names→∃ c,cl.lookup x = some c)
    (hf : ∀ b∈fp,FpOk X pins H b∧b < s.heap.objs.size) (hC : s.heap.objs.size≤C) : (cxC X s H N' scope cl C fp).Ok where
  mod := I.ok.mod
  kind := sc.kind
  glob := I.ok.glob
  blt := I.ok.blt
  above := hC
  inj := fun x y c a b => I.ok.inj x y c (h1 x c a) (h1 y c b)
  has := fun x hk => by
    have hk' : (scope.names.lookup x).map (relK X.env x) = some .cell∨(scope.names.lookup x).map (relK X.env x) = some .free := by
      rw [← zcG]; exact hk
    cases e : scope.names.lookup x with
    | none => rw [e] at hk'; rcases hk' with z | z <;> cases z
    | some k =>
      have hm := PySem.mem_of_lookup e
      have kf : k = .free := by
        rw [e] at hk'
        have hk2 : relK X.env x k = .cell∨relK X.env x k = .free := by
          rcases hk' with z | z
          · exact .inl (Option.some.inj z)
          · exact .inr (Option.some.inj z)
        unfold relK at hk2
        split at hk2
        · rename_i hc
          simp only [Bool.and_eq_true,beq_iff_eq] at hc
          exact hc.1.1
        · rcases hk2 with z | z
          · exact absurd z (sc.nocell _ hm)
          · exact z
      subst kf
      exact h2 x hm
  cab := fun x c h => by cases h
  hd := I.ok.hd
  frames := I.ok.frames
  stk := .inl rfl
  exf := fun b hb => ⟨Nat.ne_of_lt (Nat.lt_of_lt_of_le (hf b hb).2 hC),fun x c e => (hf b hb).1.2.2.2.2.1 x c (h1 x c e)⟩
  bs := I.bs
  bsz := Nat.le_trans I.ok.bsz I.sz
  noex := fun b o e hb => by
    obtain ⟨_,_,_,hx,_⟩ := (hf b hb).1
    rcases hx with z | z
    · exact I.ok.noex b o e z
    · exact absurd (Nat.lt_of_lt_of_le (Heap.lt_size e) (Nat.le_trans I.ok.bsz z)) (Nat.lt_irrefl _)
  exfs := fun b hb hfs => by
    obtain ⟨_,q1,q2,_⟩ := (hf b hb).1
    rcases List.mem_cons.mp (I.stkSub b hfs) with z | z
    · exact q1 z
    · exact q2 z
  funs := I.stack
  frf := I.stkFree
end
noncomputable def zcO (ft : FT) (q : FQ) (fe : FE) (r0 : Rho) : List D→Res (List D)
  | [] => .ok []
  | d::ds => (opt (ft d r0)).bind fun r1 => (q r1).bind fun c => if c = true then (fe r1).bind fun v => (zcO ft q fe r0 ds).bind fun vs => .ok (v::vs) else zcO ft q fe r0 ds
noncomputable def capR (nl : Nat) (cap : List Nat) (r : Rho) : Rho := List.replicate nl none++cap.map fun i => r.getD i none
noncomputable def capM (nl : Nat) (cap : List Nat) (m : List Md) : List Md := List.replicate nl Md.sh++cap.map fun i => if m.getD i Md.sh = Md.sh then Md.sh else Md.bw
noncomputable def capS (nl : Nat) (cap : List Nat) (st : L2.St) : L2.St := List.replicate nl none++cap.map fun i => st.getD i none
theorem zeh {α : Type} {nl : Nat} {cap : List Nat} {u : α} {h : Nat→α} {i : Nat} (hi : nl≤i) : (List.replicate nl u++cap.map h)[i]? = (cap[i - nl]?).map h := by
  rw [List.getElem?_append_right (by simpa using hi),List.length_replicate,List.getElem?_map]
section
variable {X : Cx} {pins : List (Addr × Obj)} {σ : L2.St} {H H' : Hp} {s : Shared} {scope : Scope} {N' : List Str} {nl : Nat} {cap : List Nat} {cl : List (Str × Addr)} {C : Addr} {fp : List Addr} {g : GE} {G G' : GH} {m : List Md} {r : Rho}
theorem zoi (si : SI X g m r G σ H) (w : Grow X.K G H G' H') : SI (cxC X s H N' scope cl C fp) ⟨G,H,fun _ => none⟩ (capM nl cap m) (capR nl cap r) G' (capS nl cap σ) H' := by
  have lens : (capM nl cap m).length = nl + cap.length := by simp [capM]
  have lens2 : (capR nl cap r).length = nl + cap.length := by simp [capR]
  have lens3 : (capS nl cap σ).length = nl + cap.length := by simp [capS]
  have rget : ∀ (i : Nat) d,(capR nl cap r)[i]? = some (some d)→nl≤i∧∃ j,cap[i - nl]? = some j∧r[j]? = some (some d) := fun i d h => by
    by_cases hi : i < nl
    · unfold capR at h
      rw [List.getElem?_append_left (by simpa using hi),List.getElem?_replicate] at h
      split at h <;> cases h
    · refine ⟨by omega,?_⟩
      unfold capR at h
      rw [zeh (by omega)] at h
      cases e : cap[i - nl]? with
      | none => rw [e] at h; cases h
      | some j =>
        rw [e] at h
        refine ⟨j,rfl,?_⟩
        have h' : r.getD j none = some d := Option.some.inj h
        rw [List.getD_eq_getElem?_getD] at h'
        cases e2 : r[j]? with
        | none => rw [e2] at h'; cases h'
        | some o => rw [e2] at h'; rw [show o = some d from h']
  have mget : ∀ (i j : Nat) md,nl≤i→cap[i - nl]? = some j→(capM nl cap m)[i]? = some md→md = if m.getD j Md.sh = Md.sh then Md.sh else Md.bw := fun i j md hi hj h => by
    unfold capM at h
    rw [zeh hi,hj] at h
    exact (Option.some.inj h).symm
  have sget : ∀ (i j : Nat) v,nl≤i→cap[i - nl]? = some j→σ[j]? = some (some v)→(capS nl cap σ)[i]? = some (some v) := fun i j v hi hj h => by
    unfold capS
    rw [zeh hi,hj]
    show some (σ.getD j none) = _
    rw [List.getD_eq_getElem?_getD,h]
    rfl
  have mj : ∀ (j : Nat) d,r[j]? = some (some d)→m[j]? = some (m.getD j Md.sh) := fun j d h => by
    have hl : j < m.length := by
      have := (List.getElem?_eq_some_iff.mp h).1
      rw [si.lr,← si.lm] at this; exact this
    rw [List.getD_eq_getElem?_getD,List.getElem?_eq_getElem hl]
    rfl
  refine ⟨w.ok,w.he,w.ge,w.gf,by rw [lens,lens3],by rw [lens2,lens3],fun i d h hm => ?_,fun i d h hm => ?_,fun i d h hm => ?_,fun i j a d e _ h _ hm => ?_,fun i o h => nomatch h⟩
  · obtain ⟨hi,j,hj,hr⟩ := rget i d h
    have e := mget i j _ hi hj hm
    have hsh : m.getD j Md.sh = Md.sh := by
      by_cases z : m.getD j Md.sh = Md.sh
      · exact z
      · rw [if_neg z] at e; cases e
    obtain ⟨v,h1,h2⟩ := si.sh j d hr (by rw [mj j d hr,hsh])
    exact ⟨v,sget i j v hi hj h1,h2.mono w.ge⟩
  · obtain ⟨hi,j,hj,hr⟩ := rget i d h
    have e := mget i j _ hi hj hm
    split at e <;> cases e
  · obtain ⟨hi,j,hj,hr⟩ := rget i d h
    have e := mget i j _ hi hj hm
    have hsh : m.getD j Md.sh≠Md.sh := by
      intro z
      rw [if_pos z] at e; cases e
    have hmj := mj j d hr
    cases q : m.getD j Md.sh with
    | sh => exact absurd q hsh
    | ow =>
      rw [q] at hmj
      obtain ⟨a,h1,h2,_⟩ := si.ow j d hr hmj
      exact ⟨_,sget i j _ hi hj h1,.inr ⟨a,rfl,h2.mono w,h2.ob.isS⟩⟩
    | bw =>
      rw [q] at hmj
      obtain ⟨v,h1,h2⟩ := si.bw j d hr hmj
      refine ⟨v,sget i j _ hi hj h1,?_⟩
      rcases h2 with h2 | ⟨a,rfl,h2,_⟩
      · exact .inl (h2.mono w.ge)
      · exact .inr ⟨a,rfl,h2.mono w,h2.ob.isS⟩
  · obtain ⟨hi,j',hj,hr⟩ := rget i d h
    have e := mget i j' _ hi hj hm
    split at e <;> cases e
theorem znn (I : Inv X pins σ H s) (ok : (cxC X s H N' scope cl C fp).Ok) (sc : CompSc X scope N' nl cap) (h1 : ∀ x c,cl.lookup x = some c→X.env.cells.lookup x = some c) (h2 : ∀ x,(x,NameKind.free)∈scope.names→∃ c,cl.lookup x = some c)
    (hN : X.N.Nodup) {s4 : Shared} {H4 : Hp} {mc : Str→Option Value} (hos : s4.os = s.os) (hb : AllBare s4.gens) (kp : ∀ b o,s.heap.get? b = some o→s4.heap.get? b = some o) (hns : s4.heap.Ns C mc) (hC : s.heap.objs.size≤C) (hHC : H4 C = none)
    (hH : ∀ b,H b = none→b < s.heap.objs.size→H4 b = none) (un : Un (frs X.stack) fp H H4 s.heap s4.heap) (hok : HOk X.prog X.w H4 s4.heap) : Inv (cxC X s H N' scope cl C fp) [] (capS nl cap σ) H4 s4 := by
  refine ⟨ok,hos,hb,un,⟨mc,hns,fun i x v e1 e2 e3 => ?_⟩,fun x c e => ?_,hHC,fun x c e => ?_,fun p hp => absurd (show p∈([] : List (Addr × Obj)) from hp) (by simp),hok,?_⟩
  · have hi : nl≤i := by
      by_cases z : i < nl
      · unfold capS at e2
        rw [List.getElem?_append_left (by simpa using z),List.getElem?_replicate] at e2
        split at e2 <;> cases e2
      · omega
    unfold capS at e2
    rw [zeh hi] at e2
    cases ej : cap[i - nl]? with
    | none => rw [ej] at e2; cases e2
    | some j =>
      rw [ej] at e2
      have hj : i - nl < cap.length := (List.getElem?_eq_some_iff.mp ej).1
      obtain ⟨x',q1,q2,q3⟩ := sc.capN (i - nl) hj
      have ed : cap.getD (i - nl) 0 = j := by rw [List.getD_eq_getElem?_getD,ej]; rfl
      rw [ed] at q2
      have ei : nl + (i - nl) = i := by omega
      rw [ei] at q1
      have e1' : N'[i]? = some x := e1
      rw [q1] at e1'
      have ex : x' = x := Option.some.inj e1'
      subst ex
      have hv : σ[j]? = some (some v) := by
        have z : σ.getD j none = some v := Option.some.inj e2
        rw [List.getD_eq_getElem?_getD] at z
        cases q : σ[j]? with
        | none => rw [q] at z; cases z
        | some o => rw [q] at z; rw [show o = some v from z]
      have hfree := PySem.mem_of_lookup q3
      have kX := sc.freeK _ hfree rfl
      obtain ⟨mx,hnx,hl⟩ := I.loc
      obtain ⟨u,ru,lk⟩ := hl j x' v q2 hv (.inr kX)
      refine ⟨u,ru,.inr ?_⟩
      obtain ⟨c,ec⟩ := h2 x' hfree
      have hkk : Env.kindOf (cxC X s H N' scope cl C fp).env x' = some .cell∨Env.kindOf (cxC X s H N' scope cl C fp).env x' = some .free := by
        have z : (relabel scope X.env).names.lookup x' = some (relK X.env x' .free) := by rw [zcG,q3]; rfl
        show (relabel scope X.env).names.lookup x' = _∨(relabel scope X.env).names.lookup x' = _
        rw [z]
        unfold relK
        split
        · exact .inl rfl
        · exact .inr rfl
      refine ⟨hkk,c,ec,?_⟩
      rcases lk with ⟨k,_⟩ | ⟨_,c',ec',hcell⟩
      · rcases kX with z | z <;> rw [k] at z <;> cases z
      · rw [h1 x' c ec] at ec'
        cases ec'
        obtain ⟨o,ho,hd⟩ := hcell
        exact ⟨o,kp c o ho,hd⟩
  · obtain ⟨v,o,ho,hd⟩ := I.cell x c (h1 x c e)
    exact ⟨v,o,kp c o ho,hd⟩
  · obtain ⟨v,o,ho,hd⟩ := I.cell x c (h1 x c e)
    exact hH c (I.freeC x c (h1 x c e)) (Heap.lt_size ho)
  · show (capS nl cap σ).length = N'.length
    rw [sc.len]
    simp [capS]
end
end DL
end
section
namespace DL
open PySem PySem.Spec PyProof.Rows L2
section
variable {prog : Program} {w : World} {A : Around} {R : Result → Shared → Prop} {s : Shared}
theorem zlk {elt target iter : Expr} {ifs : List Expr} {scope : Scope} {pos : Pos} {it acc : Value} {env : Env} (I : Nat→Shared→Prop)
    (turn : ∀ n s,I n s→wpAny (model prog w) A (pyNext it) (fun r s1 => match r with
      | none => R (.ok .next) s1
      | some v => wpAny (model prog w) A (letOwnedTupleGo target it v) (fun _ s1' => wpAny (model prog w) A (assign target env v) (fun _ s2 =>
          wpAny (model prog w) A (forIn ifs true fun c r => if r = true then do let ok ← isTrue c env (eval c env); pure (ForInStep.yield ok) else pure (ForInStep.yield r)) (fun ok s3 =>
            if ok = true then wpAny (model prog w) A (eval elt env) (fun x s4 =>
              wpAny (model prog w) A (call (.builtin "list.append") [acc,x]) (fun _ s5 => ∃ m,m < n∧I m s5) (notedBy (model prog w) A env fun e s' => R (.error e) s') s4) (notedBy (model prog w) A env fun e s' => R (.error e) s') s3
            else ∃ m,m < n∧I m s3) (notedBy (model prog w) A env fun e s' => R (.error e) s') s2) (notedBy (model prog w) A env fun e s' => R (.error e) s') s1')
          (notedBy (model prog w) A env fun e s' => R (.error e) s') s1) (notedBy (model prog w) A env fun e s' => R (.error e) s') s)
    (n : Nat) (h : I n s) : codeAny (model prog w) A (.compLoop (.ListComp elt [⟨target,iter,ifs,0⟩] scope pos) 0 it acc env) R s := by
  refine codeAny_loop rfl I (fun n s hI => ?_) n h
  show wpAny _ A ((compTurn (.ListComp elt [⟨target,iter,ifs,0⟩] scope pos) 0 it acc env).onRaise (fun x => do noteFrame x env; theTreesLotGoes x)) _ _ s
  refine wpAny_noted ?_
  rw [compTurn_list]
  refine wpAny_bind (wpAny_standAt (wpAny_bind (wpAny_mono (turn n s hI) (fun r s1 h1 => ?_) fun _ _ h' => h')))
  cases r with
  | none => exact wpAny_pure h1
  | some v =>
    refine wpAny_bind (wpAny_mono h1 (fun _ s1' h1' => ?_) fun _ _ h' => h')
    refine wpAny_bind (wpAny_mono h1' (fun _ s2 h2 => wpAny_bind (wpAny_mono h2 (fun ok s3 h3 => ?_) fun _ _ h' => h')) fun _ _ h' => h')
    cases ok with
    | false => exact wpAny_pure ⟨rfl,h3⟩
    | true =>
      exact wpAny_bind (wpAny_bind (wpAny_mono h3 (fun x s4 h4 => wpAny_bind (wpAny_mono h4 (fun _ s5 h5 => wpAny_pure (wpAny_pure ⟨rfl,h5⟩)) fun _ _ h' => h')) fun _ _ h' => h'))
end
noncomputable def SQs (X : Cx) (g : GE) (m : List Md) (ifs : List Expr) (f : FQ) : Prop := ∀ (pins : List (Addr × Obj)) (s : Shared) (σ : L2.St) (H : Hp) (Q : Bool→Hp→Prop),Inv X pins σ H s→tQ X g m f σ H Q →
  wpAny (model X.prog X.w) X.A (forIn ifs true fun c r => if r = true then do let ok ← isTrue c X.env (eval c X.env); pure (ForInStep.yield ok) else pure (ForInStep.yield r)) (TP X pins σ Q) X.xe s
section
variable {X : Cx} {g : GE} {m : List Md} {c : Expr} {p : FQ}
theorem zcl : SQs X g m [] fun _ => .ok true := fun pins s σ H Q I ⟨r,G,si,q⟩ => wpAny_tests_nil ⟨H,I,q G H (Grow.refl si.gok)⟩
theorem zmd (h : SQ X g m c p) : SQs X g m [c] p := fun pins s σ H Q I q => wpAny_tests_one (h pins s σ H Q I q)
end
noncomputable def FtOk (ft : FT) (nl : Nat) : Prop := ∀ d r r1,ft d r = some r1→r1.length = r.length∧∀ i,nl≤i→r1[i]? = r[i]?
noncomputable def zjO (ft : FTs) (nl : Nat) : Prop := ∀ d r r1,ft d r = some r1→r1.length = r.length∧∀ i,nl≤i→r1[i]? = r[i]?
theorem zbP {i nl : Nat} (h : i < nl) : FtOk (ftN i) nl := fun d r r1 e => by
  cases e
  exact ⟨by simp,fun j hj => by rw [List.getElem?_set_ne (by omega)]⟩
theorem zjr {nl : Nat} : zjO zc4 nl := fun ds r r1 e => by
  cases ds with
  | nil => cases e; exact ⟨rfl,fun _ _ => rfl⟩
  | cons _ _ => cases e
theorem zfE {ft : FT} {fts : FTs} {nl : Nat} (h1 : FtOk ft nl) (h2 : zjO fts nl) : zjO (zaE ft fts) nl := fun ds r r1 e => by
  cases ds with
  | nil => cases e
  | cons d ds =>
    have e' : ((ft d r).bind fun r' => fts ds r') = some r1 := e
    cases q : ft d r with
    | none => rw [q] at e'; cases e'
    | some r2 =>
      rw [q] at e'
      obtain ⟨a1,a2⟩ := h1 d r r2 q
      obtain ⟨b1,b2⟩ := h2 ds r2 r1 e'
      exact ⟨b1.trans a1,fun i hi => (b2 i hi).trans (a2 i hi)⟩
theorem znd {fts : FTs} {nl : Nat} (h : zjO fts nl) : FtOk (ftT fts) nl := fun d r r1 e => by
  cases d with
  | tup ds => exact h ds r r1 e
  | lst ds => exact h ds r r1 e
  | _ => cases e
section
variable {X : Cx} {pins : List (Addr × Obj)} {σ : L2.St} {H2 : Hp} {s2 : Shared} {scope : Scope} {N' : List Str} {nl : Nat} {cap : List Nat} {cl : List (Str × Addr)} {fp : List Addr} {g : GE} {G2 : GH} {m : List Md} {r : Rho} {elt tg iter : Expr} {ifs : List Expr} {pos : Pos}
  {J : It} {it : Addr} {tn : Nat→Heap→Prop} {ds vs : List D} {ft : FT} {q : FQ} {fe : FE} {E : Value→Shared→Prop}
theorem zlm (i : Nat) : (capM nl cap m)[i]?≠some Md.ow := fun h => by
  by_cases hi : i < nl
  · unfold capM at h
    rw [List.getElem?_append_left (by simpa using hi),List.getElem?_replicate] at h
    split at h <;> cases h
  · unfold capM at h
    rw [zeh (by omega)] at h
    cases e : cap[i - nl]? with
    | none => rw [e] at h; cases h
    | some j =>
      rw [e] at h
      have h' : (if m.getD j Md.sh = Md.sh then Md.sh else Md.bw) = Md.ow := Option.some.inj h
      split at h' <;> cases h'
theorem ziG {i : Nat} (hi : i < nl) (d : D) : (capR nl cap r)[i]?≠some (some d) := fun h => by
  unfold capR at h
  rw [List.getElem?_append_left (by simpa using hi),List.getElem?_replicate] at h
  split at h <;> cases h
theorem zfK (hN : X.N.Nodup) (hcalm : X.calm = true) (sc : CompSc X scope N' nl cap) (h1 : ∀ x c,cl.lookup x = some c→X.env.cells.lookup x = some c) (h2 : ∀ x,(x,NameKind.free)∈scope.names→∃ c,cl.lookup x = some c)
    (I2 : Inv X pins σ H2 s2) (si : SI X g m r G2 σ H2) (T : Turn X.prog X.w X.K tg J fp it tn) (st : tn 0 s2.heap) (hf : ∀ b∈fp,FpOk X pins H2 b) (Y : YieldsC X.K J ds G2 H2) (hsz : ds.length≤sizeLine)
    (hg : ∀ C,SG (cxC X s2 H2 N' scope cl C fp) ⟨G2,H2,fun _ => none⟩ (capM nl cap m) tg ft (capM nl cap m)) (hft : FtOk ft nl) (hq : ∀ C,SQs (cxC X s2 H2 N' scope cl C fp) ⟨G2,H2,fun _ => none⟩ (capM nl cap m) ifs q) (he : ∀ C,SE (cxC X s2 H2 N' scope cl C fp) ⟨G2,H2,fun _ => none⟩ (capM nl cap m) elt fe)
    (hres : zcO ft q fe (capR nl cap r) ds = .ok vs) {RR : Value→Addr→Result→Shared→Prop}
    (hRR : ∀ (p C : Addr) (s' : Shared) (H' : Hp) (G' : GH),Inv X pins σ H' s'→(∃ mm,s'.heap.Ns C mm)→H' C = none→C≠X.env.locals→X.s₀.heap.objs.size≤C→(∀ x c,X.env.cells.lookup x = some c→c≠C)→(∀ z∈X.pn++pins,z.1≠C) →
      Grow X.K G2 H2 G' H'→H2 p = none→Own X.K G' H' p (.lst vs)→RR (.ref p) C (.ok .next) s') :
    wpAny (model X.prog X.w) X.A (newList []) (fun acc s3 => wpAny (model X.prog X.w) X.A (newFunctionEnv scope X.env.globals cl [] X.env.qual none .none (some X.env)) (fun cenv s4 =>
      codeAny (model X.prog X.w) X.A (.compStart (.ListComp elt [⟨tg,iter,ifs,0⟩] scope pos) 0 (.ref it) acc { cenv with scope := relabel scope X.env }) (RR acc cenv.locals) s4) E s3) E s2 := by
  refine wpAny_newObj_type (wpAny_newFunctionEnv sc.nocell (by intro y hy; simp at hy) (fun h₁ hns₁ hsb₁ => ?_) sc.kind)
  dsimp only at hns₁ hsb₁ ⊢
  generalize hH2 : s2.heap.push { cls := .type "list",dict := none,data := .seq ([] : List Value).toArray } = HH at hns₁ hsb₁ ⊢
  have hC : HH.objs.size = s2.heap.objs.size + 1 := by rw [← hH2,Heap.size_push]
  have hDC : s2.heap.objs.size≠HH.objs.size := by rw [hC]; exact Nat.ne_of_lt (Nat.lt_succ_self _)
  have hCle : s2.heap.objs.size≤HH.objs.size := by rw [hC]; exact Nat.le_succ _
  have below : ∀ b,b < s2.heap.objs.size→b≠HH.objs.size∧b≠s2.heap.objs.size := fun b hb => ⟨by rw [hC]; exact Nat.ne_of_lt (Nat.lt_succ_of_lt hb),Nat.ne_of_lt hb⟩
  have old : ∀ b o,s2.heap.get? b = some o→h₁.get? b = some o := fun b o e => hsb₁.extBut b o (below b (Heap.lt_size e)).1 (Heap.get?_push_of_some _ (hH2 ▸ Heap.get?_push_of_some _ e))
  have hacc : h₁.get? s2.heap.objs.size = some { cls := .type "list",dict := none,data := .seq ([] : List Value).toArray } := hsb₁.extBut _ _ hDC (Heap.get?_push_of_some _ (hH2 ▸ Heap.get?_push_size _ rfl))
  have hp2 : H2 s2.heap.objs.size = none := I2.hok.fresh (Nat.le_refl _)
  have hflt : ∀ b∈fp,FpOk X pins H2 b∧b < s2.heap.objs.size := fun b hb => ⟨hf b hb,by
    obtain ⟨o,e,_⟩ := T.obj 0 s2.heap st b hb
    exact Heap.lt_size e⟩
  have ok := znm (fp := fp) I2 sc h1 h2 hflt hCle
  generalize hXX : cxC X s2 H2 N' scope cl HH.objs.size fp = XX at ok
  have hG2p : G2 s2.heap.objs.size = none := si.gok.isN hp2
  have w0 : Grow X.K G2 H2 G2 (upd H2 s2.heap.objs.size (.lst [])) := Grow.new si.gok hp2 _
  have hok4 : HOk X.prog X.w (upd H2 s2.heap.objs.size (.lst [])) h₁ := I2.hok.laid old (Nat.le_refl _) ⟨Nat.zero_le _,[],0,.nil,hacc⟩
  have IC : Inv XX [] (capS nl cap σ) (upd H2 s2.heap.objs.size (.lst [])) { s2 with heap := h₁,toks := s2.toks + ([] : List (Str × Value)).length } := by
    subst hXX
    refine znn I2 ok sc h1 h2 hN rfl I2.bare old hns₁ hCle ?_ (fun b hb hlt => ?_) (Un.laid old (Nat.le_refl _) hp2) hok4
    · rw [zam (Ne.symm hDC)]; exact I2.hok.fresh hCle
    · rw [zam (below b hlt).2]; exact hb
  have SC : SI XX ⟨G2,H2,fun _ => none⟩ (capM nl cap m) (capR nl cap r) G2 (capS nl cap σ) (upd H2 s2.heap.objs.size (.lst [])) := by
    subst hXX
    exact zoi si w0
  have hst₁ : tn 0 h₁ := T.keep _ _ _ st fun b _ o e => old b o e
  have hfX : ∀ (H' : Hp),(∀ b∈fp,H' b = none)→∀ b∈fp,FpOk XX [] H' b := fun H' hn b hb => by
    clear IC SC
    subst hXX
    obtain ⟨z0,z1,z2,z3,z4,z5⟩ := hf b hb
    refine ⟨hn b hb,?_,?_,?_,?_,?_⟩
    · exact (below b (hflt b hb).2).1
    · intro hfs
      rcases List.mem_cons.mp (I2.stkSub b hfs) with z | z
      · exact z1 z
      · exact z2 z
    · exact .inl hb
    · exact fun x c e => z4 x c (h1 x c e)
    · intro p hp; exact absurd (show p∈([] : List (Addr × Obj)) from hp) (by simp)
  have eA : XX.A = X.A := Eq.rec (motive := fun z _ => z.A = X.A) rfl hXX
  have eP : XX.prog = X.prog := Eq.rec (motive := fun z _ => z.prog = X.prog) rfl hXX
  have eW : XX.w = X.w := Eq.rec (motive := fun z _ => z.w = X.w) rfl hXX
  have eK : XX.K = X.K := Eq.rec (motive := fun z _ => z.K = X.K) rfl hXX
  have eX : XX.xe = fun _ _ => False := Eq.rec (motive := fun z _ => z.xe = fun _ _ => False) rfl hXX
  have eE : XX.env = compEnvC scope cl HH.objs.size X.env := Eq.rec (motive := fun z _ => z.env = compEnvC scope cl HH.objs.size X.env) rfl hXX
  have eC : XX.calm = true := Eq.rec (motive := fun z _ => z.calm = true) hcalm hXX
  have eH : XX.H₀ = H2 := Eq.rec (motive := fun z _ => z.H₀ = H2) rfl hXX
  have hg' : PG XX tg (tG XX ⟨G2,H2,fun _ => none⟩ (capM nl cap m) (capM nl cap m) ft) := Eq.rec (motive := fun z _ => PG z tg (tG z ⟨G2,H2,fun _ => none⟩ (capM nl cap m) (capM nl cap m) ft)) (hg _).2 hXX
  have hq' : SQs XX ⟨G2,H2,fun _ => none⟩ (capM nl cap m) ifs q := Eq.rec (motive := fun z _ => SQs z ⟨G2,H2,fun _ => none⟩ (capM nl cap m) ifs q) (hq _) hXX
  have he' : SE XX ⟨G2,H2,fun _ => none⟩ (capM nl cap m) elt fe := Eq.rec (motive := fun z _ => SE z ⟨G2,H2,fun _ => none⟩ (capM nl cap m) elt fe) (he _) hXX
  have fin' : ∀ {H' : Hp} {s' : Shared} {σ' : L2.St} {G' : GH} {ws : List V},Inv XX [] σ' H' s'→Grow X.K G2 H2 G' H'→H' s2.heap.objs.size = some (.lst ws)→G' s2.heap.objs.size = none→RGs X.K G' ws vs→RR (.ref s2.heap.objs.size) HH.objs.size (.ok .next) s' := fun {H' s' σ' G' ws} J1 wg hpp hgp rs => by
    clear IC SC hfX hg' hq' he' eA eP eW eK eX eE eC eH
    subst hXX
    have un := J1.base
    refine hRR _ _ s' H' G' ?_ (let ⟨mm,hn,_⟩ := J1.loc; ⟨mm,hn⟩) J1.free (Nat.ne_of_gt (Nat.lt_of_lt_of_le I2.lt hCle)) (Nat.le_trans I2.sz hCle) (fun x c e z => ?_) (fun z hz e => ?_) wg hp2 ⟨hgp,.lst hpp rs⟩
    · refine I2.call' J1.os un J1.hok J1.bare fun b hb => ?_
      obtain ⟨z0,z1,z2,z3,z4,z5⟩ := hf b hb
      exact ⟨z3,z1,z4,z5⟩
    · obtain ⟨v,o,ho,_⟩ := I2.cell x c e
      exact absurd (Nat.lt_of_lt_of_le (Heap.lt_size ho) hCle) (by rw [z]; exact Nat.lt_irrefl _)
    · have := (I2.pin z hz).1
      exact absurd (Nat.lt_of_lt_of_le (Heap.lt_size this) hCle) (by rw [e]; exact Nat.lt_irrefl _)
  have loop : codeAny (model X.prog X.w) X.A (.compLoop (.ListComp elt [⟨tg,iter,ifs,0⟩] scope pos) 0 (.ref it) (.ref s2.heap.objs.size) (compEnvC scope cl HH.objs.size X.env)) (RR (.ref s2.heap.objs.size) HH.objs.size)
      { s2 with heap := h₁,toks := s2.toks + ([] : List (Str × Value)).length } := by
    refine zlk (fun n s' => ∃ (i : Nat) (σ' : L2.St) (H' : Hp) (G' : GH) (ws : List V) (done rest : List D),Inv XX [] σ' H' s'∧SI XX ⟨G2,H2,fun _ => none⟩ (capM nl cap m) (capR nl cap r) G' σ' H'∧tn i s'.heap∧(∀ b∈fp,H' b = none)∧Grow X.K G2 H2 G' H' ∧
        H' s2.heap.objs.size = some (.lst ws)∧G' s2.heap.objs.size = none∧RGs X.K G' ws done∧zcO ft q fe (capR nl cap r) (ds.drop i) = .ok rest∧vs = done++rest∧done.length≤i∧i≤ds.length∧n = ds.length - i) ?_ ds.length
      ⟨0,_,_,G2,[],[],vs,IC,SC,hst₁,fun b hb => ?_,w0,zar,hG2p,.nil,hres,rfl,Nat.le_refl _,Nat.zero_le _,rfl⟩
    rotate_left
    · rw [zam (below b (hflt b hb).2).2]; exact (hf b hb).1
    rintro n s3 ⟨i,σ3,H3,G3,ws,done,rest,I3,S3,st3,fr3,w3,hp3,hg3,rs3,hr3,hv3,hd3,hi3,rfl⟩
    have weaken : ∀ {α : Type} {t : Sem α} {Q : α→Shared→Prop} {s' : Shared} {E' : Value→Shared→Prop},wpAny (model XX.prog XX.w) XX.A t Q XX.xe s'→wpAny (model X.prog X.w) X.A t Q E' s' := fun h => by
      rw [eP,eW,eA,eX] at h
      exact wpAny_mono h (fun _ _ z => z) fun _ _ z => z.elim
    by_cases hlt : i < ds.length
    · have hd : ds.drop i = ds[i]::ds.drop (i + 1) := List.drop_eq_getElem_cons hlt
      rw [hd] at hr3
      unfold zcO at hr3
      have it3 := T.item XX eP eW eK eC i [] s3 σ3 H3 (notedBy (model X.prog X.w) X.A (compEnvC scope cl HH.objs.size X.env) fun e s' => RR (.ref s2.heap.objs.size) HH.objs.size (.error e) s') I3 (hfX H3 fr3) st3 (Y.go G3 H3 i w3 hlt)
      rw [eA] at it3
      refine thn it3 fun rr s4 ⟨u,hr,h4⟩ => ?_
      subst hr
      refine thn h4 fun _ s5 ⟨x,H5,I5,r5,y5,st5,fr5⟩ => ?_
      obtain ⟨G5,w5,rv5⟩ := Y.yld G3 H3 i x H5 ds[i] w3 y5 (List.getElem?_eq_getElem hlt)
      have w25 := w3.trans w5
      cases eft : ft ds[i] (capR nl cap r) with
      | none => rw [eft] at hr3; cases hr3
      | some r1 =>
        rw [eft] at hr3
        simp only [opt_some,bind_ok] at hr3
        have I5' := I5.pinned (hfX H5 fr5) (T.obj _ _ st5)
        have S5 : SI XX ⟨G2,H2,fun _ => none⟩ (capM nl cap m) (capR nl cap r) G5 σ3 H5 := S3.grow (by rw [eK]; exact w5)
        have rv5' : RG XX.K G5 x ds[i] := by rw [eK]; exact rv5
        have as5 := hg' _ s5 σ3 H5 x u (fun σ6 H6 => H6 = H5∧SI XX ⟨G2,H2,fun _ => none⟩ (capM nl cap m) r1 G5 σ6 H5) I5' r5 ⟨capR nl cap r,G5,ds[i],S5,rv5',r1,eft,fun σ6 si6 => ⟨rfl,si6⟩⟩
        rw [eE] at as5
        refine thn (weaken as5) fun _ s6 ⟨σ6,H6,I6,e6,S6⟩ => ?_
        subst e6
        obtain ⟨fl1,fl2⟩ := hft _ _ _ eft
        cases eq1 : q r1 with
        | stuck => rw [eq1] at hr3; cases hr3
        | exc xx => rw [eq1] at hr3; cases hr3
        | ok b1 =>
          rw [eq1] at hr3
          simp only [bind_ok] at hr3
          have te6 := hq' _ s6 σ6 H6 (fun b H7 => b = b1∧∃ G7,Grow X.K G5 H6 G7 H7) I6 ⟨r1,G5,S6,by rw [eq1]; exact fun G7 H7 w7 => ⟨rfl,G7,by rw [eK] at w7; exact w7⟩⟩
          rw [eE] at te6
          refine thn (weaken te6) fun b s7 ⟨H7,I7,eb,G7,w7⟩ => ?_
          subst eb
          have S7 : SI XX ⟨G2,H2,fun _ => none⟩ (capM nl cap m) r1 G7 σ6 H7 := S6.grow (by rw [eK]; exact w7)
          have w27 := w25.trans w7
          have hp7 : H7 s2.heap.objs.size = some (.lst ws) := w7.he _ _ (w5.he _ _ hp3)
          have hg7 : G7 s2.heap.objs.size = none := by
            rw [w7.gf _ (by rw [w5.he _ _ hp3]; simp),w5.gf _ (by rw [hp3]; simp)]; exact hg3
          have back : ∀ {σ8 : L2.St} {H8 : Hp} {G8 : GH} {s8 : Shared},Inv XX ([]++zfx fp s5.heap) σ8 H8 s8→Inv XX [] σ8 H8 s8∧tn (i + 1) s8.heap∧∀ b∈fp,H8 b = none := fun {σ8 H8 G8 s8} I8 => by
            refine ⟨I8.unpinned,T.keep _ _ _ st5 fun b hb o e => (I8.pin (b,o) (List.mem_append_right _ (List.mem_append_right _ (zcu hb e)))).1,fun b hb => ?_⟩
            obtain ⟨o,e,_⟩ := T.obj _ _ st5 b hb
            exact (I8.pin (b,o) (List.mem_append_right _ (List.mem_append_right _ (zcu hb e)))).2.1
          have less : ∀ {σ8 : L2.St} {H8 : Hp} {G8 : GH},SI XX ⟨G2,H2,fun _ => none⟩ (capM nl cap m) r1 G8 σ8 H8→SI XX ⟨G2,H2,fun _ => none⟩ (capM nl cap m) (capR nl cap r) G8 σ8 H8 := fun h => h.less fl1.symm fun j d hj => by
            by_cases hjn : j < nl
            · exact absurd hj (ziG hjn d)
            · rw [fl2 j (by omega)]; exact hj
          cases b with
          | false =>
            rw [if_neg Bool.false_ne_true] at hr3 ⊢
            obtain ⟨I7',t7,f7⟩ := back (G8 := G7) I7
            exact ⟨ds.length - (i + 1),by omega,i + 1,σ6,H7,G7,ws,done,rest,I7',less S7,t7,f7,w27,hp7,hg7,rs3.mono (Gle.trans w5.ge w7.ge),hr3,hv3,by omega,hlt,rfl⟩
          | true =>
            rw [if_pos rfl] at hr3 ⊢
            cases ee1 : fe r1 with
            | stuck => rw [ee1] at hr3; cases hr3
            | exc xx => rw [ee1] at hr3; cases hr3
            | ok d1 =>
              rw [ee1] at hr3
              simp only [bind_ok] at hr3
              cases er : zcO ft q fe (capR nl cap r) (ds.drop (i + 1)) with
              | stuck => rw [er] at hr3; cases hr3
              | exc xx => rw [er] at hr3; cases hr3
              | ok rest' =>
                rw [er] at hr3
                simp only [bind_ok] at hr3
                cases hr3
                have el7 := he' _ s7 σ6 H7 (fun v H8 => ∃ G8,Grow X.K G7 H7 G8 H8∧RG X.K G8 v d1) I7 ⟨r1,G7,S7,by rw [ee1]; exact fun v G8 H8 w8 rv => ⟨G8,by rw [eK] at w8; exact w8,by rw [eK] at rv; exact rv⟩⟩
                rw [eE] at el7
                refine thn (weaken el7) fun u8 s8 ⟨v8,H8,I8,r8,G8,w8,rv8⟩ => ?_
                have hp8 : H8 s2.heap.objs.size = some (.lst ws) := w8.he _ _ hp7
                have hg8 : G8 s2.heap.objs.size = none := by rw [w8.gf _ (by rw [hp7]; simp)]; exact hg7
                have S8 : SI XX ⟨G2,H2,fun _ => none⟩ (capM nl cap m) r1 G8 σ6 H8 := S7.grow (by rw [eK]; exact w8)
                have hlen := Paired.length rs3
                have ap8 := zcm (X := XX) _ s8 σ6 H8 (.ref s2.heap.objs.size) [v8] (.ref s2.heap.objs.size) [u8] (fun v H9 => H9 = upd H8 s2.heap.objs.size (.lst (ws++[v8]))) I8 rfl (.cons r8 .nil) ⟨_,ws,v8,rfl,rfl,hp8,by omega,rfl⟩
                refine thn (weaken ap8) fun u9 s9 ⟨v9,H9,I9,r9,e9⟩ => ?_
                subst e9
                obtain ⟨I9',t9,f9⟩ := back (G8 := G8) I9
                have rsn : RGs X.K G8 (ws++[v8]) (done++[d1]) := Paired.snoc (rs3.mono (Gle.trans (Gle.trans w5.ge w7.ge) w8.ge)) rv8
                have w28 := w27.trans w8
                refine ⟨ds.length - (i + 1),by omega,i + 1,σ6,_,G8,ws++[v8],done++[d1],rest',I9',less (S8.other hg8 hp2 zlm _),t9,f9,?_,zar,hg8,rsn,er,by rw [hv3,List.append_assoc]; rfl,by rw [List.length_append,List.length_singleton]; omega,hlt,rfl⟩
                refine ⟨fun b e hb => (w28.ok b e hb).mono (fun _ _ z => z) fun o z => ?_,fun b o hb => ?_,w28.ge,w28.gf⟩
                · rw [zam (by rintro rfl; rw [hg8] at hb; cases hb)]; exact z
                · rw [zam (by rintro rfl; rw [hp2] at hb; cases hb)]; exact w28.he b o hb
    · have e : i = ds.length := by omega
      subst e
      rw [List.drop_length] at hr3
      cases hr3
      rw [List.append_nil] at hv3
      subst hv3
      have dn := T.done XX eP eW eK eC ds.length [] s3 σ3 H3 (notedBy (model X.prog X.w) X.A (compEnvC scope cl HH.objs.size X.env) fun e s' => RR (.ref s2.heap.objs.size) HH.objs.size (.error e) s') I3 (hfX H3 fr3) st3 (Y.stop G3 H3 w3)
      rw [eA] at dn
      refine thn dn fun rr s4 ⟨hr,I4⟩ => ?_
      subst hr
      exact fin' I4 w3 hp3 hg3 rs3
  exact codeAny_compStart_list loop (T.self X.A 0 _ _ _ hst₁ loop)
end
end DL
end
section
namespace DL
open PySem PySem.Spec PyProof.Rows L2
noncomputable def noXL : Res (List D)→Res (List D)
  | .ok d => .ok d
  | _ => .stuck
@[simp] theorem noXL_ok (d : List D) : noXL (.ok d) = .ok d := rfl
noncomputable def zbi (nl : Nat) (cap : List Nat) (fi : FI) (ft : FT) (q : FQ) (fe : FE) : FE := fun r => (fi r).bind fun ds => (opt (sz ds)).bind fun ds => (noXL (zcO ft q fe (capR nl cap r) ds)).bind fun vs => .ok (.lst vs)
section
variable {X : Cx} {g : GE} {m mb : List Md} {scope : Scope} {N' : List Str} {nl : Nat} {cap : List Nat} {elt tg iter : Expr} {ifs : List Expr} {pos pos' spos : Pos} {fi : FI} {ft : FT} {q : FQ} {fe : FE} {ro : Bool}
theorem zfH {r : Rho} {P : D→Prop} {x : D→Prop} (h : fin (zbi nl cap fi ft q fe r) P x) : fin (fi r) (fun ds => ∃ vs,ds.length≤sizeLine∧zcO ft q fe (capR nl cap r) ds = .ok vs∧P (.lst vs)) x := by
  unfold zbi at h
  refine zae (zad h) fun ds h1 => ?_
  obtain ⟨ds',e2,h2⟩ := zat (zad h1)
  obtain ⟨rfl,hl⟩ := zkq e2
  cases e3 : zcO ft q fe (capR nl cap r) ds' with
  | ok vs => rw [e3] at h2; exact ⟨vs,hl,rfl,h2⟩
  | exc x => rw [e3] at h2; exact h2.elim
  | stuck => rw [e3] at h2; exact h2.elim
theorem CompSc.clo {pins : List (Addr × Obj)} {σ : L2.St} {H : Hp} {s : Shared} (sc : CompSc X scope N' nl cap) (ok : X.Ok) : ∃ cl,closureFor scope X.env = pure cl∧(∀ x c,cl.lookup x = some c→X.env.cells.lookup x = some c)∧(∀ x,(x,NameKind.free)∈scope.names→∃ c,cl.lookup x = some c) :=
  zhh fun y hy hf => ok.has y.1 (sc.freeK y hy hf)
theorem zcH (hN : X.N.Nodup) (hcalm : X.calm = true) (sc : CompSc X scope N' nl cap) (hi : SItC X g m tg iter fi) (hg : ∀ s0 H0 cl C fp g',SG (cxC X s0 H0 N' scope cl C fp) g' (capM nl cap m) tg ft (capM nl cap m)) (hft : FtOk ft nl)
    (hq : ∀ s0 H0 cl C fp g',SQs (cxC X s0 H0 N' scope cl C fp) g' (capM nl cap m) ifs q) (he : ∀ s0 H0 cl C fp g',SE (cxC X s0 H0 N' scope cl C fp) g' (capM nl cap m) elt fe)
    (hs : ∀ x,foldedSetIterable iter X.env x = pure x := by intro _; rfl) : SO X g m (.ListComp elt [⟨tg,iter,ifs,0⟩] scope pos) (zbi nl cap fi ft q fe) := by
  intro pins s σ H Q I h
  obtain ⟨r,G,si,k⟩ := h
  obtain ⟨cl,hcl,h1,h2⟩ := sc.clo (pins := pins) (σ := σ) (H := H) (s := s) I.ok
  have k1 := zfH k
  rw [eval_ListComp]
  refine wpAny_comprehension_free (use := none) rfl hs hcl sc.kind sc.names (thn (hi pins s σ H (fun J H' => ∃ G' ds vs,Grow X.K G H G' H'∧YieldsC X.K J ds G' H'∧ds.length≤sizeLine∧zcO ft q fe (capR nl cap r) ds = .ok vs ∧
    (∀ a G' H',Grow X.K G H G' H'→H a = none→Own X.K G' H' a (.lst vs)→Q (.ref a) H')) I ⟨r,G,si,zae k1 fun ds ⟨vs,z1,z2,z3⟩ J G' H' w y => ⟨G',ds,vs,w,y,z1,z2,z3⟩⟩) fun v s1 hv => thn hv fun itv s2 hv2 => ?_)
  obtain ⟨it,fp,tn,J,H2,rfl,I2,T,st,hf,G2,ds,vs,w2,Y,hsz,hres,hQ⟩ := hv2
  refine zfK (RR := fun acc C => compPost (model X.prog X.w) X.A X.xe none (EP X pins σ Q) acc C) hN hcalm sc h1 h2 I2 (si.grow w2) T st hf Y hsz (fun C => hg _ _ _ _ _ _) hft (fun C => hq _ _ _ _ _ _) (fun C => he _ _ _ _ _ _) hres ?_
  intro p C s' H' G' I' hns hC1 hC2 hC3 hC4 hC5 w' hp ho
  obtain ⟨mm,hn⟩ := hns
  refine ⟨mm,hn,fun h' hsb => ⟨.ref p,H',?_,rfl,hQ p G' H' (w2.trans w') (w2.back hp) ho⟩⟩
  exact I'.turned (it := C) (t' := s'.toks) (fun b o hb e => hsb.extBut b o hb e) hC1 hC2.symm.symm (.inr hC3) hC4 hC5
theorem zfp (i : Nat) {y : Str} (hN : X.N.Nodup) (hcalm : X.calm = true) (hy : X.N[i]? = some y) (hyl : X.env.scope.names.lookup y = some .local) (sc : CompSc X scope N' nl cap) (hi : SItC X g m tg iter fi) (hg : ∀ s0 H0 cl C fp g',SG (cxC X s0 H0 N' scope cl C fp) g' (capM nl cap m) tg ft (capM nl cap m)) (hft : FtOk ft nl)
    (hq : ∀ s0 H0 cl C fp g',SQs (cxC X s0 H0 N' scope cl C fp) g' (capM nl cap m) ifs q) (he : ∀ s0 H0 cl C fp g',SE (cxC X s0 H0 N' scope cl C fp) g' (capM nl cap m) elt fe)
    (hsw : swapsWith (.ListComp elt [⟨tg,iter,ifs,0⟩] scope pos) (some (.Name y pos')) spos.line X.env = pure true := by rfl) (hs : ∀ x,foldedSetIterable iter X.env x = pure x := by intro _; rfl) :
    SS X g ro mb m (.Assign [.Name y pos'] (.ListComp elt [⟨tg,iter,ifs,0⟩] scope pos) spos) (setF m i (zbi nl cap fi ft q fe)) (m.set i .ow) := by
  refine ⟨by simp,?_⟩
  intro pins s σ H D0 I h
  obtain ⟨r,G,si,k⟩ := h
  obtain ⟨cl,hcl,h1,h2⟩ := sc.clo (pins := pins) (σ := σ) (H := H) (s := s) I.ok
  have k1 := zfH (zbh si (m' := m.set i .ow) (by simp) k)
  rw [exec_Assign_Name_used _ _ _ _ hsw]
  refine wpAny_bind (wpAny_standAt (wpAny_bind ?_))
  show wpAny _ X.A (do let _ ← comprehension (.ListComp elt [⟨tg,iter,ifs,0⟩] scope pos) scope X.env _ (newList []) false (eval iter X.env) (some (assign (.Name y pos') X.env))) _ _ s
  refine wpAny_bind (wpAny_mono (wpAny_comprehension_free (use := some (assign (.Name y pos') X.env)) (Q := fun _ s' => SP X pins D0 .next s') rfl hs hcl sc.kind sc.names (thn (hi pins s σ H (fun J H' => ∃ G' ds vs,Grow X.K G H G' H'∧YieldsC X.K J ds G' H'∧ds.length≤sizeLine∧zcO ft q fe (capR nl cap r) ds = .ok vs ∧
    (∀ σ' G' H',Gle G G'→SI X g (m.set i .ow) (r.set i (some (.lst vs))) G' σ' H'→D0.nx σ' H')) I ⟨r,G,si,zae k1 fun ds ⟨vs,z1,z2,z3⟩ J G' H' w y => ⟨G',ds,vs,w,y,z1,z2,z3⟩⟩) fun v s1 hv => thn hv fun itv s2 hv2 => ?_)) (fun _ s' hq => wpAny_pure (wpAny_pure hq)) fun _ _ e => e)
  obtain ⟨it,fp,tn,J,H2,rfl,I2,T,st,hf,G2,ds,vs,w2,Y,hsz,hres,hQ⟩ := hv2
  refine zfK (RR := fun acc C => compPost (model X.prog X.w) X.A X.xe (some (assign (.Name y pos') X.env)) (fun _ s' => SP X pins D0 .next s') acc C) hN hcalm sc h1 h2 I2 (si.grow w2) T st hf Y hsz (fun C => hg _ _ _ _ _ _) hft (fun C => hq _ _ _ _ _ _) (fun C => he _ _ _ _ _ _) hres ?_
  intro p C s' H' G' I' hns hC1 hC2 hC3 hC4 hC5 w' hp ho
  obtain ⟨mm,hn⟩ := hns
  show wpAny _ X.A (assign (.Name y pos') X.env (.ref p)) _ _ s'
  refine wpAny_assign_Name (zfi I' hN hy (.inl hyl) (v := .ref p) rfl (fun s'' I'' ⟨a,hsb,ha⟩ => ?_) (.inr hyl))
  have hCa : C≠a := by
    rcases ha with z | z
    · rw [z]; exact hC2
    · exact (hC4 y a z).symm
  refine ⟨mm,hn.sameBut hsb hCa,fun h' hsb' => ?_⟩
  refine ⟨_,H',I''.turned (it := C) (t' := s''.toks) (fun b o hb e => hsb'.extBut b o hb e) hC1 hC2 (.inr hC3) hC4 hC5,?_⟩
  exact hQ _ G' H' (w2.trans w').ge (si.setN (w2.trans w') i (w2.back hp) ho)
end
end DL
end
section
namespace DL
open PySem PySem.Spec PyProof.Rows L2
noncomputable def MutD (K : PySem.W.Frag) (r : V→List V→Hp→VK→Prop) (mk : D→List D→Option D) : Prop := ∀ (G : GH) (H : Hp) (a : Addr) (d : D) (vs : List V) (ds : List D) (d' : D) (Q : VK),GOk K G H→Own K G H a d→RGs K G vs ds→mk d ds = some d' →
  (∀ o',OwnO K G (upd H a o') a d'→Q .non (upd H a o'))→r (.ref a) vs H Q
noncomputable def tyB (T : String) : D→Bool
  | .lst _ => T == "list"
  | .dic _ => T == "dict"
  | _ => false
noncomputable def mutF (T : String) (m : List Md) (i : Nat) (fl : Rho→Res (List D)) (mk : D→List D→Option D) : FS := fun r => match r[i]? with
  | some (some d) => if tyB T d = true then onE m r (fl r) fun ds => (match mk d ds with
    | some d' => .nx (r.set i (some d'))
    | none => .stuck) else .stuck
  | _ => .stuck
theorem zlB {K : PySem.W.Frag} {G : GH} {H : Hp} {a : Addr} {d : D} {T : String} (o : Own K G H a d) (t : tyB T d = true) : tyV K T (.ref a) H := by
  cases o.ob with
  | lst r s => exact .inl ⟨eq_of_beq t,_,SqL.of r⟩
  | dic r s => exact .inr (.inr (.inl ⟨eq_of_beq t,.inl ⟨_,.inl r⟩⟩))
section
variable {X : Cx} {g : GE} {m mb : List Md} {e a b o : Expr} {es : List Expr} {f fa fb : FE} {fl : Rho → Res (List D)} {pos pos' apos cpos : Pos} {ro : Bool} {x name : Str} {T id : String} {R : V → List V → Hp → VK → Prop} {mk : D → List D → Option D}
theorem zjj (i : Nat) (hm : m[i]? = some .ow) (hk : MutD X.K R mk) {D0 : Ends} {σ : L2.St} {H : Hp} (h : tS X g ro m m mb (mutF T m i fl mk) D0 σ H) :
    ∃ v,σ[i]? = some (some v)∧tyV X.K T v H∧tL X g m fl σ H fun xs H2 => R v xs H2 fun _ H1 => D0.nx σ H1 := by
  obtain ⟨r,G,si,k⟩ := h
  unfold mutF at k
  cases er : r[i]? with
  | none => simp only [er] at k; exact (show False from k).elim
  | some oo =>
    cases oo with
    | none => simp only [er] at k; exact (show False from k).elim
    | some d =>
      simp only [er] at k
      by_cases ht : tyB T d = true
      · rw [if_pos ht] at k
        obtain ⟨a,h1,h2,h3⟩ := si.mut hm er
        refine ⟨_,h1,zlB h2 ht,r,G,si,zae (zbh si rfl k) fun ds k2 vs G' H' w rs => ?_⟩
        cases em : mk d ds with
        | none => simp only [em] at k2; exact (show False from k2).elim
        | some d' =>
          simp only [em] at k2
          obtain ⟨a',h1',h2',h3'⟩ := (si.grow w).mut hm er
          rw [h1] at h1'; cases h1'
          exact hk G' H' a d vs ds d' _ w.ok h2' rs em fun o' ob => k2 σ G' _ w.ge (h3' o' d' ob)
      · rw [if_neg ht] at k; exact (show False from k).elim
theorem zhA (i : Nat) (hm : m[i]? = some .ow) (pa : PlainAttrs T) (slot : Slot T name id) (hty : typeOf (.builtin id) = pure (.type "method_descriptor")) (hmt : MtR X id R) (hk : MutD X.K R mk) (hN : X.N[i]? = some x) (hv : Vis X.env.scope x) (ha : SA X g m (e::es) fl)
    (hd : (x == ("__debug__" : Str)) = false := by decide) (hcd : (x == ("__classdict__" : Str)) = false := by decide)
    (hbase : attributeBase (.Name x pos') name X.env (eval (.Name x pos') X.env) = eval (.Name x pos') X.env := by rfl)
    (hfew : ((backTo cpos (starEach (e::es) X.env)).all (fun x => ! x.1) && (backToKw cpos (keywordEach [] X.env)).all (fun x => x.1.isSome) && decide ((e::es).length + ([] : List Keyword).length + (if ([] : List Keyword).isEmpty then 0 else 1) < 30)) = true := by rfl)
    (hline : (apos.endLine == cpos.line) = true := by rfl) (hst : starEach (e::es) X.env = (false,eval e X.env)::starEach es X.env := by rfl) (hplain : (backTo cpos (starEach es X.env)).any (·.1) = false := by rfl) :
    SS X g ro mb m (.Expr (.Call (.Attribute (.Name x pos') name apos) (e::es) [] cpos) pos) (mutF T m i fl mk) m :=
  ⟨rfl,PS.imp (zhN (zmv pa slot hty hmt (zfy hN hv hd hcd) ha hbase hfew hline hst hplain)) fun D0 σ H h => zjj i hm hk h⟩
noncomputable def appD : D→List D→Option D
  | .lst ds,[d] => if ds.length < sizeLine then some (.lst (ds++[d])) else none
  | _,_ => none
theorem zgN {K : PySem.W.Frag} : MutD K zhK appD := by
  intro G H a d vs ds d' Q gk ow rs e q
  unfold appD at e
  split at e
  · split at e
    · rename_i hl
      cases e
      cases ow.ob with
      | lst r s =>
        cases rs with
        | cons r1 t =>
          cases t
          have := Paired.length s
          exact ⟨a,_,_,rfl,rfl,r,by omega,q _ (.lst zar (Paired.snoc s r1))⟩
    · cases e
  · cases e
theorem Paired.rev {α β : Type} {F : α→β→Prop} : ∀ {l : List α} {r : List β},Paired F l r→Paired F l.reverse r.reverse
  | _,_,.nil => .nil
  | _,_,.cons h t => by rw [List.reverse_cons,List.reverse_cons]; exact Paired.snoc (Paired.rev t) h
noncomputable def zlb (x : Int) (n : Nat) : Nat := if x < 0 then (x + (n : Int)).toNat else min x.toNat n
noncomputable def insL {α : Type} (xs : List α) (x : Int) (y : α) : List α := xs.take (zlb x xs.length)++y::xs.drop (zlb x xs.length)
noncomputable def zhJ : V→List V→Hp→VK→Prop := fun x vs H Q => ∃ l xs i y,x = .ref l∧vs = [.int i,y]∧H l = some (.lst xs)∧-(2 ^ 63)≤i∧i < 2 ^ 63∧xs.length < sizeLine∧Q .non (upd H l (.lst (insL xs i y)))
theorem zh2 : MtR X "list.insert" zhJ := by
  intro pins s σ H x vs v us Q I rx rv h
  obtain ⟨l,xs,i,y,rfl,rfl,hH,h1,h2,hz,q⟩ := h
  cases rx
  obtain ⟨u,w',rfl,⟨t,rfl⟩,ry⟩ := zlz rv
  obtain ⟨z,its,n,r,hl,e⟩ := I.lstM hH
  have hfit : ¬(! Builtin.List.listFitsIndex i) = true := by rw [fitsIndex_both h1 h2]; exact Bool.false_ne_true
  refine call_meets PySem.F.slot_list_insert ⟨_,e,rfl⟩ PySem.F.entry_list_insert (PySem.F.args_list_insert_3 _ _ _) (AutoListH.list_insert_list_int_val_1 l its.toArray n i t w' hfit (by rw [List.size_toArray]; omega)) ⟨e,?_⟩
  refine ⟨.non,_,I.lset (its' := insL its i w') hH e ?_ ?_ ?_,rfl,q⟩
  · show ((its.toArray.extract 0 (if i < 0 then (i + ((its.toArray.size : Nat) : Int)).toNat else min i.toNat its.toArray.size)).push w'++its.toArray.extract (if i < 0 then (i + ((its.toArray.size : Nat) : Int)).toNat else min i.toNat its.toArray.size)) = (insL its i w').toArray
    rw [List.size_toArray]
    unfold insL zlb
    generalize (if i < 0 then (i + ((its.length : Nat) : Int)).toNat else min i.toNat its.length) = k
    apply Array.ext'
    simp
    exact List.take_of_length_le (by rw [List.length_drop]; exact Nat.le_refl _)
  · unfold insL
    rw [hl]
    exact Vals.append (r.take _) (.cons ry (r.drop _))
  · unfold insL
    rw [List.length_append,List.length_cons,List.length_take,List.length_drop]
    omega
noncomputable def insD : D→List D→Option D
  | .lst ds,[.int i,d] => if ds.length < sizeLine∧-(2 ^ 63)≤i∧i < 2 ^ 63 then some (.lst (insL ds i d)) else none
  | _,_ => none
theorem zm2 {α β : Type} {F : α→β→Prop} {l : List α} {r : List β} {x : α} {y : β} (h : Paired F l r) (i : Int) (hxy : F x y) : Paired F (insL l i x) (insL r i y) := by
  unfold insL
  rw [Paired.length h]
  exact Paired.app (Paired.tk _ h) (.cons hxy (Paired.dr _ h))
theorem zm1 {K : PySem.W.Frag} : MutD K zhJ insD := by
  intro G H a d vs ds d' Q gk ow rs e q
  unfold insD at e
  split at e
  · split at e
    · rename_i hl
      cases e
      cases ow.ob with
      | lst r s =>
        cases rs with
        | cons r1 t =>
          cases t with
          | cons r2 t =>
            cases t
            have := Paired.length s
            exact ⟨a,_,_,_,rfl,by rw [r1.int gk],r,hl.2.1,hl.2.2,by omega,q _ (.lst zar (zm2 s _ r2))⟩
    · cases e
  · cases e
end
noncomputable def zbZ : D→Bool
  | .non => true
  | .bl _ => true
  | .int _ => true
  | .str _ => true
  | _ => false
noncomputable def toV : D→V
  | .non => .non
  | .bl b => .bl b
  | .int i => .int i
  | .str x => .str x
  | _ => .non
noncomputable def eqs (a b : D) : Bool := eqV (toV a) (toV b)
@[simp] theorem eqs_int (a b : Int) : eqs (.int a) (.int b) = (a == b) := rfl
@[simp] theorem eqs_str (a b : Str) : eqs (.str a) (.str b) = (a == b) := rfl
@[simp] theorem eqs_non_int (b : Int) : eqs .non (.int b) = false := rfl
@[simp] theorem eqs_int_non (b : Int) : eqs (.int b) .non = false := rfl
section
variable {K : PySem.W.Frag} {G : GH} {H : Hp} {v : V} {d : D}
theorem RB.flat (h : RB K G H v d) (gk : GOk K G H) (hf : zbZ d = true) : v = toV d∧zeA v = true := by
  cases d with
  | non => rw [h.non gk]; exact ⟨rfl,rfl⟩
  | bl b => rw [h.bl gk]; exact ⟨rfl,rfl⟩
  | int i => rw [h.int gk]; exact ⟨rfl,rfl⟩
  | str x => rw [h.str gk]; exact ⟨rfl,rfl⟩
  | _ => cases hf
theorem zoc {xs : List V} {ds : List D} (h : RGs K G xs ds) (gk : GOk K G H) (hf : ds.all zbZ = true) : xs = ds.map toV∧xs.all zeA = true := by
  induction h with
  | nil => exact ⟨rfl,rfl⟩
  | cons r t ih =>
    rw [List.all_cons,Bool.and_eq_true] at hf
    obtain ⟨e1,e2⟩ := RB.flat (H := H) r.rb gk hf.1
    obtain ⟨e3,e4⟩ := ih hf.2
    exact ⟨by rw [List.map_cons,← e3,← e1],by rw [List.all_cons,e2,e4]; rfl⟩
end
noncomputable def keyD : D→Option Key
  | .int i => some (.inl i)
  | .str x => some (.inr x)
  | _ => none
noncomputable def hasK (kvs : List (Key × D)) (k : Key) : Bool := kvs.any fun kv => decide (kv.1 = k)
noncomputable def getK (kvs : List (Key × D)) (k : Key) : Option D := (kvs.find? fun kv => decide (kv.1 = k)).map (·.2)
noncomputable def inB (x c : D) : Option Bool := match c with
  | .lst ds => if zbZ x = true∧ds.all zbZ = true then some (ds.any fun y => eqs y x) else none
  | .tup ds => if zbZ x = true∧ds.all zbZ = true then some (ds.any fun y => eqs y x) else none
  | .dic kvs => (keyD x).map (hasK kvs)
  | .str y => match x with
    | .str z => some (!(Builtin.Str.occurrences y z 0 y.length 1).isEmpty)
    | _ => none
  | _ => none
noncomputable def inD (x c : D) : Option D := (inB x c).map .bl
theorem zkk {K : PySem.W.Frag} {G : GH} {k : Key} {ps : List (Key × V)} {kvs : List (Key × D)} (h : RKs K G ps kvs) (d : D) (e : getK kvs k = some d) : ∃ v,valV ps k = some v∧RG K G v d := by
  induction h with
  | nil => cases e
  | @cons p q ps kvs r t ih =>
    obtain ⟨k1,v1⟩ := p
    obtain ⟨k2,d2⟩ := q
    obtain ⟨e1,r1⟩ := r
    have e1' : k1 = k2 := e1
    subst e1'
    by_cases hk : k1 = k
    · subst hk
      have : d2 = d := by simpa [getK,List.find?_cons] using e
      subst this
      exact ⟨v1,zdR rfl,r1⟩
    · have e' : getK kvs k = some d := by simpa [getK,List.find?_cons,hk] using e
      obtain ⟨v,h1,h2⟩ := ih e'
      exact ⟨v,by rw [zcX hk]; exact h1,h2⟩
theorem zit {K : PySem.W.Frag} {G : GH} {k : Key} {ps : List (Key × V)} {kvs : List (Key × D)} (h : RKs K G ps kvs) (e : getK kvs k = none) : valV ps k = none := by
  induction h with
  | nil => rfl
  | @cons p q ps kvs r t ih =>
    obtain ⟨k1,v1⟩ := p
    obtain ⟨k2,d2⟩ := q
    obtain ⟨e1,r1⟩ := r
    have e1' : k1 = k2 := e1
    subst e1'
    by_cases hk : k1 = k
    · subst hk; simp [getK,List.find?_cons] at e
    · have e' : getK kvs k = none := by simpa [getK,List.find?_cons,hk] using e
      rw [zcX hk]; exact ih e'
theorem zm7 (kvs : List (Key × D)) (k : Key) : hasK kvs k = (getK kvs k).isSome := by
  induction kvs with
  | nil => rfl
  | cons p r ih =>
    by_cases e : p.1 = k
    · simp [hasK,getK,List.find?_cons,e]
    · have h1 : hasK (p::r) k = hasK r k := by simp [hasK,e]
      have h2 : getK (p::r) k = getK r k := by simp [getK,List.find?_cons,e]
      rw [h1,h2,ih]
theorem zif {K : PySem.W.Frag} {G : GH} {H : Hp} {v : V} {d : D} {k : Key} (gk : GOk K G H) (h : RB K G H v d) (e : keyD d = some k) : v = kV k := by
  cases d with
  | int i => cases e; exact h.int gk
  | str x => cases e; exact h.str gk
  | _ => cases e
section
variable {X : Cx} {g : GE} {m mb : List Md} {e a b o c : Expr} {f fa fb fc : FE} {pos pos' : Pos}
noncomputable def rInD (neg : Bool) : R2 := fun y x H Q => ∃ a o,x = .ref a∧DGet H a y o∧Q (.bl (if neg then ! o.isSome else o.isSome)) H
theorem zmE (hu : X.A.units + 1 < cLine) : OpR X (compareOp .In) (rInD false) := by
  intro pins s σ H y x u v Q I ry rx h
  obtain ⟨a,oo,rfl,hg,q⟩ := h
  cases rx
  exact d_in hu I hg ry fun s' I' => ⟨.bl _,H,I',rfl,q⟩
noncomputable def rInA (K : PySem.W.Frag) (neg : Bool) : R2 := fun x y H Q => rIn K neg x y H Q∨rInD neg x y H Q∨∃ i j,x = .str i∧y = .str j∧Q (.bl (if neg then !(!(Builtin.Str.occurrences j i 0 j.length 1).isEmpty) else !(Builtin.Str.occurrences j i 0 j.length 1).isEmpty)) H
theorem zj2 (hu : X.A.units + 1 < cLine) : OpR X (compareOp .In) (rInA X.K false) := OpR.or zhY (OpR.or (zmE hu) zhX)
theorem zld {K : PySem.W.Frag} (neg : Bool) : OpD K (rInA K neg) (fun x c => (inB x c).map fun b => .bl (if neg then ! b else b)) := by
  intro G H v1 v2 d1 d2 d Q gk r1 r2 e q
  have seq : ∀ {xs : List V} {ds : List D} {p : Addr},RGs K G xs ds→v2 = .ref p→(SqL K H p xs∨SqT K H p xs)→zbZ d1 = true→ds.all zbZ = true→d = .bl (if neg then !(ds.any fun y => eqs y d1) else ds.any fun y => eqs y d1)→rInA K neg v1 v2 H Q := fun {xs ds p} rs e2 hs hf hfs ed => by
    obtain ⟨e1,f1⟩ := RB.flat r1 gk hf
    obtain ⟨e3,f3⟩ := zoc rs gk hfs
    refine .inl ⟨p,xs,e2,hs,f1,f3,q _ G H (Grow.refl gk) ?_⟩
    have : inV v1 xs = ds.any fun y => eqs y d1 := by
      unfold inV
      rw [e3,List.any_map,e1]
      rfl
    rw [this,ed]
    exact .scl (.bl _)
  cases d2 with
  | lst ds =>
    by_cases hc : zbZ d1 = true∧ds.all zbZ = true
    · simp only [inB,if_pos hc,Option.map_some] at e
      obtain ⟨p,xs,e2,hs,rs⟩ := r2.lst gk
      exact seq rs e2 (.inl hs) hc.1 hc.2 (Option.some.inj e).symm
    · simp only [inB,if_neg hc,Option.map_none] at e
      cases e
  | tup ds =>
    by_cases hc : zbZ d1 = true∧ds.all zbZ = true
    · simp only [inB,if_pos hc,Option.map_some] at e
      obtain ⟨p,xs,e2,hs,rs⟩ := r2.tup gk
      exact seq rs e2 (.inr hs) hc.1 hc.2 (Option.some.inj e).symm
    · simp only [inB,if_neg hc,Option.map_none] at e
      cases e
  | dic kvs =>
    simp only [inB] at e
    cases ek : keyD d1 with
    | none => rw [ek] at e; cases e
    | some k =>
      rw [ek] at e
      cases e
      obtain ⟨p,ps,rfl,hs,rs⟩ := r2.dic gk
      refine .inr (.inl ⟨p,valV ps k,rfl,by rw [zif gk r1 ek]; exact .inl ⟨ps,k,hs,rfl,rfl⟩,q _ G H (Grow.refl gk) ?_⟩)
      have : (valV ps k).isSome = hasK kvs k := by
        rw [zm7]
        cases eg : getK kvs k with
        | none => rw [zit rs eg]; rfl
        | some d => obtain ⟨v,h1,_⟩ := zkk rs d eg; rw [h1]; rfl
      rw [this]
      exact .scl (.bl _)
  | str y =>
    cases d1 with
    | str z => cases e; exact .inr (.inr ⟨z,y,r1.str gk,r2.str gk,q _ G H (Grow.refl gk) (.scl (.bl _))⟩)
    | _ => cases e
  | _ => cases e
theorem zm3 {K : PySem.W.Frag} : OpD K (rInA K false) inD := by
  have h := zld (K := K) false
  have e : (fun x c => (inB x c).map fun b => D.bl (if false = true then ! b else b)) = inD := by
    funext x c; unfold inD; cases inB x c <;> rfl
  rw [e] at h; exact h
theorem s_in (hu : X.A.units + 1 < cLine) (ha : SB X g m a fa) (hb : SB X g m b fb) (hm : behindInMarks .In b = false := by rfl) : SE X g m (.Compare a [.In] [b] pos) (f2 fa fb inD) := zi0 (zj2 hu) zm3 ha hb hm
theorem q_in (hu : X.A.units + 1 < cLine) (ha : SB X g m a fa) (hb : SB X g m b fb) (hm : behindInMarks .In b = false := by rfl) : SQ X g m (.Compare a [.In] [b] pos) (zaR (f2 fa fb inD)) := zg6 (zj2 hu) zm3 ha hb hm
noncomputable def isD : D→D→Option D
  | .non,.non => some (.bl true)
  | _,.non => some (.bl false)
  | _,_ => none
noncomputable def isnD : D→D→Option D
  | .non,.non => some (.bl false)
  | _,.non => some (.bl true)
  | _,_ => none
theorem RB.isnon {K : PySem.W.Frag} {G : GH} {H : Hp} {v : V} {d : D} (gk : GOk K G H) (h : RB K G H v d) : (v = .non↔d = .non) := by
  constructor
  · intro e
    subst e
    rcases h with h | ⟨a,e,_⟩
    · cases h with
      | scl s => cases s; rfl
    · cases e
  · intro e
    subst e
    exact h.non gk
theorem zm0 {K : PySem.W.Frag} : OpD K (fun x y H Q => y = .non∧Q (.bl (! decide (x = .non))) H) isnD := by
  intro G H v1 v2 d1 d2 d Q gk r1 r2 e q
  have hn := r1.isnon gk
  cases d2 with
  | non =>
    refine ⟨r2.non gk,q _ G H (Grow.refl gk) ?_⟩
    cases d1 with
    | non => cases e; rw [decide_eq_true (hn.mpr rfl)]; exact .scl (.bl _)
    | _ => cases e; rw [decide_eq_false (fun z => by have := hn.mp z; cases this)]; exact .scl (.bl _)
  | _ => cases d1 <;> cases e
theorem znN (ha : SB X g m a fa) (hb : SB X g m b fb) : SQ X g m (.Compare a [.IsNot] [b] pos) (zaR (f2 fa fb isnD)) := zg6 zkQ zm0 ha hb (zdJ _)
end
end DL
end
section
namespace DL
open PySem PySem.Spec PyProof.Rows L2
section
variable {X : Cx} {g : GE} {m mb : List Md} {e a b o c : Expr} {f fa fb fc : FE} {pos pos' p1 p2 : Pos} {ro : Bool} {x : Str}
noncomputable def rIxD : R2 := fun x y H Q => ∃ a v,x = .ref a∧DGet H a y (some v)∧Q v H
theorem zmX (hu : X.A.units + 1 < cLine) : IxR X rIxD := by
  intro value slice pins s σ H x y v u Q I rx ry h hs
  obtain ⟨a,w,rfl,hg,q⟩ := h
  cases rx
  exact tail_any (zgf I hg) PySem.F.slot_dict_getitem.lookup (ziD hu I hg ry fun w' s' I' rw' => ⟨w,H,I',rw',q⟩) hs
noncomputable def ixA : D→D→Option D
  | .dic kvs,k => (keyD k).bind (getK kvs)
  | c,k => ixD c k
theorem zmY {K : PySem.W.Frag} : OpD K (fun x y H Q => rIxD x y H Q∨rIx K x y H Q) ixA := by
  intro G H v1 v2 d1 d2 d Q gk r1 r2 e q
  cases d1 with
  | dic kvs =>
    obtain ⟨a,ps,rfl,hs,rs⟩ := r1.dic gk
    have e' : (keyD d2).bind (getK kvs) = some d := e
    cases ek : keyD d2 with
    | none => rw [ek] at e'; cases e'
    | some k =>
      rw [ek] at e'
      obtain ⟨v,h1,h2⟩ := zkk rs d e'
      refine .inl ⟨a,v,rfl,?_,q v G H (Grow.refl gk) h2⟩
      rw [zif gk r2 ek,← h1]
      exact .inl ⟨ps,k,hs,rfl,rfl⟩
  | lst ds => exact .inr (zk6 G H v1 v2 _ d2 d Q gk r1 r2 e q)
  | tup ds => exact .inr (zk6 G H v1 v2 _ d2 d Q gk r1 r2 e q)
  | str ds => exact .inr (zk6 G H v1 v2 _ d2 d Q gk r1 r2 e q)
  | _ => cases e
theorem zey (hu : X.A.units + 1 < cLine) (ha : SB X g m a fa) (hb : SB X g m b fb) (hs : ziP b := by intro _ _; rfl) : SE X g m (.Subscript a b pos) (f2 fa fb ixA) := zkv zmY (znU (IxR.or (zmX hu) zmW) ha hb hs)
theorem zkd : SO X g m (.Dict [] [] pos) fun _ => .ok (.dic []) :=
  PE.imp zjc fun σ H Q ⟨r,G,si,q⟩ p hp => q p G _ (Grow.new si.gok hp _) hp ⟨si.gok.isN hp,.dic zar .nil⟩
noncomputable def putD (kvs : List (Key × D)) (k : Key) (d : D) : List (Key × D) := if (kvs.any fun kv => decide (kv.1 = k)) = true then kvs.map fun kv => if kv.1 = k then (kv.1,d) else kv else kvs++[(k,d)]
theorem zjM {K : PySem.W.Frag} {G : GH} {k : Key} {ps : List (Key × V)} {kvs : List (Key × D)} (h : RKs K G ps kvs) : (ps.any fun kv => decide (kv.1 = k)) = kvs.any fun kv => decide (kv.1 = k) := by
  induction h with
  | nil => rfl
  | cons r t ih => rw [List.any_cons,List.any_cons,ih,r.1]
theorem znQ {K : PySem.W.Frag} {G : GH} {ps : List (Key × V)} {kvs : List (Key × D)} {k : Key} {v : V} {d : D} (r : RKs K G ps kvs) (h : RG K G v d) : RKs K G (putK ps k v) (putD kvs k d) := by
  unfold putK putD
  rw [zjM r]
  by_cases hc : (kvs.any fun kv => decide (kv.1 = k)) = true
  · rw [if_pos hc,if_pos hc]
    clear hc
    induction r with
    | nil => exact .nil
    | @cons p q ps kvs r t ih =>
      refine .cons ?_ ih
      obtain ⟨p1,p2⟩ := p
      obtain ⟨q1,q2⟩ := q
      have e : p1 = q1 := r.1
      subst e
      by_cases hk : p1 = k
      · simp only [hk,if_true,true_and]; exact h
      · simp only [hk,if_false,true_and]; exact r.2
  · rw [if_neg hc,if_neg hc]
    exact Paired.snoc r ⟨rfl,h⟩
noncomputable def stoD : D→D→D→Option D
  | .lst ds,.int k,v => (ixN ds.length k).map fun j => .lst (ds.set j v)
  | .dic kvs,k,v => (keyD k).bind fun k => if kvs.length < sizeLine then some (.dic (putD kvs k v)) else none
  | _,_,_ => none
noncomputable def zl7 : V→V→V→Hp→(Hp→Prop)→Prop := fun o i v H Q => ∃ p H',o = .ref p∧DPut H p i v H'∧Q H'
theorem zku (hu : X.A.units + 1 < cLine) : PSet X zl7 := by
  intro pins s σ H o i v ov iv u Q I ro ri rv h
  obtain ⟨p,H',rfl,hp,q⟩ := h
  cases ro
  exact ziC hu I hp ri rv fun s' I' => ⟨H',I',q⟩
theorem PSet.or {t t' : TSet} (h : PSet X t) (h' : PSet X t') : PSet X (fun o i v H Q => t o i v H Q∨t' o i v H Q) := by
  intro pins s σ H o i v ov iv u Q I ro ri rv q
  rcases q with q | q
  · exact h pins s σ H o i v ov iv u Q I ro ri rv q
  · exact h' pins s σ H o i v ov iv u Q I ro ri rv q
theorem zlJ {K : PySem.W.Frag} {G : GH} {H : Hp} {a : Addr} {d k v d' : D} {kv vv : V} {Q : Hp→Prop} (gk : GOk K G H) (ow : Own K G H a d) (rk : RB K G H kv k) (rv : RG K G vv v) (e : stoD d k v = some d') (q : ∀ o',OwnO K G (upd H a o') a d'→Q (upd H a o')) :
    zl6 (.ref a) kv vv H Q∨zl7 (.ref a) kv vv H Q := by
  cases ow.ob with
  | @lst xs ds r s =>
    cases k with
    | int k =>
      have e' : (ixN ds.length k).map (fun j => D.lst (ds.set j v)) = some d' := e
      cases ej : ixN ds.length k with
      | none => rw [ej] at e'; cases e'
      | some j =>
        rw [ej] at e'
        cases e'
        exact .inl ⟨a,xs,k,j,rfl,rk.int gk,r,by rw [Paired.length s]; exact ej,q _ (.lst zar (Paired.st rv j s))⟩
    | _ => cases e
  | @dic ps kvs r s =>
    have e' : (keyD k).bind (fun k => if kvs.length < sizeLine then some (D.dic (putD kvs k v)) else none) = some d' := e
    cases ek : keyD k with
    | none => rw [ek] at e'; cases e'
    | some k' =>
      rw [ek] at e'
      have e2 : (if kvs.length < sizeLine then some (D.dic (putD kvs k' v)) else none) = some d' := e'
      by_cases hl : kvs.length < sizeLine
      · rw [if_pos hl] at e2
        cases e2
        have := Paired.length s
        refine .inr ⟨a,_,rfl,?_,q _ (.dic zar (znQ s rv))⟩
        rw [zif gk rk ek]
        exact DPut.k r (by omega)
      · rw [if_neg hl] at e2; cases e2
noncomputable def putF (m : List Md) (i : Nat) (fk fv : FE) : FS := fun r => onE m r (fv r) fun v => match r[i]? with
  | some (some d) => onE m r (fk r) fun k => (match stoD d k v with
    | some d' => .nx (r.set i (some d'))
    | none => .stuck)
  | _ => .stuck
theorem zlT (i : Nat) (hu : X.A.units + 1 < cLine) (hm : m[i]? = some .ow) (hN : X.N[i]? = some x) (hv : Vis X.env.scope x) (hk : SB X g m b fb) (he : SE X g m e f)
    (hd : (x == ("__debug__" : Str)) = false := by decide) (hcd : (x == ("__classdict__" : Str)) = false := by decide)
    (ha : ∀ v,assign (.Subscript (.Name x p1) b p2) X.env v = (do
      let ov ← holding [v] (eval (.Name x p1) X.env)
      let iv ← holding [v,ov] (eval b X.env)
      standAt p2
      holding [v,ov,iv] (setItem ov iv v)
      release [v,ov,iv] []) := by intro _; rfl)
    (hs : swapsWithSole [.Subscript (.Name x p1) b p2] e pos.line X.env = pure false := by rfl) (hw : swappedStores [.Subscript (.Name x p1) b p2] e X.env = pure none := by rfl)
    (h1 : (assignEach [.Subscript (.Name x p1) b p2] X.env).map (·.2) = [assign (.Subscript (.Name x p1) b p2) X.env] := by rfl) :
    SS X g ro mb m (.Assign [.Subscript (.Name x p1) b p2] e pos) (putF m i fb f) m := by
  refine ⟨rfl,PS.imp (zmj he (zmn (zfy hN hv hd hcd) hk (PSet.or ziZ (zku hu)) ha) hs hw h1) fun D0 σ H ⟨r,G,si,k⟩ => ⟨r,G,si,?_⟩⟩
  refine zae (zbh si rfl k) fun v k1 vv G1 H1 w1 rv => ?_
  cases er : r[i]? with
  | none => simp only [er] at k1; exact (show False from k1).elim
  | some oo =>
    cases oo with
    | none => simp only [er] at k1; exact (show False from k1).elim
    | some d =>
      simp only [er] at k1
      obtain ⟨a,h1,h2,h3⟩ := (si.grow w1).mut hm er
      refine ⟨_,h1,r,G1,si.grow w1,?_⟩
      refine zae (zbh (m := m) (si.grow w1) rfl (oTo.gle k1 w1.ge)) fun kk k2 kv G2 H2 w2 rk => ?_
      cases es : stoD d kk v with
      | none => simp only [es] at k2; exact (show False from k2).elim
      | some d' =>
        simp only [es] at k2
        obtain ⟨a',h1',h2',h3'⟩ := ((si.grow w1).grow w2).mut hm er
        rw [h1] at h1'; cases h1'
        exact zlJ w2.ok h2' rk (rv.mono w2.ge) es fun o' ob => k2 σ G2 _ w2.ge (h3' o' d' ob)
end
mutual
noncomputable def toPy : D→PyData
  | .non => .none
  | .bl b => .bool b
  | .int i => .int i
  | .str x => .str x
  | .tup ds => .tuple (zbq ds)
  | .lst ds => .list (zbq ds)
  | .dic _ => .none
  | .obj _ _ => .none
noncomputable def zbq : List D→List PyData
  | [] => []
  | d::ds => toPy d::zbq ds
end
noncomputable def Shp : Nat→D→Prop
  | _,.non => True
  | _,.bl _ => True
  | _,.int _ => True
  | _,.str x => PyData.strOk x = true
  | 0,.tup _ => False
  | 0,.lst _ => False
  | k + 1,.tup ds => ∀ d∈ds,Shp k d
  | k + 1,.lst ds => ∀ d∈ds,Shp k d
  | _,.dic _ => False
  | _,.obj _ _ => False
theorem zhy {k : Nat} {ds : List D} : Shp (k + 1) (.lst ds)↔∀ d∈ds,Shp k d := by simp only [Shp]
theorem zdo {k : Nat} {ds : List D} : Shp (k + 1) (.tup ds)↔∀ d∈ds,Shp k d := by simp only [Shp]
noncomputable def eqb (a b : D) : Bool := PyData.eqv (toPy a) (toPy b)
section
variable {X : Cx} {pins : List (Addr × Obj)} {σ : L2.St} {H : Hp} {s : Shared} {G : GH}
theorem zfu {k : Nat} (ih : ∀ (d : D) (v : V) (u : Value),Shp k d→RG X.K G v d→L2.RelV v u→∃ as,Reads s.heap u (toPy d) as) (ds : List D) (vs : List V) (us : List Value) (h : ∀ d∈ds,Shp k d) (r : RGs X.K G vs ds) (q : Vals vs us) : ∃ as,ReadsAll s.heap us (zbq ds) as := by
  induction r generalizing us with
  | nil => cases q; exact ⟨[],.nil⟩
  | cons r t ih' =>
    cases q with
    | cons r' t' =>
      obtain ⟨a1,h1⟩ := ih _ _ _ (h _ List.mem_cons_self) r r'
      obtain ⟨a2,h2⟩ := ih' _ (fun x hx => h x (List.mem_cons_of_mem _ hx)) t'
      exact ⟨a1++a2,.cons h1 h2⟩
theorem zdT (I : Inv X pins σ H s) (gk : GOk X.K G H) : ∀ (k : Nat) (d : D) (v : V) (u : Value),Shp k d→RB X.K G H v d→L2.RelV v u→∃ as,Reads s.heap u (toPy d) as := by
  intro k
  induction k with
  | zero =>
    intro d v u hs r ru
    cases d with
    | non => rw [r.non gk] at ru; cases ru; exact ⟨_,.none⟩
    | bl b => rw [r.bl gk] at ru; cases ru; exact ⟨_,.bool b⟩
    | int i => rw [r.int gk] at ru; obtain ⟨t,rfl⟩ := ru; exact ⟨_,.int i t⟩
    | str x => rw [r.str gk] at ru; obtain ⟨t,rfl⟩ := ru; exact ⟨_,.str x t⟩
    | tup _ => unfold Shp at hs; exact hs.elim
    | lst _ => unfold Shp at hs; exact hs.elim
    | dic _ => unfold Shp at hs; exact hs.elim
    | obj _ _ => unfold Shp at hs; exact hs.elim
  | succ k ih =>
    intro d v u hs r ru
    cases d with
    | non => rw [r.non gk] at ru; cases ru; exact ⟨_,.none⟩
    | bl b => rw [r.bl gk] at ru; cases ru; exact ⟨_,.bool b⟩
    | int i => rw [r.int gk] at ru; obtain ⟨t,rfl⟩ := ru; exact ⟨_,.int i t⟩
    | str x => rw [r.str gk] at ru; obtain ⟨t,rfl⟩ := ru; exact ⟨_,.str x t⟩
    | tup ds =>
      obtain ⟨a,xs,rfl,sq,rs⟩ := r.tup gk
      cases ru
      obtain ⟨its,rv,pl,_⟩ := I.tuple sq
      obtain ⟨o,ho,hc,n,hd⟩ := pl
      obtain ⟨as,h⟩ := zfu (k := k) (fun d v u h1 h2 h3 => ih d v u h1 h2.rb h3) ds xs its (zdo.mp hs) rs rv
      refine ⟨as,?_⟩
      unfold toPy
      exact .tuple ho hc hd (by simpa using h)
    | lst ds =>
      obtain ⟨a,xs,rfl,sq,rs⟩ := r.lst gk
      cases ru
      obtain ⟨its,rv,pl,_⟩ := I.list sq
      obtain ⟨o,ho,hc,n,hd⟩ := pl.isList
      obtain ⟨as,h⟩ := zfu (k := k) (fun d v u h1 h2 h3 => ih d v u h1 h2.rb h3) ds xs its (zhy.mp hs) rs rv
      refine ⟨a::as,?_⟩
      unfold toPy
      exact .list ho hc hd (by simpa using h)
    | dic _ => unfold Shp at hs; exact hs.elim
    | obj _ _ => unfold Shp at hs; exact hs.elim
theorem zfV {k : Nat} (ih : ∀ d,Shp k d→PyData.canLay0 (toPy d) = true∧PyData.depth (toPy d)≤k) : ∀ ds : List D,(∀ d∈ds,Shp k d)→PyData.canLayAll0 (zbq ds) = true∧PyData.depthAll (zbq ds)≤k
  | [],_ => by unfold zbq PyData.canLayAll0 PyData.depthAll; exact ⟨rfl,Nat.zero_le _⟩
  | d::ds,h => by
    obtain ⟨a1,a2⟩ := ih d (h d List.mem_cons_self)
    obtain ⟨b1,b2⟩ := zfV ih ds fun x hx => h x (List.mem_cons_of_mem _ hx)
    unfold zbq PyData.canLayAll0 PyData.depthAll
    rw [a1,b1]
    exact ⟨rfl,Nat.max_le.mpr ⟨a2,b2⟩⟩
theorem zlO : ∀ (k : Nat) (d : D),Shp k d→PyData.canLay0 (toPy d) = true∧PyData.depth (toPy d)≤k := by
  intro k
  induction k with
  | zero =>
    intro d hs
    cases d with
    | non => unfold toPy PyData.canLay0 PyData.depth; exact ⟨rfl,Nat.zero_le _⟩
    | bl b => unfold toPy PyData.canLay0 PyData.depth; exact ⟨rfl,Nat.zero_le _⟩
    | int i => unfold toPy PyData.canLay0 PyData.depth; exact ⟨rfl,Nat.zero_le _⟩
    | str x => unfold Shp at hs; unfold toPy PyData.canLay0 PyData.depth; exact ⟨hs,Nat.zero_le _⟩
    | tup _ => unfold Shp at hs; exact hs.elim
    | lst _ => unfold Shp at hs; exact hs.elim
    | dic _ => unfold Shp at hs; exact hs.elim
    | obj _ _ => unfold Shp at hs; exact hs.elim
  | succ k ih =>
    intro d hs
    cases d with
    | non => unfold toPy PyData.canLay0 PyData.depth; exact ⟨rfl,Nat.zero_le _⟩
    | bl b => unfold toPy PyData.canLay0 PyData.depth; exact ⟨rfl,Nat.zero_le _⟩
    | int i => unfold toPy PyData.canLay0 PyData.depth; exact ⟨rfl,Nat.zero_le _⟩
    | str x => unfold Shp at hs; unfold toPy PyData.canLay0 PyData.depth; exact ⟨hs,Nat.zero_le _⟩
    | tup ds =>
      obtain ⟨b1,b2⟩ := zfV ih ds (zdo.mp hs)
      unfold toPy PyData.canLay0 PyData.depth
      exact ⟨b1,Nat.succ_le_succ b2⟩
    | lst ds =>
      obtain ⟨b1,b2⟩ := zfV ih ds (zhy.mp hs)
      unfold toPy PyData.canLay0 PyData.depth
      exact ⟨b1,Nat.succ_le_succ b2⟩
    | dic _ => unfold Shp at hs; exact hs.elim
    | obj _ _ => unfold Shp at hs; exact hs.elim
theorem zc2 {d : D} (h : Shp 60 d) : SeqAt.shaped (toPy d) = true := by
  obtain ⟨a,b⟩ := zlO 60 d h
  unfold SeqAt.shaped
  rw [a,decide_eq_true (Nat.le_trans b (by decide))]
  rfl
end
section
variable {X : Cx} {g : GE} {m mb : List Md} {e a b o c : Expr} {f fa fb fc : FE} {pos pos' : Pos}
noncomputable def zgV (a b : D) : Bool := zbZ a && zbZ b && scal (toV a) (toV b)
open Classical in
noncomputable def eqB (a b : D) : Option Bool := if zgV a b = true then some (eqs a b) else if Shp 60 a∧Shp 60 b then some (eqb a b) else none
noncomputable def eqD (a b : D) : Option D := (eqB a b).map .bl
noncomputable def neD (a b : D) : Option D := (eqB a b).map fun c => .bl (! c)
theorem zjw {a b : D} (h : zgV a b = false) (h1 : Shp 60 a) (h2 : Shp 60 b) : eqB a b = some (eqb a b) := by
  unfold eqB
  rw [if_neg (by rw [h]; exact Bool.false_ne_true),if_pos ⟨h1,h2⟩]
theorem zc5 {a b : D} (h : zgV a b = true) : eqB a b = some (eqs a b) := by
  unfold eqB
  rw [if_pos h]
@[simp] theorem eqB_int (a b : Int) : eqB (.int a) (.int b) = some (a == b) := zc5 rfl
@[simp] theorem eqB_str (a b : Str) : eqB (.str a) (.str b) = some (a == b) := zc5 rfl
@[simp] theorem eqB_non_int (b : Int) : eqB .non (.int b) = some false := zc5 rfl
@[simp] theorem eqB_int_non (b : Int) : eqB (.int b) .non = some false := zc5 rfl
@[simp] theorem eqB_non_non : eqB .non .non = some true := zc5 rfl
theorem zgs {a b : D} (h : scal (toV a) (toV b) = true) (fa : zbZ a = true) (fb : zbZ b = true) : decide (toV a = toV b) = eqs a b := by
  cases a <;> cases b <;> first
    | exact absurd (show false = true from fa) Bool.false_ne_true
    | exact absurd (show false = true from fb) Bool.false_ne_true
    | exact absurd (show false = true from h) Bool.false_ne_true
    | exact zgh
    | exact ziA
    | exact zgg
    | rfl
    | simp [toV,eqs,eqV]
noncomputable def zeX (K : PySem.W.Frag) (neg : Bool) : R2 := fun x y H Q => ∃ (G : GH) (d1 d2 : D),GOk K G H∧RB K G H x d1∧RB K G H y d2∧Shp 60 d1∧Shp 60 d2∧Q (.bl (if neg then ! eqb d1 d2 else eqb d1 d2)) H
theorem zfA (hu : X.A.units + 64 < cLine) : OpR X (compareOp .Eq) (zeX X.K false) := by
  intro pins s σ H x y v u Q I rx ry h
  obtain ⟨G,d1,d2,gk,r1,r2,s1,s2,q⟩ := h
  obtain ⟨as,h1⟩ := zdT I gk 60 d1 x v s1 r1 rx
  obtain ⟨bs,h2⟩ := zdT I gk 60 d2 y u s2 r2 ry
  exact SeqAt.compareEq_shaped h1 h2 (zc2 s1) (zc2 s2) hu ⟨.bl _,H,I,rfl,q⟩
theorem zhW (hu : X.A.units + 64 < cLine) : OpR X (compareOp .NotEq) (zeX X.K true) := by
  intro pins s σ H x y v u Q I rx ry h
  obtain ⟨G,d1,d2,gk,r1,r2,s1,s2,q⟩ := h
  obtain ⟨as,h1⟩ := zdT I gk 60 d1 x v s1 r1 rx
  obtain ⟨bs,h2⟩ := zdT I gk 60 d2 y u s2 r2 ry
  exact SeqAt.compareNe_shaped h1 h2 (zc2 s1) (zc2 s2) hu ⟨.bl _,H,I,rfl,q⟩
theorem eq_cases {a b : D} {c : Bool} (h : eqB a b = some c) : (zgV a b = true∧c = eqs a b)∨(Shp 60 a∧Shp 60 b∧c = eqb a b) := by
  unfold eqB at h
  split at h
  · rename_i hs; cases h; exact .inl ⟨hs,rfl⟩
  · split at h
    · rename_i hs; cases h; exact .inr ⟨hs.1,hs.2,rfl⟩
    · cases h
theorem zni {K : PySem.W.Frag} : OpD K (fun x y H Q => rEq x y H Q∨zeX K false x y H Q) eqD := by
  intro G H v1 v2 d1 d2 d Q gk r1 r2 e q
  unfold eqD at e
  cases ec : eqB d1 d2 with
  | none => rw [ec] at e; cases e
  | some c =>
    rw [ec] at e
    cases e
    rcases eq_cases ec with ⟨hs,rfl⟩ | ⟨s1,s2,rfl⟩
    · unfold zgV at hs
      rw [Bool.and_eq_true,Bool.and_eq_true] at hs
      obtain ⟨e1,_⟩ := RB.flat r1 gk hs.1.1
      obtain ⟨e2,_⟩ := RB.flat r2 gk hs.1.2
      refine .inl ⟨by rw [e1,e2]; exact hs.2,?_⟩
      rw [e1,e2,zgs hs.2 hs.1.1 hs.1.2]
      exact q _ G H (Grow.refl gk) (.scl (.bl _))
    · exact .inr ⟨G,d1,d2,gk,r1,r2,s1,s2,q _ G H (Grow.refl gk) (.scl (.bl _))⟩
theorem zn2 {K : PySem.W.Frag} : OpD K (fun x y H Q => rNe x y H Q∨zeX K true x y H Q) neD := by
  intro G H v1 v2 d1 d2 d Q gk r1 r2 e q
  unfold neD at e
  cases ec : eqB d1 d2 with
  | none => rw [ec] at e; cases e
  | some c =>
    rw [ec] at e
    cases e
    rcases eq_cases ec with ⟨hs,rfl⟩ | ⟨s1,s2,rfl⟩
    · unfold zgV at hs
      rw [Bool.and_eq_true,Bool.and_eq_true] at hs
      obtain ⟨e1,_⟩ := RB.flat r1 gk hs.1.1
      obtain ⟨e2,_⟩ := RB.flat r2 gk hs.1.2
      refine .inl ⟨by rw [e1,e2]; exact hs.2,?_⟩
      rw [e1,e2,zgs hs.2 hs.1.1 hs.1.2]
      exact q _ G H (Grow.refl gk) (.scl (.bl _))
    · exact .inr ⟨G,d1,d2,gk,r1,r2,s1,s2,q _ G H (Grow.refl gk) (.scl (.bl _))⟩
theorem s_eq (hu : X.A.units + 64 < cLine) (ha : SB X g m a fa) (hb : SB X g m b fb) : SE X g m (.Compare a [.Eq] [b] pos) (f2 fa fb eqD) := zi0 (OpR.or zmF (zfA hu)) zni ha hb (zdJ _)
theorem q_eq (hu : X.A.units + 64 < cLine) (ha : SB X g m a fa) (hb : SB X g m b fb) : SQ X g m (.Compare a [.Eq] [b] pos) (zaR (f2 fa fb eqD)) := zg6 (OpR.or zmF (zfA hu)) zni ha hb (zdJ _)
theorem q_ne (hu : X.A.units + 64 < cLine) (ha : SB X g m a fa) (hb : SB X g m b fb) : SQ X g m (.Compare a [.NotEq] [b] pos) (zaR (f2 fa fb neD)) := zg6 (OpR.or znX (zhW hu)) zn2 ha hb (zdJ _)
noncomputable def zfI (fa fb fc : FE) (k k' : D→D→Option D) : FE := fun r => (fa r).bind fun x => (fb r).bind fun y => (opt (k x y)).bind fun z => (opt (asB z)).bind fun c => if c = true then (fc r).bind fun w => opt (k' y w) else .ok (.bl false)
noncomputable def zmc (K : PySem.W.Frag) : R2 := fun x y H Q => ∃ l b xs zs,x = .ref l∧y = .ref b∧SqL K H l xs∧SqL K H b zs∧xs.length + zs.length≤sizeLine∧∀ p,H p = none→Q (.ref p) (upd H p (.lst (xs++zs)))
theorem zkU : OpR X (binaryOp .Add) (zmc X.K) := by
  intro pins s σ H x y v u Q I rx ry h
  obtain ⟨l,b,xs,zs,rfl,rfl,hH,hB,hz,q⟩ := h
  cases rx
  cases ry
  obtain ⟨its,r,pl,_⟩ := I.list hH
  obtain ⟨its2,r2,pl2,_⟩ := I.list hB
  have l1 := r.length
  have l2 := r2.length
  obtain ⟨⟨cls,dd,data,sl⟩,ho,hc,n,hd⟩ := pl.isList
  obtain ⟨⟨cls2,dd2,data2,sl2⟩,ho2,hc2,n2,hd2⟩ := pl2.isList
  simp only at hc hd hc2 hd2
  subst hc hd hc2 hd2
  have e : its.toArray++its2.toArray = (its++its2).toArray := by simp
  refine concat_meets ⟨_,ho,rfl⟩ ⟨_,ho2,rfl⟩ noFill_list_add seq_list_add PySem.F.slot_list_add PySem.F.entry_list_add (PySem.F.args_list_add_2 _ _) (list_addW _ _ its.toArray its2.toArray n n2 dd dd2 sl sl2 (by simp; omega)) ⟨ho,ho2,?_⟩
  rw [e]
  exact ⟨.ref _,_,I.lnew (t' := s.toks) (r.append r2) (by rw [List.length_append]; omega),rfl,q _ I.fresh⟩
noncomputable def addA : D→D→Option D
  | .int a,.int b => some (.int (a + b))
  | .str a,.str b => if a.length + b.length≤sizeLine then some (.str (a++b)) else none
  | .lst a,.lst b => if a.length + b.length≤sizeLine then some (.lst (a++b)) else none
  | .tup (x::a),.tup b => if (x::a).length + b.length≤sizeLine then some (.tup (x::a++b)) else none
  | _,_ => none
theorem zlp {K : PySem.W.Frag} : OpD K (fun x y H Q => (∃ i j,x = .int i∧y = .int j∧Q (.int (i + j)) H)∨(∃ i j,x = .str i∧y = .str j∧i.length + j.length≤sizeLine∧Q (.str (i++j)) H)∨zmc K x y H Q∨zmb K x y H Q) addA := by
  intro G H v1 v2 d1 d2 d Q gk r1 r2 e q
  unfold addA at e
  split at e
  · cases e
    exact .inl ⟨_,_,r1.int gk,r2.int gk,q _ G H (Grow.refl gk) (.scl (.int _))⟩
  · split at e
    · rename_i hl
      cases e
      exact .inr (.inl ⟨_,_,r1.str gk,r2.str gk,hl,q _ G H (Grow.refl gk) (.scl (.str _))⟩)
    · cases e
  · split at e
    · rename_i hl
      cases e
      obtain ⟨a,xs,rfl,s1,t1⟩ := r1.lst gk
      obtain ⟨b,ys,rfl,s2,t2⟩ := r2.lst gk
      have l1 := Paired.length t1
      have l2 := Paired.length t2
      exact .inr (.inr (.inl ⟨a,b,xs,ys,rfl,rfl,s1,s2,by omega,fun p hp => q _ _ _ (Grow.newF gk hp (.lst (.inl zar) (Paired.app t1 t2))) (.ref zan)⟩))
    · cases e
  · split at e
    · rename_i x0 a0 b0 hl
      cases e
      rcases r1 with r1 | ⟨a',_,oo⟩
      · obtain ⟨a,xs,rfl,s1,t1⟩ := r1.tup gk
        obtain ⟨b,ys,rfl,s2,t2⟩ := r2.tup gk
        have l1 := Paired.length t1
        have l2 := Paired.length t2
        refine .inr (.inr (.inr ⟨a,b,xs,ys,rfl,rfl,s1,s2,?_,by omega,fun hy => ?_,fun _ p hp => q _ _ _ (Grow.newF gk hp (.tup (.inl zar) (Paired.app t1 t2))) (.ref zan)⟩))
        · rintro rfl
          cases t1
        · subst hy
          cases t2
          refine q _ G H (Grow.refl gk) ?_
          rw [List.append_nil]
          exact r1
      · cases oo.ob
    · cases e
  · cases e
theorem zbN (ha : SB X g m a fa) (hb : SB X g m b fb) : SE X g m (.BinOp a .Add b pos) (f2 fa fb addA) := zf1 (OpR.or zmG (OpR.or zg7 (OpR.or zkU zkT))) zlp ha hb
end
end DL
end
section
namespace DL
open PySem PySem.Spec PyProof.Rows L2
structure DefAt (K : PySem.W.Frag) (mg : Str→Option Value) (x : Str) (st : Stmt) : Prop where
  ex : ∃ f fd,mg x = some (.ref f)∧Fun K x x st f fd
structure Callee (P : Program) (w : World) (K : PySem.W.Frag) (mg : Str→Option Value) (base : Heap) (x : Str) (ps : List Str) (ds : List Value) (k : Nat) (ro : Bool) (ms : List Md) (F : List D→Res D) : Prop where
  ex : ∃ f fd,mg x = some (.ref f)∧PySem.W.keepIn K (.ref f) = true∧zeB K fd ps ds∧FnOk P w K mg base CX0 k f fd ps (spM K ro ms F)
section
variable {P : Program} {w : World} {K : PySem.W.Frag} {mg : Str → Option Value} {base : Heap}
theorem zaF {x : Str} {st : Stmt} {N ps : List Str} {k : Nat} {ro : Bool} {ms : List Md} {fs : FS} {m' : List Md} (A : DefAt K mg x st) (S : FnScope N ps (zab st)) (hms : ms.length = ps.length)
    (hb : ∀ (kV doc pm : Value) (an : Option Addr) (cdv ct : Value) (us : List Value),us.length = ps.length→bindArgs (PySem.W.fnOf x x (zcq st) (zbt st) (zab st) .none kV doc pm an cdv ct) ⟨us,[]⟩ = pure (ps.zip us))
    (hbody : ∀ (f : Addr) (cdv : Value) (A : Around) (outer : List Env) (s : Shared) (H : Hp) (g : GE) (E : XK),Room k (A.deeper (envOfC x (zab st) s.heap.objs.size f cdv)) →
      SSs (cxOf CX0 P w K mg base N x (zab st) f cdv A outer s H E).nox g ro [] (zd1 N.length ms) (zbt st) fs m') :
    Callee P w K mg base x ps [] (k + 1) ro ms fun ds => outR ro (fs (zal N.length ds)) := by
  obtain ⟨f,fd,h1,F⟩ := A.ex
  exact ⟨f,fd,h1,F.kp,F.binds hb,zkj F S hms (hbody f)⟩
structure DefAtD (K : PySem.W.Frag) (mg : Str→Option Value) (x : Str) (st : Stmt) (dds : List Value) : Prop where
  ex : ∃ (f T : Addr) (o : Obj) (n : Nat) (oc : Value) (od : Option Addr) (kV doc pm : Value) (an : Option Addr) (cdv ct : Value) (osl : Array (Option Value)),
    mg x = some (.ref f)∧K.lookup T = some o∧o.data = .seq dds.toArray n∧K.lookup f = some ⟨oc,od,.func (PySem.W.fnOf x x (zcq st) (zbt st) (zab st) (.ref T) kV doc pm an cdv ct),osl⟩∧PySem.W.codeIn K cdv x = true∧PySem.W.keepIn K (.ref f) = true
end
section
variable {X : Cx} {g : GE} {m : List Md} {e : Expr} {es : List Expr} {fl : Rho → Res (List D)} {k : Nat} {ps : List Str} {F : List D → Res D} {dvs : List V} {ds : List Value} {dds : List D} {x : Str} {p pos : Pos} {i : Nat} {ms ms' : List Md}
theorem zas (c : Callee X.prog X.w X.K X.mg X.base x ps ds k false ms' F) (hr : Room k X.A) (ha : SAM X g m (e::es) ms fl) (hms : ms' = ms++List.replicate dds.length .sh := by rfl) (hg : Gl X x := by rfl) (hd : Vals dvs ds := by exact .nil) (hsc : Paired Scl dvs dds := by exact .nil)
    (hdb : (x == ("__debug__" : Str)) = false := by decide) (he : starEach (e::es) X.env = (false,eval e X.env)::starEach es X.env := by rfl) (hpl : (backTo pos (starEach es X.env)).any (·.1) = false := by rfl) :
    SE X g m (.Call (.Name x p) (e::es) [] pos) (zau fl dds F) := by
  subst hms
  obtain ⟨f,fd,h1,h2,h3,h4⟩ := c.ex
  exact zlZ h4 hr hg h1 h2 h3 hd hsc ha hdb he hpl
theorem v_ (i : Nat) (hm : m[i]? = some .sh := by rfl) (hN : X.N[i]? = some x := by rfl) (hv : Vis X.env.scope x := by first | exact Or.inl rfl | exact Or.inr (Or.inl rfl) | exact Or.inr (Or.inr rfl)) (hd : (x == ("__debug__" : Str)) = false := by decide) (hcd : (x == ("__classdict__" : Str)) = false := by decide) :
    SE X g m (.Name x p) fun r => getV r i := znF i hm hN hv hd hcd
theorem vb_ (i : Nat) (hm : i < m.length := by decide) (hN : X.N[i]? = some x := by rfl) (hv : Vis X.env.scope x := by first | exact Or.inl rfl | exact Or.inr (Or.inl rfl) | exact Or.inr (Or.inr rfl)) (hd : (x == ("__debug__" : Str)) = false := by decide) (hcd : (x == ("__classdict__" : Str)) = false := by decide) :
    SB X g m (.Name x p) fun r => getV r i := zlQ i hm hN hv hd hcd
end
end DL
end
section
namespace DL
open PySem PySem.Spec PyProof.Rows L2
noncomputable def ziE (osc : Scope) (ON : List Str) (sc : Scope) (N' : List Str) (nl : Nat) (cap : List Nat) : Bool :=
  decide (sc.kind = .function) && sc.names.all (fun y => decide (y.2≠.cell)) && sc.names.all (fun y => decide (y.2≠.local) || decide (sc.names.lookup y.1 = some .local)) &&
  sc.names.all (fun y => decide (y.2≠.free) || (decide (osc.names.lookup y.1 = some .cell) || decide (osc.names.lookup y.1 = some .free))) && decide (N'.length = nl + cap.length) &&
  (List.range cap.length).all fun j => match N'[nl + j]?,ON[cap.getD j 0]? with
    | some x,some y => decide (x = y) && decide (sc.names.lookup x = some .free)
    | _,_ => false
theorem zaG {X : Cx} {osc : Scope} {ON : List Str} {sc : Scope} {N' : List Str} {nl : Nat} {cap : List Nat} (h1 : X.env.scope = osc) (h2 : X.N = ON) (h : ziE osc ON sc N' nl cap = true) : CompSc X sc N' nl cap := by
  subst h1 h2
  unfold ziE at h
  simp only [Bool.and_eq_true,List.all_eq_true,decide_eq_true_eq,Bool.or_eq_true] at h
  obtain ⟨⟨⟨⟨⟨a1,a2⟩,a3⟩,a4⟩,a5⟩,a6⟩ := h
  refine ⟨a1,a2,fun y hy hl => (a3 y hy).resolve_left fun z => z hl,fun y hy hf => (a4 y hy).resolve_left fun z => z hf,a5,fun j hj => ?_⟩
  have h6 := a6 j (List.mem_range.mpr hj)
  cases e1 : N'[nl + j]? with
  | none => rw [e1] at h6; cases h6
  | some x =>
    cases e2 : X.N[cap.getD j 0]? with
    | none => rw [e1,e2] at h6; cases h6
    | some y =>
      rw [e1,e2] at h6
      simp only [Bool.and_eq_true,decide_eq_true_eq] at h6
      exact ⟨x,rfl,by rw [h6.1],h6.2⟩
section
variable {X : Cx} {g : GE} {m mb : List Md} {e a b c : Expr} {f fa fb fc : FE} {pos pos' : Pos}
theorem zhi {R R' : R2} {k k' : D→D→Option D} (ho : OpD X.K R k) (ho' : OpD X.K R' k') {σ : L2.St} {H : Hp} {Q : VK} (h : tE X g m (zfI fa fb fc k k') σ H Q) : zjT R R' (tB X g m fa) (tB X g m fb) (tB X g m fc) σ H Q := by
  obtain ⟨r,G,si,q⟩ := h
  refine seq2 si q fun d1 d2 v1 v2 G2 H2 w r1 r2 q2 => ?_
  obtain ⟨z,ez,q3⟩ := zat (zad q2)
  obtain ⟨cc,ec,q4⟩ := zat (zad q3)
  refine ho G2 H2 v1 v2 d1 d2 z _ w.ok r1 r2 ez fun v G3 H3 w3 rv => ?_
  cases z with
  | bl b' =>
    cases ec
    refine ⟨_,rv.bl w3.ok,?_⟩
    cases cc with
    | false => rw [if_neg Bool.false_ne_true] at q4 ⊢; exact q4 _ G3 H3 (w.trans w3) (.scl (.bl _))
    | true =>
      rw [if_pos rfl] at q4 ⊢
      refine ⟨r,G3,(si.grow w).grow w3,zaz (zad q4) (w.trans w3) fun d3 q5 v3 G4 H4 w4 r3 => ?_⟩
      obtain ⟨d,e,q6⟩ := zat q5
      exact ho' G4 H4 v2 v3 d2 d3 d Q w4.ok ((r2.mono w3).mono w4) r3 e fun v G' H' w' z => q6 v G' H' (((w.trans w3).trans w4).trans w') z
  | _ => cases ec
theorem zi1 {op op' : CmpOp} {R R' : R2} {k k' : D→D→Option D} (hr : OpR X (compareOp op) R) (hr' : OpR X (compareOp op') R') (ho : OpD X.K R k) (ho' : OpD X.K R' k') (ha : SB X g m a fa) (hb : SB X g m b fb) (hc : SB X g m c fc)
    (hm : lastMarks [op,op'] [b,c] = false := by with_unfolding_all rfl) : SE X g m (.Compare a [op,op'] [b,c] pos) (zfI fa fb fc k k') := PE.imp (zjd hr hr' ha hb hc hm) fun σ H Q h => zhi ho ho' h
theorem zn0 {K : PySem.W.Frag} : OpD K (rI0 fun i j => V.bl (decide (i < j))) ltI := zds fun _ _ => .bl _
theorem zn1 {K : PySem.W.Frag} : OpD K (rI0 fun i j => V.bl (decide (i≤j))) leI := zds fun _ _ => .bl _
end
end DL
end
section
namespace DL
open PySem PySem.Spec PyProof.Rows L2
theorem zoq {K : PySem.W.Frag} {h : Heap} {mg : Str→Option Value} {x : Str} {st : Stmt} (KX : K.In h) (G : h.Ns mainGlobals mg) {f : Addr} {oc : Value} {od an : Option Addr} {osl : Array (Option Value)} {kV doc pm cdv ct : Value} (a : PySem.W.nsIn K mainGlobals x = some (some (.ref f)))
    (l : K.lookup f = some ⟨oc,od,.func (PySem.W.fnOf x x (zcq st) (zbt st) (zab st) .none kV doc pm an cdv ct),osl⟩) (c : PySem.W.codeIn K cdv x = true) (k : PySem.W.keepIn K (.ref f) = true) : DefAt K mg x st :=
  ⟨f,_,PySem.W.mg_of KX G a,znc l c k⟩
theorem zon {P : Program} {w : World} {K : PySem.W.Frag} {mg : Str→Option Value} {x p : Str} {st : Stmt} {k : Nat} {F : List D→Res D} {fa : Addr} (hfa : mg x = some (.ref fa)) (A : DefAt K mg x st)
    (hb : ∀ (kV doc pm : Value) (an : Option Addr) (cdv ct : Value) (us : List Value),us.length = [p].length→bindArgs (PySem.W.fnOf x x (zcq st) (zbt st) (zab st) .none kV doc pm an cdv ct) ⟨us,[]⟩ = pure ([p].zip us))
    (C : ∀ (f : Addr) (fd : FuncData),Fun K x x st f fd→∀ base : Heap,FnOk P w K mg base CX0 k f fd [p] (spM K false [.sh] F)) :
    ∃ fd : FuncData,(∀ (s : Shared) (u : Value),BindsTo s fd ⟨[u],[]⟩ [(p,u)])∧∀ base : Heap,K.In base→base.Ns mainGlobals mg→FnOk P w K mg base CX0 k fa fd [p] (spM K false [.sh] F) := by
  obtain ⟨f,fd,h1,Fn⟩ := A.ex
  rw [hfa] at h1
  cases h1
  refine ⟨fd,fun s u => ?_,fun base _ _ => C fa fd Fn base⟩
  obtain ⟨oc,od,kV,doc,pm,an,cdv,ct,osl,rfl,lk,hcd⟩ := Fn.ex
  exact .of_eq (hb kV doc pm an cdv ct [u] rfl)
theorem zor {l : PySem.W.OpenLaw} {k : Nat} {q : Program} {loose : List Str} {XP : (Str→Option Value)→Heap→Prop} {YP : World→Heap→Prop} {d : DefRec} {K : Params→PySem.W.Frag} {x : Str} {F : List D→Res D} (hn : l.most = some 63) (hdf : d.params.defaults = []) (hr : Room k callerA)
    (hY : ∀ (w : World) (h : Heap),YP w h→(K w.params).In h) (hF : ∀ ns : List Int,ns.length≤63→F [.lst (ns.map .int)] = .ok (.bl true))
    (C : ∀ (w : World) (mg : Str→Option Value) (fa : Addr) (h : Heap),(K w.params).In h→h.Ns mainGlobals mg→mg d.name = some (.ref fa) →
      ∃ fd : FuncData,(∀ (s : Shared) (u : Value),BindsTo s fd ⟨[u],[]⟩ [(x,u)])∧∀ base : Heap,(K w.params).In base→base.Ns mainGlobals mg→FnOk l.prog w (K w.params) mg base CX0 k fa fd [x] (spM (K w.params) false [.sh] F)) :
    PySem.W.WalkO q loose XP YP l.row.toRowW d [] (fun f vs => PySem.call f vs) := by
  refine L2.walk_of (n := 63) (k := k) (x := x) (CX := fun _ => CX0) (sp := fun w => spM (K w.params) false [.sh] F) hn (by decide) hdf hr hY C (fun w H a ns hl hO hS => ?_) fun _ _ _ _ _ z => z
  have intsP : ∀ (l : List Int),Paired Scl (l.map V.int) (l.map D.int) := fun l => by
    induction l with
    | nil => exact .nil
    | cons i l ih => exact .cons (.int i) ih
  rcases hS with hS | hS
  · refine ⟨fun b => if b = a then some (.lst (ns.map D.int)) else none,[.lst (ns.map .int)],fun b d' hb => ?_,.sh (.ref (if_pos rfl)) .nil,?_⟩
    · by_cases e : b = a
      · subst e
        have hb' : some (D.lst (ns.map D.int)) = some d' := (if_pos rfl).symm.trans hb
        cases hb'
        exact .lst hS (Paired.mono (fun _ _ z => .scl z) (intsP ns))
      · have hb' : (none : Option D) = some d' := (if_neg e).symm.trans hb
        cases hb'
    · rw [hF ns hl]
      intro v G' H' w' rv
      exact rv.bl w'.ok
  · refine ⟨fun _ => none,[.lst (ns.map .int)],fun b d' hb => (by cases hb),.sh (.kc (.lst (.inr hS) (intsP ns))) .nil,?_⟩
    rw [hF ns hl]
    intro v G' H' w' rv
    exact rv.bl w'.ok
end DL
end
section
namespace DL
open PySem PySem.Spec PyProof.Rows L2
open AutoSeq1 (wpAny_loadPart')
section
variable {prog : Program} {w : World} {A : Around} {E : Value → Shared → Prop} {s : Shared}
theorem zdu {it t : Addr} {i : Nat} {items} {x : Value} {Q : Value→Shared→Prop} (hit : s.heap.IsTupleIter it t i) (ht : s.heap.IsTuple t items) (hx : items[i]? = some x)
    (hQ : ∀ h',h'.IsTupleIter it t (i + 1)→Heap.SameBut it s.heap h'→Q x { s with heap := h' }) : wpAny (model prog w) A (Builtin.SmallTypes.nextOf (.ref it)) Q E s := by
  obtain ⟨o,ho,hc,hd⟩ := id hit
  obtain ⟨ol,hol,_,nl,hdl⟩ := ht
  unfold Builtin.SmallTypes.nextOf
  refine wpAny_bind (wpAny_callSpecial?_slot (name := Str.ofString "__next__") hit.typeIs F.slot_tuple_iterator_next
    (wpAny_call_entry F.slot_tuple_iterator_next hit.typeIs F.entry_tuple_iterator_next ?_ (F.args_tuple_iterator_next_1 _)))
  show wpAny _ _ (field (.ref it) 0 >>= _) _ _ s
  refine wpAny_bind (wpAny_field ho hd (x := .ref t) rfl ?_)
  show wpAny _ _ (if (Value.ref t == Value.none) = true then _ else _) _ _ s
  rw [if_neg (show ¬ ((Value.ref t == Value.none) = true) from Bool.false_ne_true)]
  show wpAny _ _ (field (.ref it) 1 >>= _) _ _ s
  refine wpAny_bind (wpAny_field ho hd (x := .int i 0) rfl ?_)
  show wpAny _ _ (seqItems? (.ref t) >>= _) _ _ s
  refine wpAny_bind (wpAny_seqItems hol hdl ?_)
  simp only [Int.toNat_natCast,hx]
  refine wpAny_bind (wpAny_setField ho hd (by simp) (wpAny_pure ⟨x,rfl,wpAny_pure (hQ _ ?_ (Heap.SameBut.update ..))⟩))
  exact ⟨_,Heap.get?_update_self _ ho (Obj.isFreed_of_fields (Obj.data_mapFields hd _)),(Obj.cls_mapFields ..).trans hc,by
    rw [Obj.data_mapFields hd]; simp [rawInt]⟩
theorem zdQ {it t : Addr} {i : Nat} {items} {Q : Value→Shared→Prop} (hh : A.handled = none) (hit : s.heap.IsTupleIter it t i) (ht : s.heap.IsTuple t items) (hx : items[i]? = none)
    (hE : ∀ h' e,Heap.ExtBut it s.heap h'→(∃ o,h'.get? e = some o∧o.cls = .type "StopIteration")→E (.ref e) { s with heap := h' }) : wpAny (model prog w) A (Builtin.SmallTypes.nextOf (.ref it)) Q E s := by
  obtain ⟨o,ho,hc,hd⟩ := id hit
  obtain ⟨ol,hol,_,nl,hdl⟩ := ht
  unfold Builtin.SmallTypes.nextOf
  refine wpAny_bind (wpAny_callSpecial?_slot (name := Str.ofString "__next__") hit.typeIs F.slot_tuple_iterator_next
    (wpAny_call_entry F.slot_tuple_iterator_next hit.typeIs F.entry_tuple_iterator_next ?_ (F.args_tuple_iterator_next_1 _)))
  show wpAny _ _ (field (.ref it) 0 >>= _) _ _ s
  refine wpAny_bind (wpAny_field ho hd (x := .ref t) rfl ?_)
  show wpAny _ _ (if (Value.ref t == Value.none) = true then _ else _) _ _ s
  rw [if_neg (show ¬ ((Value.ref t == Value.none) = true) from Bool.false_ne_true)]
  show wpAny _ _ (field (.ref it) 1 >>= _) _ _ s
  refine wpAny_bind (wpAny_field ho hd (x := .int i 0) rfl ?_)
  show wpAny _ _ (seqItems? (.ref t) >>= _) _ _ s
  refine wpAny_bind (wpAny_seqItems hol hdl ?_)
  simp only [Int.toNat_natCast,hx]
  refine wpAny_bind (wpAny_rule (wpAny_bind (wpAny_setField ho hd (by simp) ?_)))
  show wpAny _ _ (newExc (.type "StopIteration") [] >>= _) _ _ _
  refine wpAny_bind ?_
  simp only [newExc,newTuple]
  refine wpAny_bind (wpAny_newObj_type ?_ (by size_fits))
  refine wpAny_bind (m := firstArgMember _ _) (wpAny_of_eq (a := Value.none) (by first | rfl | (simp only [firstArgMember]; rfl)) ?_)
  refine wpAny_newObj_type ?_ (by size_fits)
  simp only [raiseNew]
  refine wpAny_bind (wpAny_handled ?_)
  first | rw [show A.in1.handled = none from hh] | rw [hh]
  refine wpAny_bind (wpAny_pure (wpAny_throw ?_))
  exact hE _ _ (((Heap.SameBut.update ..).extBut.push _).push _) ⟨_,Heap.get?_push_size _ rfl,rfl⟩
end
theorem zix {prog : Program} {w : World} {A : Around} (hh : A.handled = none) (it l : Addr) (hne : l≠it) (items : Array Value) :
    Draws prog w A it [it,l] items.size (fun i v => items[i]? = some v) (fun i h => h.IsTupleIter it l i∧h.IsTuple l items) where
  live := fun _ _ st => let ⟨o,ho,_⟩ := st.1; ⟨o,ho⟩
  frame := fun _ _ _ st hk => ⟨let ⟨o,ho,r⟩ := st.1; ⟨o,hk it (by simp) o ho,r⟩,let ⟨o,ho,r⟩ := st.2; ⟨o,hk l (by simp) o ho,r⟩⟩
  item := fun i s Q E hi st hQ => by
    refine zdu st.1 st.2 (x := items[i]) (by simp [hi]) fun h' hit' hs' => ?_
    exact hQ _ h' s.toks (by simp [hi]) ⟨hit',st.2.extBut hs'.extBut hne⟩ hs'
  done := fun s Q E st hE => zdQ hh st.1 st.2 (by simp) hE
theorem zea (l : Addr) (items : Array Value) (n : Nat) (dct : Option Addr) (sl : Array (Option Value)) :
    Meets (Builtin.«enumerate.__new__» ⟨[.type "enumerate",.ref l],[]⟩) (fun _ R s => s.heap.get? l = some { cls := .type "tuple",dict := dct,data := .seq items n,slots := sl } ∧
      R (.ok (.ret (.ref (s.heap.push { cls := .type "tuple_iterator",data := .fields #[.ref l,.int 0 0] }).objs.size)))
        { s with heap := (s.heap.push { cls := .type "tuple_iterator",data := .fields #[.ref l,.int 0 0] }).push { cls := .type "enumerate",data := .fields #[.none,.bool false,.ref s.heap.objs.size,rawInt 0,.none,.none] } }) :=
  .of_wp fun prog w A R s h => by
    obtain ⟨hp,g,d,tk,os⟩ := s; obtain ⟨hl,h⟩ := h
    have hsub := sub_enumerate
    have hL : Heap.IsTuple (Shared.heap ⟨hp,g,d,tk,os⟩) l items := ⟨_,hl,rfl,n,rfl⟩
    wp_walk using wpAny_loadPart' hl
    refine wpAny_stack_any fun st => wpAny_pure ?_
    split
    · rename_i c _ _ _ _ _
      cases (c == Value.type "enumerate")
      · wp_walk using wpAny_loadPart' hl,wpAny_pyIter_tuple hL
        exact ⟨_,rfl,h⟩
      · wp_walk using wpAny_loadPart' hl,wpAny_pyIter_tuple hL
        exact ⟨_,rfl,h⟩
    · wp_walk using wpAny_loadPart' hl,wpAny_pyIter_tuple hL
      exact ⟨_,rfl,h⟩
section
variable {prog : Program} {w : World} {A : Around} {E : Value → Shared → Prop} {s : Shared}
theorem zei {l : Addr} {items : Array Value} {Q : Value→Shared→Prop} (hL : s.heap.IsTuple l items)
    (h : ∀ h',IsEnum h' (s.heap.objs.size + 1) s.heap.objs.size 0 .none→h'.IsTupleIter s.heap.objs.size l 0→h'.objs.size = s.heap.objs.size + 2 →
      (∀ b o,s.heap.get? b = some o→h'.get? b = some o)→Q (.ref (s.heap.objs.size + 1)) { s with heap := h' }) :
    wpAny (model prog w) A (call (.type "enumerate") [.ref l]) Q E s := by
  obtain ⟨⟨c,dct,dt,sl⟩,hl,hc,n,hd⟩ := hL
  replace hc : c = .type "tuple" := hc
  replace hd : dt = .seq items n := hd
  subst hc hd
  refine callType_new F.called_enumerate (by decide) (F.typeCall_enumerate_1 _) (F.newCall_enumerate_1 _) (fun obj => F.args_object_init_2 obj _) F.entry_enumerate_new
    (zea l items n dct sl) ⟨hl,?_⟩
  have hz : (s.heap.push { cls := .type "tuple_iterator",data := .fields #[.ref l,.int 0 0] }).objs.size = s.heap.objs.size + 1 := Heap.size_push ..
  show _∧_
  rw [hz]
  have he : IsEnum ((s.heap.push { cls := .type "tuple_iterator",data := .fields #[.ref l,.int 0 0] }).push
      { cls := .type "enumerate",data := .fields #[.none,.bool false,.ref s.heap.objs.size,rawInt 0,.none,.none] }) (s.heap.objs.size + 1) s.heap.objs.size 0 .none := by
    have := Heap.get?_push_size (s.heap.push { cls := .type "tuple_iterator",data := .fields #[.ref l,.int 0 0] })
      (o := { cls := .type "enumerate",data := .fields #[.none,.bool false,.ref s.heap.objs.size,rawInt 0,.none,.none] }) rfl
    rw [hz] at this; exact this
  refine ⟨⟨_,he,rfl⟩,h _ he ⟨_,Heap.get?_push_of_some _ (Heap.get?_push_size _ rfl),rfl,rfl⟩ (by rw [Heap.size_push,hz]) fun b o x => Heap.get?_push_of_some _ (Heap.get?_push_of_some _ x)⟩
end
theorem ze6 {X : Cx} {pins : List (Addr × Obj)} {σ : L2.St} {H : Hp} {s : Shared} {h' : Heap} {ch : List Addr} {T : Addr} {o : HO} {t' : Nat} (I : Inv X pins σ H s)
    (hch : ∀ b∈ch,FpOk X pins H b) (k : ∀ b ob,b∉ch→s.heap.get? b = some ob→h'.get? b = some ob) (hT : s.heap.objs.size≤T) (new : zaW X.prog X.w (upd H T o) h' T o) : Inv X pins σ (upd H T o) { s with heap := h',toks := t' } := by
  have hTn : H T = none := I.hok.fresh hT
  have trk : ∀ b u,H b = some u→b∉ch := fun b u e hb => by rw [(hch b hb).1] at e; cases e
  have neT : ∀ b ob,s.heap.get? b = some ob→b≠T := fun b ob e => Nat.ne_of_lt (Nat.lt_of_lt_of_le (Heap.lt_size e) hT)
  have keepU : ∀ b u,H b = some u→upd H T o b = some u := fun b u e => by rw [zam (za6 e hTn)]; exact e
  refine I.step (g' := s.gens) (d' := s.drawn) (ch := ch) (fun b hb => ?_) (fun b ob _ _ hc e _ => k b ob hc e) (fun b ob _ _ hc e _ => ⟨ob.slots,k b ob hc e⟩) (fun b ob hc e n => by rw [zam (neT b ob e)]; exact n)
    (fun b ob hc e => ⟨ob,k b ob hc e⟩) (fun b xs e => keepU b _ e) (fun b ob u e => keepU b _ e) (fun b ps e => ⟨#[],by rw [keepU b _ e]; simp⟩) (fun m hm => ?_) (fun b u e => ?_) I.bare
  · obtain ⟨z0,z1,z2,z3,z4,z5⟩ := hch b hb
    exact ⟨z3,z1,z4,z5⟩
  · obtain ⟨ob,es,ep,ho,r⟩ := hm
    exact ⟨ob,es,ep,k _ ob (fun hb => (hch _ hb).2.1 rfl) ho,r⟩
  · by_cases hb : b = T
    · subst hb
      rw [zar] at e
      cases e
      exact new
    · rw [zam hb] at e
      refine (I.hok b u e).stay (fun c v hc q => k c v ?_ q) (fun c q => keepU c _ q) fun c xs q => keepU c _ q
      rcases hc with z | z
      · rw [z]; exact trk b u e
      · exact trk c _ z
noncomputable def Ien (sq : Hp→List V→Prop) : It :=
  ⟨fun i H => ∃ xs x,sq H xs∧xs[i]? = some x,fun i H x H' => ∃ p v,H p = none∧x = .ref p∧H' = upd H p (.tup [.int i,v])∧∀ xs,sq H xs→xs[i]? = some v,fun i H => ∃ xs,sq H xs∧xs.length = i⟩
theorem zhS {P : Program} {w : World} {H : Hp} {h : Heap} {T : Addr} {i : Nat} {tk : Tok} {x : Value} {v : V} (hT : h.get? T = some { cls := .type "tuple",data := .seq #[.int i tk,x] }) (r : L2.RelV v x) : zaW P w H h T (.tup [.int i,v]) :=
  ⟨by show 2≤sizeLine; decide,[.int i tk,x],.cons ⟨tk,rfl⟩ (.cons r .nil),⟨_,hT,rfl,0,rfl⟩,_,hT,rfl⟩
theorem zgT {P : Program} {w : World} {K : PySem.W.Frag} {elts : List Expr} {k : Nat} {pos : Pos} (a it e : Addr) (hei : e≠it) : Turn P w K (.Tuple elts k pos) (Ien fun H xs => SqL K H a xs) [e,it] e (fun i h => (∃ old,IsEnum h e it i old)∧h.IsListIter it a i) where
  mem := by simp
  obj := fun i h st b hb => by
    obtain ⟨⟨old,he⟩,o,ho,hc,hd⟩ := st
    rcases List.mem_cons.mp hb with rfl | hb
    · exact ⟨_,he,fun v z => by have z' : Data.fields _ = Data.cell v := z; cases z'⟩
    · rw [List.mem_singleton.mp hb]
      exact ⟨o,ho,fun v z => by rw [hd] at z; cases z⟩
  keep := fun i h h' st kk => by
    obtain ⟨⟨old,he⟩,hi⟩ := st
    exact ⟨⟨old,kk e (by simp) _ he⟩,hi.at fun o q => kk it (by simp) o q⟩
  item := by
    intro X hP hw hK hc i pins s σ H E I hf st hg
    subst hP hw hK
    obtain ⟨xs,x,hq,hx⟩ := hg
    obtain ⟨its,rv,p,hz⟩ := I.list hq
    obtain ⟨⟨old,he⟩,hi⟩ := st
    obtain ⟨o1,ho1,hc1,hd1⟩ := id hi
    obtain ⟨o2,ho2,hc2,_⟩ := id p.isList
    have hai : a≠it := by rintro rfl; rw [ho1] at ho2; cases ho2; rw [hc1] at hc2; exact absurd hc2 (by decide)
    have hea : e≠a := by rintro rfl; rw [he] at ho2; cases ho2; exact absurd (show Value.type "enumerate" = _ from hc2) (by decide)
    have hlt : i < its.toArray.size := by
      have := (List.getElem?_eq_some_iff.mp hx).1
      rw [List.size_toArray,← rv.length]; exact this
    refine wpAny_pyNext_enum_itemD (Draws.list (A := X.A.in1) (show X.A.in1.handled = none from I.ok.hd hc) it a hai its.toArray) he ⟨hi,p.isList⟩ hlt hei (by simp [hei,hea]) fun y h' tk hP ho hs' hT hsz hk => ?_
    refine ⟨_,rfl,wpAny_letOwnedTupleGo_enum ho fun h'' he'' hs'' => ?_⟩
    obtain ⟨u,hu,ru⟩ := rv.get hx
    have hy : y = u := by
      have : its[i]? = some y := by simpa using hP
      rw [hu] at this; exact (Option.some.inj this).symm
    subst hy
    have hTe : s.heap.objs.size≠e := Nat.ne_of_gt (Heap.lt_size he)
    have hT'' : h''.get? s.heap.objs.size = some { cls := .type "tuple",data := .seq #[.int i tk,y] } := (hs''.2 _ hTe).trans hT
    refine ⟨.ref s.heap.objs.size,upd H s.heap.objs.size (.tup [.int i,x]),ze6 (s := s) (h' := h'') (t' := tk + 1) (ch := [e,it]) I hf (fun b ob hb q => ?_) (Nat.le_refl _) (zhS hT'' ru),rfl,⟨_,x,I.hok.fresh (Nat.le_refl _),rfl,rfl,fun ys hy => by rw [I.list_inj hy hq]; exact hx⟩,⟨⟨_,by simpa using he''⟩,hs'.1.extBut hs''.extBut (Ne.symm hei)⟩,fun b hb => ?_⟩
    · have hbe : b≠e := fun z => hb (by simp [z])
      exact (hs''.2 b hbe).trans (hk b ob hbe (fun z => hb (by simp [z])) q)
    · rw [zam ?_]
      · exact (hf b hb).1
      · rcases List.mem_cons.mp hb with rfl | hb
        · exact Nat.ne_of_lt (Heap.lt_size he)
        · rw [List.mem_singleton.mp hb]; exact Nat.ne_of_lt (Heap.lt_size ho1)
  done := by
    intro X hP hw hK hc i pins s σ H E I hf st hg
    subst hP hw hK
    obtain ⟨xs,hq,hx⟩ := hg
    obtain ⟨its,rv,p,hz⟩ := I.list hq
    obtain ⟨⟨old,he⟩,hi⟩ := st
    obtain ⟨o1,ho1,hc1,hd1⟩ := id hi
    obtain ⟨o2,ho2,hc2,_⟩ := id p.isList
    have hai : a≠it := by rintro rfl; rw [ho1] at ho2; cases ho2; rw [hc1] at hc2; exact absurd hc2 (by decide)
    obtain ⟨f0,f1,f2,f3,f4,f5⟩ := hf it (by simp)
    have hn : its.toArray.size = i := by rw [List.size_toArray,← rv.length]; exact hx
    refine wpAny_pyNext_enum_endD (Draws.list (A := X.A.in1) (show X.A.in1.handled = none from I.ok.hd hc) it a hai its.toArray) he ⟨by rw [hn]; exact hi,p.isList⟩ fun h' eb => ⟨rfl,I.turned (t' := s.toks) (fun b o hb q => eb b o hb q) f0 f1 f3 f4 f5⟩
  self := fun _ _ _ _ _ st h => let ⟨⟨_,he⟩,_⟩ := st; wpAny_pyIter_enum he h
theorem IsTupleIter.at' {h h' : Heap} {a t : Addr} {i : Nat} (x : h.IsTupleIter a t i) (hs : ∀ o,h.get? a = some o→h'.get? a = some o) : h'.IsTupleIter a t i := let ⟨o,ho,r⟩ := x; ⟨o,hs o ho,r⟩
theorem zgS {P : Program} {w : World} {K : PySem.W.Frag} {elts : List Expr} {k : Nat} {pos : Pos} (a it e : Addr) (hei : e≠it) : Turn P w K (.Tuple elts k pos) (Ien fun H xs => SqT K H a xs) [e,it] e (fun i h => (∃ old,IsEnum h e it i old)∧h.IsTupleIter it a i) where
  mem := by simp
  obj := fun i h st b hb => by
    obtain ⟨⟨old,he⟩,o,ho,hc,hd⟩ := st
    rcases List.mem_cons.mp hb with rfl | hb
    · exact ⟨_,he,fun v z => by have z' : Data.fields _ = Data.cell v := z; cases z'⟩
    · rw [List.mem_singleton.mp hb]
      exact ⟨o,ho,fun v z => by rw [hd] at z; cases z⟩
  keep := fun i h h' st kk => by
    obtain ⟨⟨old,he⟩,hi⟩ := st
    exact ⟨⟨old,kk e (by simp) _ he⟩,IsTupleIter.at' hi fun o q => kk it (by simp) o q⟩
  item := by
    intro X hP hw hK hc i pins s σ H E I hf st hg
    subst hP hw hK
    obtain ⟨xs,x,hq,hx⟩ := hg
    obtain ⟨its,rv,p,hz⟩ := I.tuple hq
    obtain ⟨⟨old,he⟩,hi⟩ := st
    obtain ⟨o1,ho1,hc1,hd1⟩ := id hi
    obtain ⟨o2,ho2,hc2,_⟩ := id p
    have hai : a≠it := by rintro rfl; rw [ho1] at ho2; cases ho2; rw [hc1] at hc2; exact absurd hc2 (by decide)
    have hea : e≠a := by rintro rfl; rw [he] at ho2; cases ho2; exact absurd (show Value.type "enumerate" = _ from hc2) (by decide)
    have hlt : i < its.toArray.size := by
      have := (List.getElem?_eq_some_iff.mp hx).1
      rw [List.size_toArray,← rv.length]; exact this
    refine wpAny_pyNext_enum_itemD (zix (A := X.A.in1) (show X.A.in1.handled = none from I.ok.hd hc) it a hai its.toArray) he ⟨hi,p⟩ hlt hei (by simp [hei,hea]) fun y h' tk hP ho hs' hT hsz hk => ?_
    refine ⟨_,rfl,wpAny_letOwnedTupleGo_enum ho fun h'' he'' hs'' => ?_⟩
    obtain ⟨u,hu,ru⟩ := rv.get hx
    have hy : y = u := by
      have : its[i]? = some y := by simpa using hP
      rw [hu] at this; exact (Option.some.inj this).symm
    subst hy
    have hTe : s.heap.objs.size≠e := Nat.ne_of_gt (Heap.lt_size he)
    have hT'' : h''.get? s.heap.objs.size = some { cls := .type "tuple",data := .seq #[.int i tk,y] } := (hs''.2 _ hTe).trans hT
    refine ⟨.ref s.heap.objs.size,upd H s.heap.objs.size (.tup [.int i,x]),ze6 (s := s) (h' := h'') (t' := tk + 1) (ch := [e,it]) I hf (fun b ob hb q => ?_) (Nat.le_refl _) (zhS hT'' ru),rfl,⟨_,x,I.hok.fresh (Nat.le_refl _),rfl,rfl,fun ys hy => by rw [I.tuple_inj hy hq]; exact hx⟩,⟨⟨_,by simpa using he''⟩,hs'.1.extBut hs''.extBut (Ne.symm hei)⟩,fun b hb => ?_⟩
    · have hbe : b≠e := fun z => hb (by simp [z])
      exact (hs''.2 b hbe).trans (hk b ob hbe (fun z => hb (by simp [z])) q)
    · rw [zam ?_]
      · exact (hf b hb).1
      · rcases List.mem_cons.mp hb with rfl | hb
        · exact Nat.ne_of_lt (Heap.lt_size he)
        · rw [List.mem_singleton.mp hb]; exact Nat.ne_of_lt (Heap.lt_size ho1)
  done := by
    intro X hP hw hK hc i pins s σ H E I hf st hg
    subst hP hw hK
    obtain ⟨xs,hq,hx⟩ := hg
    obtain ⟨its,rv,p,hz⟩ := I.tuple hq
    obtain ⟨⟨old,he⟩,hi⟩ := st
    obtain ⟨o1,ho1,hc1,hd1⟩ := id hi
    obtain ⟨o2,ho2,hc2,_⟩ := id p
    have hai : a≠it := by rintro rfl; rw [ho1] at ho2; cases ho2; rw [hc1] at hc2; exact absurd hc2 (by decide)
    obtain ⟨f0,f1,f2,f3,f4,f5⟩ := hf it (by simp)
    have hn : its.toArray.size = i := by rw [List.size_toArray,← rv.length]; exact hx
    refine wpAny_pyNext_enum_endD (zix (A := X.A.in1) (show X.A.in1.handled = none from I.ok.hd hc) it a hai its.toArray) he ⟨by rw [hn]; exact hi,p⟩ fun h' eb => ⟨rfl,I.turned (t' := s.toks) (fun b o hb q => eb b o hb q) f0 f1 f3 f4 f5⟩
  self := fun _ _ _ _ _ st h => let ⟨⟨_,he⟩,_⟩ := st; wpAny_pyIter_enum he h
end DL
end
section
namespace DL
open PySem PySem.Spec PyProof.Rows L2
noncomputable def tyN : D→Option String
  | .non => some "NoneType"
  | .bl _ => some "bool"
  | .int _ => some "int"
  | .str _ => some "str"
  | .tup _ => some "tuple"
  | .lst _ => some "list"
  | .dic _ => some "dict"
  | .obj _ _ => none
noncomputable def subT (t T : String) : Bool := t == T || (t == "bool" && T == "int")
noncomputable def isiD (T : String) (d : D) : Option D := (tyN d).map fun t => .bl (subT t T)
noncomputable def TyD (K : PySem.W.Frag) (x : V) (H : Hp) (t : String) : Prop := match x with
  | .non => t = "NoneType"
  | .bl _ => t = "bool"
  | .int _ => t = "int"
  | .str _ => t = "str"
  | .ref p => (t = "list"∧∃ xs,SqL K H p xs)∨(t = "tuple"∧∃ xs,SqT K H p xs)∨(t = "dict"∧∃ kvs,Rd H p (.dK kvs))
  | _ => False
theorem zlE {K : PySem.W.Frag} {G : GH} {H : Hp} {v : V} {d : D} {t : String} (gk : GOk K G H) (h : RB K G H v d) (e : tyN d = some t) : TyD K v H t := by
  cases d with
  | non => cases e; rw [h.non gk]; rfl
  | bl b => cases e; rw [h.bl gk]; rfl
  | int i => cases e; rw [h.int gk]; rfl
  | str x => cases e; rw [h.str gk]; rfl
  | tup ds => cases e; obtain ⟨a,xs,rfl,s,r⟩ := h.tup gk; exact .inr (.inl ⟨rfl,xs,s⟩)
  | lst ds => cases e; obtain ⟨a,xs,rfl,s,r⟩ := h.lst gk; exact .inl ⟨rfl,xs,s⟩
  | dic ds => cases e; obtain ⟨a,xs,rfl,s,r⟩ := h.dic gk; exact .inr (.inr ⟨rfl,xs,s⟩)
  | obj _ _ => cases e
section
variable {X : Cx} {g : GE} {m : List Md} {e a : Expr} {f : FE} {pos p p2 : Pos}
theorem zjI : zdk X (.builtin "isinstance") (fun xs H Q => ∃ x t T b,xs = [x,.ty T]∧TyD X.K x H t∧PySem.W.kitOne X.K (.type t) (.type T) = some b∧Q (.bl b) H) := by
  intro pins s σ H xs us Q I r h
  obtain ⟨x,t,T,b,rfl,ty,e,q⟩ := h
  obtain ⟨u,w',rfl,rx,ry⟩ := zlz r
  cases ry
  have fin : ∀ tk,EP X pins σ Q (.bool b) { s with toks := tk } := fun tk => ⟨.bl b,H,I.tok tk,rfl,q⟩
  cases x with
  | non => cases rx; cases (show t = "NoneType" from ty); exact PySem.W.kia_one PySem.W.kitx_none I.kIn True.intro e (fun z => nomatch z) fin
  | bl y => cases rx; cases (show t = "bool" from ty); exact PySem.W.kia_one PySem.W.kitx_bool I.kIn True.intro e (fun z => nomatch z) fin
  | int i => obtain ⟨t,rfl⟩ := rx; cases ty; exact PySem.W.kia_one PySem.W.kitx_int I.kIn True.intro e (fun z => nomatch z) fin
  | str i => obtain ⟨t,rfl⟩ := rx; cases ty; exact PySem.W.kia_one PySem.W.kitx_str I.kIn True.intro e (fun z => nomatch z) fin
  | ref p =>
    cases rx
    rcases ty with ⟨rfl,xs,hq⟩ | ⟨rfl,xs,hq⟩ | ⟨rfl,kvs,hq⟩
    · obtain ⟨its,_,pl,_⟩ := I.list hq
      obtain ⟨o,ho,hc,_⟩ := pl.isList
      exact PySem.W.kia_one PySem.W.kitx_list I.kIn ⟨o,ho,hc⟩ e (fun z => nomatch z) fin
    · obtain ⟨its,_,pl,_⟩ := I.tuple hq
      obtain ⟨o,ho,hc,_⟩ := pl
      exact PySem.W.kia_one PySem.W.kitx_tuple I.kIn ⟨o,ho,hc⟩ e (fun z => nomatch z) fin
    · obtain ⟨_,_,vs,_,pp⟩ := (show zaW X.prog X.w H s.heap p (.dK kvs) from hq.ok I.hok)
      obtain ⟨o,es,ep,h1,h2,_⟩ := pp
      exact PySem.W.kia_one PySem.W.kitx_dict I.kIn ⟨o,h1,h2.1⟩ e (fun z => nomatch z) fin
  | _ => exact (show False from ty).elim
theorem zeU (x : Str) (T : String) (hv : bootBuiltins x = some (.type T)) (hk : ∀ (d : D) (t : String),tyN d = some t→PySem.W.kitOne X.K (.type t) (.type T) = some (subT t T)) (hg : Gl X "isinstance") (hm : X.mg "isinstance" = none) (hgT : Gl X x) (hmT : X.mg x = none) (he : SB X g m e f)
    (hn : x≠"__name__" := by decide) (hd : (x == ("__debug__" : Str)) = false := by decide) (hs1 : starEach [e,.Name x p2] X.env = (false,eval e X.env)::starEach [.Name x p2] X.env := by rfl) (hs2 : starEach [.Name x p2] X.env = (false,eval (.Name x p2) X.env)::starEach [] X.env := by rfl)
    (hpl : (backTo pos (starEach [.Name x p2] X.env)).any (·.1) = false := by rfl) :
    SE X g m (.Call (.Name "isinstance" p) [e,.Name x p2] [] pos) (f1 f (isiD T)) := by
  refine PE.imp (zdU zjI hg hm (by first | exact PyProof.Rows.boot_isinstance | rfl) (zbY he (zbY (zkM (v := .ty T) hgT hmT hv rfl hn hd) zeI hs2) hs1) (by decide) (by decide) hs1 hpl) fun σ H Q ⟨r,G,si,q⟩ => ⟨r,G,si,zae (zad q) fun d q1 v G1 H1 w1 r1 => ?_⟩
  obtain ⟨d',e',q2⟩ := zat q1
  unfold isiD at e'
  cases et : tyN d with
  | none => rw [et] at e'; cases e'
  | some t =>
    rw [et] at e'
    cases e'
    exact ⟨v,t,T,_,rfl,zlE w1.ok r1 et,hk d t et,q2 _ G1 H1 w1 (.scl (.bl _))⟩
end
theorem zcY {d : D} {t : String} (h : tyN d = some t) {P : String→Prop} (h1 : P "NoneType") (h2 : P "bool") (h3 : P "int") (h4 : P "str") (h5 : P "tuple") (h6 : P "list") (h7 : P "dict") : P t := by
  cases d <;> cases h <;> assumption
theorem zk5 (K : PySem.W.Frag) (d : D) (t : String) (h : tyN d = some t) : PySem.W.kitOne K (.type t) (.type "int") = some (subT t "int") := zcY (P := fun t => PySem.W.kitOne K (.type t) (.type "int") = some (subT t "int")) h (by kernel_rfl) (by kernel_rfl) (by kernel_rfl) (by kernel_rfl) (by kernel_rfl) (by kernel_rfl) (by kernel_rfl)
theorem zgF (K : PySem.W.Frag) (d : D) (t : String) (h : tyN d = some t) : PySem.W.kitOne K (.type t) (.type "bool") = some (subT t "bool") := zcY (P := fun t => PySem.W.kitOne K (.type t) (.type "bool") = some (subT t "bool")) h (by kernel_rfl) (by kernel_rfl) (by kernel_rfl) (by kernel_rfl) (by kernel_rfl) (by kernel_rfl) (by kernel_rfl)
theorem zic (K : PySem.W.Frag) (d : D) (t : String) (h : tyN d = some t) : PySem.W.kitOne K (.type t) (.type "str") = some (subT t "str") := zcY (P := fun t => PySem.W.kitOne K (.type t) (.type "str") = some (subT t "str")) h (by kernel_rfl) (by kernel_rfl) (by kernel_rfl) (by kernel_rfl) (by kernel_rfl) (by kernel_rfl) (by kernel_rfl)
theorem zc3 (K : PySem.W.Frag) (d : D) (t : String) (h : tyN d = some t) : PySem.W.kitOne K (.type t) (.type "tuple") = some (subT t "tuple") := zcY (P := fun t => PySem.W.kitOne K (.type t) (.type "tuple") = some (subT t "tuple")) h (by kernel_rfl) (by kernel_rfl) (by kernel_rfl) (by kernel_rfl) (by kernel_rfl) (by kernel_rfl) (by kernel_rfl)
section
variable {X : Cx} {g : GE} {m : List Md} {e a b : Expr} {f fa : FE} {pos p pos2 p2 : Pos} {es : List Expr} {fl : Rho → Res (List D)}
end
end DL
end
section
namespace DL
open PySem PySem.Spec PyProof.Rows L2
noncomputable def MtD (K : PySem.W.Frag) (r : V→List V→Hp→VK→Prop) (k : D→List D→Option D) : Prop := ∀ (G : GH) (H : Hp) (v : V) (d : D) (vs : List V) (ds : List D) (d' : D) (Q : VK),GOk K G H→RB K G H v d→Paired (RB K G H) vs ds→k d ds = some d' →
  (∀ v' G' H',Grow K G H G' H'→RG K G' v' d'→Q v' H')→r v vs H Q
noncomputable def tyM (T : String) : D→Bool
  | .lst _ => T == "list"
  | .tup _ => T == "tuple"
  | .dic _ => T == "dict"
  | .str _ => T == "str"
  | .int _ => T == "int"
  | _ => false
theorem zlD {K : PySem.W.Frag} {G : GH} {H : Hp} {v : V} {d : D} {T : String} (gk : GOk K G H) (h : RB K G H v d) (t : tyM T d = true) : tyV K T v H := by
  cases d with
  | lst ds => obtain ⟨a,xs,rfl,s,r⟩ := h.lst gk; exact .inl ⟨eq_of_beq t,xs,s⟩
  | tup ds =>
    have e : T = "tuple" := eq_of_beq t
    rcases h with h | ⟨a,rfl,o⟩
    · cases h with
      | scl s => cases s
      | ref q =>
        cases gk _ _ q with
        | tup r s => exact .inr (.inl ⟨e,.inr ⟨_,r⟩⟩)
      | kc k =>
        cases k with
        | tup r s z => exact .inr (.inl ⟨e,.inl z⟩)
    · cases o.ob
  | dic ds => obtain ⟨a,xs,rfl,s,r⟩ := h.dic gk; exact .inr (.inr (.inl ⟨eq_of_beq t,.inl ⟨xs,s⟩⟩))
  | str x => rw [h.str gk]; exact eq_of_beq t
  | int x => rw [h.int gk]; exact eq_of_beq t
  | _ => cases t
noncomputable def fM (T : String) (fo : FE) (fl : Rho→Res (List D)) (k : D→List D→Option D) : FE := fun r => (fo r).bind fun d => if tyM T d = true then (fl r).bind fun ds => opt (k d ds) else .stuck
section
variable {X : Cx} {g : GE} {m mb : List Md} {e a b o : Expr} {es : List Expr} {f fa fb fo : FE} {fl : Rho → Res (List D)} {pos pos' apos cpos : Pos} {ro : Bool} {x name : Str} {T id : String} {R : V → List V → Hp → VK → Prop} {k : D → List D → Option D}
theorem s_bm (pa : PlainAttrs T) (slot : Slot T name id) (hty : typeOf (.builtin id) = pure (.type "method_descriptor")) (hmt : MtR X id R) (hk : MtD X.K R k) (ho : SB X g m o fo) (ha : SAB X g m (e::es) fl)
    (hbase : attributeBase o name X.env (eval o X.env) = eval o X.env := by rfl)
    (hfew : ((backTo cpos (starEach (e::es) X.env)).all (fun x => ! x.1) && (backToKw cpos (keywordEach [] X.env)).all (fun x => x.1.isSome) && decide ((e::es).length + ([] : List Keyword).length + (if ([] : List Keyword).isEmpty then 0 else 1) < 30)) = true := by rfl)
    (hline : (apos.endLine == cpos.line) = true := by rfl) (hst : starEach (e::es) X.env = (false,eval e X.env)::starEach es X.env := by rfl) (hplain : (backTo cpos (starEach es X.env)).any (·.1) = false := by rfl) :
    SE X g m (.Call (.Attribute o name apos) (e::es) [] cpos) (fM T fo fl k) := by
  refine PE.imp (zmv pa slot hty hmt ho ha hbase hfew hline hst hplain) fun σ H Q ⟨r,G,si,q⟩ => ⟨r,G,si,zae (zad q) fun d q1 v G1 H1 w1 r1 => ?_⟩
  by_cases ht : tyM T d = true
  · rw [if_pos ht] at q1
    refine ⟨zlD w1.ok r1 ht,r,G1,si.grow w1,zaz (zad q1) w1 fun ds q2 vs G2 H2 w2 rs => ?_⟩
    obtain ⟨d',e',q3⟩ := zat q2
    exact hk G2 H2 v d vs ds d' Q w2.ok (r1.mono w2) rs e' fun v' G' H' w' z => q3 v' G' H' ((w1.trans w2).trans w') z
  · rw [if_neg ht] at q1; exact q1.elim
noncomputable def isInt : D→Bool
  | .int _ => true
  | _ => false
noncomputable def znu : D→Option D
  | .dic kvs => some (.lst (kvs.map (·.2)))
  | _ => none
end
end DL
end
section
namespace DL
open PySem PySem.Spec PyProof.Rows L2
noncomputable def enuD : Nat→List D→List D
  | _,[] => []
  | i,d::ds => .tup [.int i,d]::enuD (i + 1) ds
theorem zc6 : ∀ (i : Nat) (ds : List D),(enuD i ds).length = ds.length
  | _,[] => rfl
  | i,d::ds => congrArg (· + 1) (zc6 (i + 1) ds)
theorem zfb : ∀ (i j : Nat) (ds : List D),(enuD i ds)[j]? = (ds[j]?).map fun d => D.tup [.int ((i + j : Nat) : Int),d]
  | _,_,[] => by simp [enuD]
  | i,0,d::ds => by simp [enuD]
  | i,j + 1,d::ds => by
    show (enuD (i + 1) ds)[j]? = _
    rw [zfb (i + 1) j ds]
    simp only [List.getElem?_cons_succ]
    rw [show i + 1 + j = i + (j + 1) by omega]
theorem zhn {K : PySem.W.Frag} {ds : List D} {G0 : GH} {sq : Hp→List V→Prop} (h : ∀ G H,Gle G0 G→GOk K G H→∃ xs,sq H xs∧RGs K G xs ds) : Yields K (Ien sq) (enuD 0 ds) G0 := by
  refine ⟨fun G H i w gk hi => ?_,fun G H i x H' d w gk y e => ?_,fun G H w gk => ?_⟩
  · obtain ⟨xs,s,r⟩ := h G H w gk
    rw [zc6] at hi
    have hl := Paired.length r
    exact ⟨xs,xs[i],s,List.getElem?_eq_getElem (by omega)⟩
  · obtain ⟨xs,s,r⟩ := h G H w gk
    obtain ⟨p,v,hp,rfl,rfl,hv⟩ := y
    rw [zfb] at e
    cases ed : ds[i]? with
    | none => rw [ed] at e; cases e
    | some d0 =>
      rw [ed] at e
      simp only [Option.map_some,Option.some.injEq,Nat.zero_add] at e
      subst e
      obtain ⟨v',e1,rv⟩ := Paired.get r ed
      have := hv xs s
      rw [e1] at this; cases this
      exact ⟨_,Grow.newF gk hp (.tup (.inl zar) (.cons (.scl (.int _)) (.cons rv .nil))),.ref zan⟩
  · obtain ⟨xs,s,r⟩ := h G H w gk
    rw [zc6]
    exact ⟨xs,s,Paired.length r⟩
noncomputable def fEnu (f : FE) : FI := fun r => (f r).bind fun d => (opt (za2 d)).bind fun ds => .ok (enuD 0 ds)
section
variable {X : Cx} {g : GE} {m : List Md} {e a : Expr} {f : FE} {pos p pos2 : Pos} {elts : List Expr} {kk : Nat}
theorem zhQ {te : TE} (hg : Gl X "enumerate") (hm : X.mg "enumerate" = none) (he : PE X e te) (hs : starEach [e] X.env = (false,eval e X.env)::starEach [] X.env := by rfl) : PI X (.Tuple elts kk pos2) (.Call (.Name "enumerate" p) [e] [] pos) (fun σ H R => te σ H fun x H1 =>
      (∃ a,x = .ref a∧(∃ xs,SqL X.K H1 a xs)∧R (Ien fun H xs => SqL X.K H a xs) H1)∨∃ a,x = .ref a∧(∃ xs,SqT X.K H1 a xs)∧R (Ien fun H xs => SqT X.K H a xs) H1) := by
  intro pins s σ H R I h
  refine Call_ (zeK I hg hm boot_enumerate (PyProof.Rows.callWith_type1 (thn (zbY he zeI hs pos pins s σ H (fun vs H1 => match vs with
    | [x] => (∃ a,x = .ref a∧(∃ xs,SqL X.K H1 a xs)∧R (Ien fun H xs => SqL X.K H a xs) H1)∨∃ a,x = .ref a∧(∃ xs,SqT X.K H1 a xs)∧R (Ien fun H xs => SqT X.K H a xs) H1
    | _ => False) I h) fun us s1 ⟨vs,H1,I1,r1,q1⟩ => ?_) hs rfl))
  · cases r1 with
    | nil => exact q1.elim
    | @cons x u xs us rx rt =>
    cases rt with
    | cons _ _ => exact q1.elim
    | nil =>
    have fin : ∀ {h' : Heap},h'.objs.size = s1.heap.objs.size + 2→(∀ b o,s1.heap.get? b = some o→h'.get? b = some o)→∀ b∈[s1.heap.objs.size + 1,s1.heap.objs.size],FpOk X pins H1 b := fun hz kp b hb => by
      have hge : s1.heap.objs.size≤b := by
        rcases List.mem_cons.mp hb with rfl | hb
        · exact Nat.le_succ _
        · rw [List.mem_singleton.mp hb]; exact Nat.le_refl _
      exact I1.fpOk hge (I1.hok.fresh hge)
    rcases q1 with ⟨a,rfl,⟨xs,hq⟩,q⟩ | ⟨a,rfl,⟨xs,hq⟩,q⟩
    · cases rx
      obtain ⟨its,rv,pl,hz⟩ := I1.list hq
      refine call_enumerate_list pl.isList fun h' he hi hsz kp => wpAny_pyIter_enum he ?_
      exact ⟨_,[s1.heap.objs.size + 1,s1.heap.objs.size],_,_,H1,rfl,I1.kept (t' := s1.toks) kp,zgT a _ _ (Nat.ne_of_gt (Nat.lt_succ_self _)),⟨⟨_,he⟩,hi⟩,fin hsz kp,q⟩
    · cases rx
      obtain ⟨its,rv,pl,hz⟩ := I1.tuple hq
      refine zei (show s1.heap.IsTuple a its.toArray from pl) fun h' he hi hsz kp => wpAny_pyIter_enum he ?_
      exact ⟨_,[s1.heap.objs.size + 1,s1.heap.objs.size],_,_,H1,rfl,I1.kept (t' := s1.toks) kp,zgS a _ _ (Nat.ne_of_gt (Nat.lt_succ_self _)),⟨⟨_,he⟩,hi⟩,fin hsz kp,q⟩
theorem zki (hg : Gl X "enumerate") (hm : X.mg "enumerate" = none) (he : SE X g m e f) (hs : starEach [e] X.env = (false,eval e X.env)::starEach [] X.env := by rfl) : SIt X g m (.Tuple elts kk pos2) (.Call (.Name "enumerate" p) [e] [] pos) (fEnu f) := by
  refine PI.imp (zhQ hg hm he hs) fun σ H R ⟨r,G,si,q⟩ => ⟨r,G,si,zae (zad q) fun d q v G' H' w rv => ?_⟩
  obtain ⟨ds,e,q⟩ := zat (zad q)
  cases d with
  | lst ds' =>
    cases e
    obtain ⟨a,xs,rfl,s,rs⟩ := rv.lst w.ok
    refine .inl ⟨a,rfl,⟨xs,s⟩,q _ G' H' w (zhn fun G H le gk => ?_)⟩
    obtain ⟨b,ys,e,s',r'⟩ := (rv.mono le).lst gk
    cases e
    exact ⟨ys,s',r'⟩
  | tup ds' =>
    cases e
    obtain ⟨a,xs,rfl,s,rs⟩ := rv.tup w.ok
    refine .inr ⟨a,rfl,⟨xs,s⟩,q _ G' H' w (zhn fun G H le gk => ?_)⟩
    obtain ⟨b,ys,e,s',r'⟩ := (rv.mono le).tup gk
    cases e
    exact ⟨ys,s',r'⟩
  | _ => cases e
end
end DL
end
section
namespace DL
open PySem PySem.Spec PyProof.Rows L2
inductive TupI (h : Heap) : Value→List Int→Prop where
  | mk {a : Addr} {items : Array Value} {ns : List Int} : IsTup h a items→IntsAre items.toList ns→TupI h (.ref a) ns
inductive TupsI (h : Heap) : List Value→List (List Int)→Prop where
  | nil : TupsI h [] []
  | cons {p : Value} {k : List Int} {ps : List Value} {ks : List (List Int)} : TupI h p k→TupsI h ps ks→TupsI h (p::ps) (k::ks)
theorem TupsI.length {h : Heap} : ∀ {ps : List Value} {ks : List (List Int)},TupsI h ps ks→ps.length = ks.length
  | _,_,.nil => rfl
  | _,_,.cons _ t => congrArg (· + 1) t.length
section
variable {prog : Program} {w : World} {A : Around} {s : Shared}
inductive TupR (h : Heap) : Value→List (List Int)→Prop where
  | mk {a : Addr} {items : List Value} {ks : List (List Int)} : IsTup h a items.toArray→TupsI h items ks→ks≠[]→TupR h (.ref a) ks
end
end DL
end
section
namespace DL
open PySem PySem.Spec PyProof.Rows L2
section
variable {X : Cx} {g : GE} {m : List Md} {e a : Expr} {f : FE} {pos p pos2 p2 : Pos}
end
end DL
end
section
namespace DL
open PySem PySem.Spec PyProof.Rows L2
theorem zaW.isS {P : Program} {w : World} {H : Hp} {h : Heap} {a : Addr} {o : HO} (x : zaW P w H h a o) : h.get? a≠none := by
  have s : ∀ {u : Obj},h.get? a = some u→h.get? a≠none := fun e z => by rw [z] at e; cases e
  cases o with
  | lst xs => obtain ⟨_,_,_,_,e⟩ := x; exact s e
  | tup xs => obtain ⟨_,_,_,⟨_,e,_⟩,_⟩ := x; exact s e
  | dK kvs => obtain ⟨_,_,_,_,o,_,_,e,_⟩ := x; exact s e
  | dT kvs => obtain ⟨_,_,_,_,o,_,_,e,_⟩ := x; exact s e
  | set S n => obtain ⟨o,_,_,_,e,_⟩ := x; exact s e
  | ins C dx fs => obtain ⟨_,_,_,e,_⟩ := x; exact s e
  | own y => obtain ⟨_,e⟩ := x; exact s e
  | xd fs => obtain ⟨_,⟨_,_,_,e,_⟩,_⟩ := x; exact s e
  | rng lo hi => obtain ⟨_,_,_,e⟩ := x; exact s e
  | frz ob u => obtain ⟨e,_⟩ := x; exact s e
  | tbl ps => exact s (show h.get? a = some _ from x)
  | met f y => exact s (show h.get? a = some _ from x)
  | ext φ => obtain ⟨_,⟨_,e⟩,_⟩ := x; exact s e
section
variable {X : Cx} {pins : List (Addr × Obj)} {σ : L2.St} {H : Hp} {s : Shared}
theorem TupI.stay {h h' : Heap} {L : Addr} {mm : Str→Option Value} (hL : h.Ns L mm) (k : ∀ b o,b≠L→h.get? b = some o→h'.get? b = some o) {p : Value} {ns : List Int} (x : TupI h p ns) : TupI h' p ns := by
  cases x with
  | mk ht hi =>
    obtain ⟨o,h1,h2,n,h3⟩ := ht
    refine .mk ⟨o,k _ _ ?_ h1,h2,n,h3⟩ hi
    rintro rfl
    obtain ⟨o',es,ep,e,d,_⟩ := hL
    rw [h1] at e; cases e
    rw [h3] at d; cases d
theorem TupsI.stay {h h' : Heap} {L : Addr} {mm : Str→Option Value} (hL : h.Ns L mm) (k : ∀ b o,b≠L→h.get? b = some o→h'.get? b = some o) : ∀ {ps : List Value} {ks : List (List Int)},TupsI h ps ks→TupsI h' ps ks
  | _,_,.nil => .nil
  | _,_,.cons x t => .cons (x.stay hL k) (t.stay hL k)
theorem TupR.stay {h h' : Heap} {L : Addr} {mm : Str→Option Value} (hL : h.Ns L mm) (k : ∀ b o,b≠L→h.get? b = some o→h'.get? b = some o) {p : Value} {ks : List (List Int)} (x : TupR h p ks) : TupR h' p ks := by
  cases x with
  | mk ht hi hn =>
    obtain ⟨o,h1,h2,n,h3⟩ := ht
    refine .mk ⟨o,k _ _ ?_ h1,h2,n,h3⟩ (hi.stay hL k) hn
    rintro rfl
    obtain ⟨o',es,ep,e,d,_⟩ := hL
    rw [h1] at e; cases e
    rw [h3] at d; cases d
end
end DL
end
section
namespace DL
open PySem PySem.Spec PyProof.Rows L2
section
variable {K : PySem.W.Frag} {G : GH} {H : Hp}
end
section
variable {X : Cx} {g : GE} {m : List Md} {a : Expr} {fl : Rho → Res (List D)} {pos p : Pos} {k : Nat}
end
end DL
end
section
namespace DL
open PySem PyProof.Rows PySem.SeqAt PySem.MeetsSeq PySem.MeetsSeq2 PySem.MeetsSeq3 L2
open PySem.AutoSeq1 (wpAny_loadPart')
end DL
end
section
namespace DL
open PySem PyProof.Rows L2
section
variable {prog : Program} {w : World} {A : Around} {E : Value → Shared → Prop} {s : Shared}
noncomputable def LisI (h : Heap) (u : Value) (ns : List Int) : Prop := ∃ a its,u = .ref a∧h.IsList a its∧IntsAre its.toList ns
end
end DL
end
section
namespace DL
open PySem PySem.Spec PyProof.Rows L2
section
variable {X : Cx} {pins : List (Addr × Obj)} {σ : L2.St} {H : Hp} {s : Shared}
theorem LisI.stay {h h' : Heap} {L : Addr} {mm : Str→Option Value} (hL : h.Ns L mm) (k : ∀ b o,b≠L→h.get? b = some o→h'.get? b = some o) {p : Value} {ns : List Int} (x : LisI h p ns) : LisI h' p ns := by
  obtain ⟨a,its,rfl,⟨o,h1,h2,n,h3⟩,hi⟩ := x
  refine ⟨a,its,rfl,⟨o,k _ _ ?_ h1,h2,n,h3⟩,hi⟩
  rintro rfl
  obtain ⟨o',es,ep,e,d,_⟩ := hL
  rw [h1] at e; cases e
  rw [h3] at d; cases d
end
section
variable {K : PySem.W.Frag} {G : GH} {H : Hp}
end
section
variable {X : Cx} {g : GE} {m : List Md} {a : Expr} {fl : Rho → Res (List D)} {pos p : Pos} {k : Nat}
end
end DL
end
section
namespace DL
open PySem PySem.Spec PyProof.Rows L2
section
variable {X : Cx} {pins : List (Addr × Obj)} {σ : L2.St} {H : Hp} {s : Shared}
theorem Inv.keptN {h' : Heap} (I : Inv X pins σ H s) (k : ∀ b o,b≠X.env.locals→s.heap.get? b = some o→h'.get? b = some o)
    (hns : ∀ m,s.heap.Ns X.env.locals m→h'.Ns X.env.locals m) (t' : Nat) : Inv X pins σ H { s with heap := h',toks := t' } := by
  have trkL : ∀ b u,H b = some u→b≠X.env.locals := fun b u e z => by rw [z,I.free] at e; cases e
  refine I.step (g' := s.gens) (d' := s.drawn) (ch := []) (fun b hb => absurd hb (by simp)) (fun b ob hL _ _ e _ => k b ob hL e) (fun b ob hL _ _ e _ => ⟨ob.slots,k b ob hL e⟩) (fun b ob _ e n => n)
    (fun b ob _ e => ?_) (fun b xs e => e) (fun b ob u e => e) (fun b ps e => ⟨#[],by rw [e]; simp⟩) hns (fun b u e => ?_) I.bare
  · by_cases hb : b = X.env.locals
    · subst hb
      obtain ⟨m,hn,_⟩ := I.loc
      obtain ⟨o,_,_,ho',_⟩ := hns m hn
      exact ⟨o,ho'⟩
    · exact ⟨ob,k b ob hb e⟩
  · refine (I.hok b u e).stay (fun cc v hc q => k cc v ?_ q) (fun cc q => q) fun cc xs q => q
    rcases hc with z | z
    · rw [z]; exact trkL b u e
    · exact trkL cc _ z
end
section
variable {X : Cx} {g : GE} {m : List Md} {e a b : Expr} {es : List Expr} {fl : Rho → Res (List D)} {fa fb : FE} {pos p : Pos}
end
end DL
end
section
namespace DL
open PySem PyProof.Rows L2
open PySem.AutoSeq1 (wpAny_loadPart')
section
variable {X : Cx}
end
end DL
end
section
namespace DL
open PySem PyProof.Rows PySem.W
noncomputable abbrev at0 (p : Array Nat) (i : Nat) : Nat := p.getD i 0
section
variable {n : Nat} {c : Nat → Nat → Bool} (as : ∀ i j, c i j = true → c j i = false) (tr : ∀ i j k, c j i = false → c k j = false → c k i = false)
noncomputable def Le (c : Nat→Nat→Bool) (i j : Nat) : Prop := c j i = false
noncomputable def Dn (c : Nat→Nat→Bool) (p : Array Nat) (k : Nat) : Prop := ∀ i,i + 1 < k→Le c (at0 p (i + 1)) (at0 p i)
noncomputable def Eqv (c : Nat→Nat→Bool) (i j : Nat) : Prop := Le c i j∧Le c j i
include tr in
theorem Eqv.trans {i j k : Nat} (h1 : Eqv c i j) (h2 : Eqv c j k) : Eqv c i k := ⟨tr _ _ _ h1.1 h2.1,tr _ _ _ h2.2 h1.2⟩
theorem Eqv.symm {i j : Nat} (h : Eqv c i j) : Eqv c j i := ⟨h.2,h.1⟩
include as tr in
include tr in
theorem Dn.eqv {p p' : Array Nat} {k : Nat} (h : Dn c p k) (e : ∀ i,Eqv c (at0 p' i) (at0 p i)) : Dn c p' k := fun i hi => tr _ _ _ (e (i + 1)).1 (tr _ _ _ (h i hi) (e i).2)
include as tr in
include as tr in
include as tr in
include as tr in
include as tr in
include as tr in
include as tr in
include as tr in
include as tr in
end
end DL
end
section
namespace DL
section
variable {α : Type} {lt : α → α → Bool} {d : α}
end
end DL
end
section
namespace DL
open PySem PySem.Spec PyProof.Rows L2
section
variable {X : Cx} {pins : List (Addr × Obj)} {σ : L2.St} {H : Hp} {s : Shared}
end
section
variable {X : Cx} {g : GE} {m : List Md} {a : Expr} {fl : Rho → Res (List D)} {pos p : Pos} {k : Nat}
end
end DL
end
section
namespace DL
open PySem PySem.Spec PyProof.Rows L2
section
variable {X : Cx} {pins : List (Addr × Obj)} {σ : L2.St} {H : Hp} {s : Shared}
theorem ziN (bs : List Bool) : ((List.range bs.length).all fun i => bs.getD i true) = bs.all id := by
  rw [Bool.eq_iff_iff,List.all_eq_true,List.all_eq_true]
  constructor
  · intro h b hb
    obtain ⟨i,hi,rfl⟩ := List.getElem_of_mem hb
    have := h i (List.mem_range.mpr hi)
    simpa [List.getD_eq_getElem?_getD,hi] using this
  · intro h i hi
    have hi := List.mem_range.mp hi
    have := h bs[i] (List.getElem_mem _)
    simpa [List.getD_eq_getElem?_getD,hi] using this
theorem ziM (bs : List Bool) : ((List.range bs.length).any fun i => bs.getD i true) = bs.any id := by
  rw [Bool.eq_iff_iff,List.any_eq_true,List.any_eq_true]
  constructor
  · rintro ⟨i,hi,h⟩
    have hi := List.mem_range.mp hi
    exact ⟨bs[i],List.getElem_mem _,by simpa [List.getD_eq_getElem?_getD,hi] using h⟩
  · rintro ⟨b,hb,h⟩
    obtain ⟨i,hi,rfl⟩ := List.getElem_of_mem hb
    exact ⟨i,List.mem_range.mpr hi,by simpa [List.getD_eq_getElem?_getD,hi] using h⟩
theorem zeC (hc : X.calm = true) (I : Inv X pins σ H s) {p : Addr} {bs : List Bool} (hq : SqL X.K H p (bs.map V.bl)) {A : Around} (hA : A.handled = none) {E : Value→Shared→Prop} {Q : Value→Shared→Prop}
    (h : ∀ I fp wr n P St tr it s₂,it = Value.ref I→Walks X.prog X.w A I fp wr n P St→St 0 s₂.heap→TruthOf X.prog X.w A P tr→n = bs.length→(∀ i,tr i = bs.getD i true) →
      (∀ (h' : Heap) (tk : Nat),(∀ (b : Addr) (o : Obj),¬b∈wr→s₂.heap.get? b = some o→h'.get? b = some o)→Inv X pins σ H { heap := h',gens := s₂.gens,drawn := s₂.drawn,toks := tk,os := s₂.os })→Q it s₂) :
    wpAny (model X.prog X.w) A (pyIter (.ref p)) Q E s := by
  obtain ⟨its,rv,pl,hz⟩ := I.list hq
  have hl := rv.length
  rw [List.length_map] at hl
  refine PySem.Flt.iter_list_ pl.isList fun s₂ e2 hi hlt hne => ?_
  refine h s.heap.objs.size [s.heap.objs.size,p] [s.heap.objs.size] its.toArray.size _ _ (fun i => bs.getD i true) _ s₂ rfl (Walks.list hA _ p hne its.toArray) hi ?_ (by rw [List.size_toArray,hl]) (fun i => rfl) fun h' tk k => ?_
  · intro i v s' Q' E' hv hq'
    have hv' : its[i]? = some v := by simpa using hv
    have hi : i < its.length := (List.getElem?_eq_some_iff.mp hv').1
    have hki : i < (bs.map V.bl).length := by rw [List.length_map]; omega
    obtain ⟨u,h1,h3⟩ := rv.get (i := i) (x := (bs.map V.bl)[i]) (List.getElem?_eq_getElem hki)
    rw [hv'] at h1
    cases h1
    rw [List.getElem_map] at h3
    have h3' : v = Value.bool bs[i] := h3
    subst h3'
    have e : bs.getD i true = bs[i] := by
      have hb : i < bs.length := by omega
      simp [List.getD_eq_getElem?_getD,hb]
    have hq2 : Q' (bs.getD i true) s' := hq'
    rw [e] at hq2
    exact wpAny_pure hq2
  · subst e2
    have ne : ∀ b o,s.heap.get? b = some o→¬ b∈[s.heap.objs.size] := fun b o e z => by
      have := List.mem_singleton.mp z
      subst this
      exact absurd (Heap.lt_size e) (Nat.lt_irrefl _)
    exact Inv.keptN I (fun b o _ e => k b o (ne b o e) (Heap.get?_push_of_some _ e)) (fun m ⟨o,es,ep,e,z⟩ => ⟨o,es,ep,k _ _ (ne _ _ e) (Heap.get?_push_of_some _ e),z⟩) tk
theorem zjK (hc : X.calm = true) : zdk X (.builtin "all") (fun xs H Q => ∃ (p : Addr) (bs : List Bool),xs = [.ref p]∧SqL X.K H p (bs.map V.bl)∧Q (.bl (bs.all id)) H) := by
  intro pins s σ H xs us Q I r h
  obtain ⟨p,bs,rfl,hq,q⟩ := h
  obtain ⟨u,rfl,rx⟩ := zev r
  cases rx
  refine call_all_walk (zeC hc I hq (show X.A.in1.handled = none from I.ok.hd hc) fun J fp wr n P St tr it s₂ e1 e2 e3 e4 e5 e6 e7 => ⟨J,fp,wr,n,P,St,tr,e1,e2,e3,e4,fun h' tk k => ?_⟩)
  have et : tr = fun i => bs.getD i true := funext e6
  rw [e5,et,ziN]
  exact ⟨.bl (bs.all id),H,e7 h' tk k,rfl,q⟩
theorem zjJ (hc : X.calm = true) : zdk X (.builtin "any") (fun xs H Q => ∃ (p : Addr) (bs : List Bool),xs = [.ref p]∧SqL X.K H p (bs.map V.bl)∧Q (.bl (bs.any id)) H) := by
  intro pins s σ H xs us Q I r h
  obtain ⟨p,bs,rfl,hq,q⟩ := h
  obtain ⟨u,rfl,rx⟩ := zev r
  cases rx
  refine call_any_walk (zeC hc I hq (show X.A.in1.handled = none from I.ok.hd hc) fun J fp wr n P St tr it s₂ e1 e2 e3 e4 e5 e6 e7 => ⟨J,fp,wr,n,P,St,tr,e1,e2,e3,e4,fun h' tk k => ?_⟩)
  have et : tr = fun i => bs.getD i true := funext e6
  rw [e5,et,ziM]
  exact ⟨.bl (bs.any id),H,e7 h' tk k,rfl,q⟩
end
noncomputable def zc7 : List D→Option (List Bool)
  | [] => some []
  | .bl b::ds => (zc7 ds).map (b::·)
  | _ => none
theorem ziL {K : PySem.W.Frag} {G : GH} {H : Hp} (gk : GOk K G H) {ds : List D} {xs : List V} {bs : List Bool} (h : RGs K G xs ds) (e : zc7 ds = some bs) : xs = bs.map V.bl := by
  induction h generalizing bs with
  | nil => cases e; rfl
  | @cons x d xs ds r t ih =>
    cases d with
    | bl b =>
      have e' : (zc7 ds).map (b::·) = some bs := e
      cases e1 : zc7 ds with
      | none => rw [e1] at e'; cases e'
      | some bs' =>
        rw [e1] at e'; cases e'
        rw [ih e1,List.map_cons,(RG.rb (H := H) r).bl gk]
    | _ => cases e
noncomputable def allD : List D→Option D
  | [.lst ds] => (zc7 ds).map fun bs => .bl (bs.all id)
  | _ => none
noncomputable def anyD : List D→Option D
  | [.lst ds] => (zc7 ds).map fun bs => .bl (bs.any id)
  | _ => none
theorem znq {K : PySem.W.Frag} : zhj K (fun xs H Q => ∃ (p : Addr) (bs : List Bool),xs = [.ref p]∧SqL K H p (bs.map V.bl)∧Q (.bl (bs.all id)) H) allD := by
  intro G H vs ds d Q gk rs e q
  unfold allD at e
  split at e
  · rename_i zs
    cases ek : zc7 zs with
    | none => rw [ek] at e; cases e
    | some bs =>
      rw [ek] at e; cases e
      cases rs with
      | cons r1 t =>
        cases t
        obtain ⟨b,xs,rfl,s,r⟩ := r1.lst gk
        have ex := ziL gk r ek
        subst ex
        exact ⟨b,bs,rfl,s,q _ G H (Grow.refl gk) (.scl (.bl _))⟩
  · cases e
theorem znp {K : PySem.W.Frag} : zhj K (fun xs H Q => ∃ (p : Addr) (bs : List Bool),xs = [.ref p]∧SqL K H p (bs.map V.bl)∧Q (.bl (bs.any id)) H) anyD := by
  intro G H vs ds d Q gk rs e q
  unfold anyD at e
  split at e
  · rename_i zs
    cases ek : zc7 zs with
    | none => rw [ek] at e; cases e
    | some bs =>
      rw [ek] at e; cases e
      cases rs with
      | cons r1 t =>
        cases t
        obtain ⟨b,xs,rfl,s,r⟩ := r1.lst gk
        have ex := ziL gk r ek
        subst ex
        exact ⟨b,bs,rfl,s,q _ G H (Grow.refl gk) (.scl (.bl _))⟩
  · cases e
section
variable {X : Cx} {g : GE} {m : List Md} {e : Expr} {es : List Expr} {fl : Rho → Res (List D)} {pos p : Pos}
theorem znM (hc : X.calm = true) (hg : Gl X "all") (hm : X.mg "all" = none) (ha : SAB X g m (e::es) fl) (he : starEach (e::es) X.env = (false,eval e X.env)::starEach es X.env := by rfl) (hpl : (backTo pos (starEach es X.env)).any (·.1) = false := by rfl) :
    SE X g m (.Call (.Name "all" p) (e::es) [] pos) (fC fl allD) := s_cb znq (zdU (zjK hc) hg hm PyProof.Rows.boot_all ha (by decide) (by decide) he hpl)
theorem zl0 (hc : X.calm = true) (hg : Gl X "any") (hm : X.mg "any" = none) (ha : SAB X g m (e::es) fl) (he : starEach (e::es) X.env = (false,eval e X.env)::starEach es X.env := by rfl) (hpl : (backTo pos (starEach es X.env)).any (·.1) = false := by rfl) :
    SE X g m (.Call (.Name "any" p) (e::es) [] pos) (fC fl anyD) := s_cb znp (zdU (zjJ hc) hg hm PyProof.Rows.boot_any ha (by decide) (by decide) he hpl)
end
end DL
end
section
namespace DL
open PySem PySem.Spec PyProof.Rows L2
section
variable {X : Cx} {pins : List (Addr × Obj)} {σ : L2.St} {H : Hp} {s : Shared}
end
section
variable {X : Cx} {g : GE} {m : List Md} {e : Expr} {es : List Expr} {fl : Rho → Res (List D)} {pos p : Pos}
end
end DL
end
section
namespace DL
open PySem PySem.Spec PyProof.Rows L2
noncomputable def zgk (h0 H : Hp) : Prop := ∀ a o,h0 a = some o→H a = some o
structure YieldsB (K : PySem.W.Frag) (h0 : Hp) (J : It) (ds : List D) (G0 : GH) : Prop where
  go : ∀ G H (i : Nat),Gle G0 G→GOk K G H→zgk h0 H→i < ds.length→J.go i H
  yld : ∀ G H (i : Nat) x H' d,Gle G0 G→GOk K G H→zgk h0 H→J.yld i H x H'→ds[i]? = some d→∃ G',Grow K G H G' H'∧RG K G' x d
  stop : ∀ G H,Gle G0 G→GOk K G H→zgk h0 H→J.stop ds.length H
theorem Yields.toH {K : PySem.W.Frag} {h0 : Hp} {J : It} {ds : List D} {G0 : GH} (y : Yields K J ds G0) : YieldsB K h0 J ds G0 :=
  ⟨fun G H i w gk _ hi => y.go G H i w gk hi,fun G H i x H' d w gk _ q e => y.yld G H i x H' d w gk q e,fun G H w gk _ => y.stop G H w gk⟩
noncomputable def tIB (X : Cx) (g : GE) (m : List Md) (f : FI) : TI := fun σ H R => ∃ r G,SI X g m r G σ H∧fin (f r) (fun ds => ∀ J G' H',Grow X.K G H G' H'→YieldsB X.K g.h0 J ds G'→R J H') (XW X σ G H)
noncomputable def SItB (X : Cx) (g : GE) (m : List Md) (tg iter : Expr) (f : FI) : Prop := PI X tg iter (tIB X g m f)
noncomputable def tBw (X : Cx) (g : GE) (m : List Md) (f : FE) : TE := fun σ H Q => ∃ r G,SI X g m r G σ H∧fin (f r) (fun d => ∀ v G' H',Grow X.K G H G' H'→Bw X.K g.h0 G' H' v d→Q v H') (XW X σ G H)
noncomputable def SBw (X : Cx) (g : GE) (m : List Md) (e : Expr) (f : FE) : Prop := PE X e (tBw X g m f)
section
variable {X : Cx} {g : GE} {m m' mb : List Md} {tg e a iter : Expr} {f : FE} {pos p pos2 : Pos} {ro : Bool} {sts : List Stmt} {s1 : FS} {elts : List Expr} {kk : Nat}
theorem SIt.toH {fi : FI} (h : SIt X g m tg iter fi) : SItB X g m tg iter fi := PI.imp h fun σ H R ⟨r,G,si,q⟩ => ⟨r,G,si,zae q fun ds k J G' H' w y => k J G' H' w y.toH⟩
theorem vw_ (i : Nat) {x : Str} (hm : m[i]? = some .bw := by rfl) (hN : X.N[i]? = some x := by rfl) (hv : Vis X.env.scope x := by first | exact Or.inl rfl | exact Or.inr (Or.inl rfl) | exact Or.inr (Or.inr rfl)) (hd : (x == ("__debug__" : Str)) = false := by decide) (hcd : (x == ("__classdict__" : Str)) = false := by decide) :
    SBw X g m (.Name x pos) fun r => getV r i := by
  refine PE.imp (zfy hN hv hd hcd) fun σ H Q ⟨r,G,si,q⟩ => ?_
  obtain ⟨d,e,k⟩ := ze8 q
  obtain ⟨v,e1,e2⟩ := si.bw i d e hm
  exact ⟨v,e1,k _ G H (Grow.refl si.gok) e2⟩
theorem zkO {K : PySem.W.Frag} {h0 : Hp} {G0 G : GH} {H0 H : Hp} {a : Addr} {ds : List D} (o : Own K G0 H0 a (.lst ds)) (h : h0 a≠none) (o0 : zgk h0 H0) (le : Gle G0 G) (o1 : zgk h0 H) : ∃ xs,SqL K H a xs∧RGs K G xs ds := by
  cases e : h0 a with
  | none => exact absurd e h
  | some u =>
    have h1 := o0 a u e
    have h2 := o1 a u e
    cases o.ob with
    | lst r s =>
      rw [h1] at r
      cases r
      exact ⟨_,SqL.of h2,RGs.mono s le⟩
theorem SI.oldIn {r : Rho} {G : GH} {st : L2.St} {H : Hp} (s : SI X g m r G st H) : zgk g.h0 H := s.old
theorem zfT {K : PySem.W.Frag} {h0 : Hp} {ds : List D} {G0 : GH} {sq : Hp→List V→Prop} (h : ∀ G H,Gle G0 G→GOk K G H→zgk h0 H→∃ xs,sq H xs∧RGs K G xs ds) : YieldsB K h0 (Ien sq) (enuD 0 ds) G0 := by
  refine ⟨fun G H i w gk o hi => ?_,fun G H i x H' d w gk o y e => ?_,fun G H w gk o => ?_⟩
  · obtain ⟨xs,s,r⟩ := h G H w gk o
    rw [zc6] at hi
    have hl := Paired.length r
    exact ⟨xs,xs[i],s,List.getElem?_eq_getElem (by omega)⟩
  · obtain ⟨xs,s,r⟩ := h G H w gk o
    obtain ⟨p,v,hp,rfl,rfl,hv⟩ := y
    rw [zfb] at e
    cases ed : ds[i]? with
    | none => rw [ed] at e; cases e
    | some d0 =>
      rw [ed] at e
      simp only [Option.map_some,Option.some.injEq,Nat.zero_add] at e
      subst e
      obtain ⟨v',e1,rv⟩ := Paired.get r ed
      have := hv xs s
      rw [e1] at this; cases this
      exact ⟨_,Grow.newF gk hp (.tup (.inl zar) (.cons (.scl (.int _)) (.cons rv .nil))),.ref zan⟩
  · obtain ⟨xs,s,r⟩ := h G H w gk o
    rw [zc6]
    exact ⟨xs,s,Paired.length r⟩
theorem zin (hg : Gl X "enumerate") (hm : X.mg "enumerate" = none) (he : SBw X g m e f) (hs : starEach [e] X.env = (false,eval e X.env)::starEach [] X.env := by rfl) : SItB X g m (.Tuple elts kk pos2) (.Call (.Name "enumerate" p) [e] [] pos) (fEnu f) := by
  refine PI.imp (zhQ hg hm he hs) fun σ H R ⟨r,G,si,q⟩ => ⟨r,G,si,zae (zad q) fun d q v G' H' w rv => ?_⟩
  obtain ⟨ds,e,q⟩ := zat (zad q)
  cases d with
  | lst ds' =>
    cases e
    rcases rv with rv | ⟨a,rfl,o,ho⟩
    · obtain ⟨a,xs,rfl,s,rs⟩ := rv.lst w.ok
      refine .inl ⟨a,rfl,⟨xs,s⟩,q _ G' H' w (zfT fun G H le gk _ => ?_)⟩
      obtain ⟨b,ys,e,s',r'⟩ := (rv.mono le).lst gk
      cases e
      exact ⟨ys,s',r'⟩
    · cases o.ob with
      | lst r s => exact .inl ⟨a,rfl,⟨_,SqL.of r⟩,q _ G' H' w (zfT fun G2 H2 le _ o2 => zkO o ho (si.grow w).oldIn le o2)⟩
  | tup ds' =>
    cases e
    rcases rv with rv | ⟨a,rfl,o,ho⟩
    · obtain ⟨a,xs,rfl,s,rs⟩ := rv.tup w.ok
      refine .inr ⟨a,rfl,⟨xs,s⟩,q _ G' H' w (zfT fun G H le gk _ => ?_)⟩
      obtain ⟨b,ys,e,s',r'⟩ := (rv.mono le).tup gk
      cases e
      exact ⟨ys,s',r'⟩
    · cases o.ob
  | _ => cases e
theorem zjX (hp : PassesOwn (model X.prog X.w) X.A X.env X.xe) (hc : X.calm = true) {ft : FT} {fi : FI} (hi : SItB X g m tg iter fi) (hg : SG X g m tg ft m) (hb : SSs X g ro m m sts s1 m)
    (hs : ∀ x,foldedSetIterable iter X.env x = pure x := by intro _; rfl) : SS X g ro mb m (.For tg iter sts [] pos) (zcC m fi ft s1) m := by
  refine ⟨rfl,PS.imp (zhM hp hc hi hg.2 hb.2 hs) fun D σ H ⟨r,G,si,q⟩ => ⟨r,G,si,zae (zbh si rfl q) fun ds q J G0 H0 w0 Y => ?_⟩⟩
  refine ⟨fun i n σ H => ∃ r G,SI X g m r G σ H∧Gle G0 G∧i≤ds.length∧n = ds.length - i∧oTo X g ro m mb G D (forF ft s1 (ds.drop i) r),⟨ds.length,r,G0,si.grow w0,Gle.refl G0,Nat.zero_le _,rfl,oTo.gle q w0.ge⟩,?_⟩
  rintro i n σ1 H1 ⟨r1,G1,si1,le1,hi,rfl,q1⟩
  by_cases hlt : i < ds.length
  · have hd : ds.drop i = ds[i]::ds.drop (i + 1) := List.drop_eq_getElem_cons hlt
    rw [hd] at q1
    unfold forF at q1
    refine .inr ⟨Y.go G1 H1 i le1 si1.gok si1.oldIn hlt,fun σ' H' => ∃ r G,SI X g m r G σ' H'∧Gle G0 G∧oTo X g ro m mb G D (forF ft s1 (ds.drop (i + 1)) r),fun σ' H' ⟨r',G',si',le',q'⟩ => ⟨ds.length - (i + 1),by omega,r',G',si',le',hlt,rfl,q'⟩,fun x H' y => ?_⟩
    obtain ⟨G',w',rv⟩ := Y.yld G1 H1 i x H' ds[i] le1 si1.gok si1.oldIn y (List.getElem?_eq_getElem hlt)
    have le' : Gle G0 G' := le1.trans w'.ge
    cases eft : ft ds[i] r1 with
    | none => simp only [eft] at q1; exact q1.elim
    | some r2 =>
      simp only [eft] at q1
      refine ⟨r1,G',ds[i],si1.grow w',rv,r2,eft,fun σ2 si2 => ⟨r2,G',si2,?_⟩⟩
      cases eb : s1 r2 with
      | nx r' => simp only [eb] at q1; exact fun σ3 G3 H3 le3 si3 => ⟨r',G3,si3,le'.trans le3,oTo.gle q1 (Gle.trans w'.ge le3)⟩
      | ct r' => simp only [eb] at q1; exact fun σ3 G3 H3 le3 si3 => ⟨r',G3,si3,le'.trans le3,oTo.gle q1 (Gle.trans w'.ge le3)⟩
      | bk r' => simp only [eb] at q1; exact fun σ3 G3 H3 le3 si3 => q1 σ3 G3 H3 (Gle.trans w'.ge le3) si3
      | rt d => simp only [eb] at q1; exact q1
      | exc x r' => simp only [eb] at q1; exact fun pins e s' σ3 G3 H3 le3 => q1 pins e s' σ3 G3 H3 (Gle.trans w'.ge le3)
      | stuck => simp only [eb] at q1; exact q1
  · have e : i = ds.length := by omega
    subst e
    rw [List.drop_length] at q1
    exact .inl ⟨Y.stop G1 H1 le1 si1.gok si1.oldIn,q1 σ1 G1 H1 (Gle.refl _) si1⟩
end
end DL
end
section
namespace DL
open PySem PySem.Spec PyProof.Rows L2
open HT (sIx)
section
variable {prog : Program} {w : World} {A : Around} {E : Value → Shared → Prop} {s : Shared}
end
section
variable {X : Cx} {g : GE} {m : List Md} {e : Expr} {f fa : FE} {pos p2 : Pos}
end
end DL
end
section
namespace DL
open PySem PySem.Spec PyProof.Rows L2
open AutoSeq1 (wpAny_loadPart')
structure ZA (zp ti to u1 u2 : Addr) (f1 f2 : List Addr) : Prop where
  a1 : ti≠zp
  a2 : to≠zp
  a3 : u1≠zp
  a4 : u2≠zp
  a5 : to≠u1
  a6 : to≠u2
  a7 : u1≠u2
  a8 : ti≠to∧ti≠u1∧ti≠u2
  b1 : zp∉f1∧to∉f1∧u2∉f1
  b2 : zp∉f2∧to∉f2∧u1∉f2
theorem _root_.PySem.Draws.at' {prog : Program} {w : World} {A : Around} {it : Addr} {fp : List Addr} {n : Nat} {P : Nat→Value→Prop} {St : Nat→Heap→Prop} (D : Draws prog w A it fp n P St) {i : Nat} {h h' : Heap} {c : Addr} (st : St i h) (e : Heap.ExtBut c h h') (hc : c∉fp) : St i h' :=
  D.frame i h h' st fun b hb o q => e b o (by rintro rfl; exact hc hb) q
section
variable {prog : Program} {w : World} {A : Around} {E : Value → Shared → Prop} {s : Shared} {zp ti to u1 u2 : Addr} {f1 f2 : List Addr} {n1 n2 : Nat} {P1 P2 : Nat → Value → Prop} {St1 St2 : Nat → Heap → Prop} {p q : Value}
theorem zhl {i : Nat} {Q : Value→Shared→Prop} (Z : ZA zp ti to u1 u2 f1 f2) (D1 : Draws prog w A u1 f1 n1 P1 St1) (D2 : Draws prog w A u2 f2 n2 P2 St2) (hz : IsZip s.heap zp ti to .none) (hi : IsPair s.heap ti (.ref u1) (.ref u2)) (ho : IsPair s.heap to p q)
    (s1 : St1 i s.heap) (s2 : St2 i s.heap) (l1 : i < n1) (l2 : i < n2)
    (hQ : ∀ x y h' tk,P1 i x→P2 i y→IsZip h' zp ti to (rawInt s.heap.objs.size)→IsPair h' to x y→St1 (i + 1) h'→St2 (i + 1) h'→IsPair h' s.heap.objs.size x y→h'.objs.size = s.heap.objs.size + 1 →
      (∀ c o,c≠zp→c≠to→c≠u1→c≠u2→s.heap.get? c = some o→h'.get? c = some o)→Q (.ref s.heap.objs.size) { s with heap := h',toks := tk }) :
    wpAny (model prog w) A (Builtin.«zip.__next__» ⟨[.ref zp],[]⟩) (fun fin s' => ∃ v,fin = .done (.ret v)∧Q v s') E s := by
  show wpAny _ _ (field (.ref zp) 2 >>= _) _ _ _
  refine wpAny_bind (wpAny_field hz rfl (x := .bool false) rfl ?_)
  show wpAny _ _ (field (.ref zp) 3 >>= _) _ _ _
  refine wpAny_bind (wpAny_field hz rfl (x := .ref ti) rfl (wpAny_bind (wpAny_seqItems hi rfl ?_)))
  show wpAny _ _ (Builtin.SmallTypes.ownedTupleIsFree (.ref zp) >>= _) _ _ _
  refine wpAny_bind ?_
  unfold Builtin.SmallTypes.ownedTupleIsFree
  refine wpAny_bind (wpAny_field hz rfl (x := .none) rfl (wpAny_pure ?_))
  simp only [if_true]
  refine wpAny_bind (wpAny_rule (wpAny_bind (wpAny_field hz rfl (x := .ref to) rfl (wpAny_bind (wpAny_setField_rec hz (by simp) fun g1 hz1 k1 => ?_)))))
  replace hz1 : IsZip g1 zp ti to .ellipsis := hz1
  refine wpAny_bind ?_
  simp only [List.zipIdx_cons,List.zipIdx_nil,List.forIn_cons,List.forIn_nil]
  refine wpAny_bind (wpAny_bind (wpAny_onRaise ?_))
  show wpAny _ _ (Builtin.SmallTypes.nextOf (.ref u1) >>= _) _ _ _
  refine wpAny_bind (D1.item i _ _ _ l1 (D1.at' s1 k1.extBut Z.b1.1) fun x g2 t2 px st1 k2 => wpAny_pure ?_)
  have ho2 : IsPair g2 to p q := k2.extBut _ _ Z.a5 (k1.extBut _ _ Z.a2 ho)
  refine wpAny_bind (wpAny_seqItems ho2 rfl (wpAny_bind (wpAny_updateSeq_pair ho2 fun g3 ho3 k3 => ?_)))
  replace ho3 : IsPair g3 to x q := ho3
  refine wpAny_bind (wpAny_letGo (wpAny_pure ?_))
  refine wpAny_bind (wpAny_bind (wpAny_onRaise ?_))
  show wpAny _ _ (Builtin.SmallTypes.nextOf (.ref u2) >>= _) _ _ _
  refine wpAny_bind (D2.item i _ _ _ l2 (D2.at' (D2.at' (D2.at' s2 k1.extBut Z.b2.1) k2.extBut Z.b2.2.2) k3.extBut Z.b2.2.1) fun y g4 t4 py st2 k4 => wpAny_pure ?_)
  have ho4 : IsPair g4 to x q := k4.extBut _ _ Z.a6 ho3
  refine wpAny_bind (wpAny_seqItems ho4 rfl (wpAny_bind (wpAny_updateSeq_pair ho4 fun g5 ho5 k5 => ?_)))
  replace ho5 : IsPair g5 to x y := ho5
  refine wpAny_bind (wpAny_letGo (wpAny_pure (wpAny_pure ?_)))
  refine wpAny_bind (wpAny_seqItems ho5 rfl (wpAny_bind (wpAny_newTuple ?_)))
  have hsz : g5.objs.size = s.heap.objs.size := by rw [k5.1,k4.1,k3.1,k2.1,k1.1]
  have hz5 : IsZip g5 zp ti to .ellipsis := k5.extBut _ _ Z.a2.symm (k4.extBut _ _ Z.a4.symm (k3.extBut _ _ Z.a2.symm (k2.extBut _ _ Z.a3.symm hz1)))
  have st15 : St1 (i + 1) g5 := D1.at' (D1.at' (D1.at' st1 k3.extBut Z.b1.2.1) k4.extBut Z.b1.2.2) k5.extBut Z.b1.2.1
  have st25 : St2 (i + 1) g5 := D2.at' st2 k5.extBut Z.b2.2.1
  have hzlt : zp < g5.objs.size := Heap.lt_size hz5
  show wpAny _ _ (Builtin.SmallTypes.ownedTupleHandOut (.ref zp) (.ref g5.objs.size) >>= _) _ _ _
  refine wpAny_bind ?_
  unfold Builtin.SmallTypes.ownedTupleHandOut
  have hz6 : IsZip (g5.push { cls := .type "tuple",data := .seq #[x,y] }) zp ti to .ellipsis := Heap.get?_push_of_some _ hz5
  refine wpAny_bind (wpAny_setField_rec hz6 (by simp) fun g7 hz7 k7 => ?_)
  replace hz7 : IsZip g7 zp ti to (rawInt g5.objs.size) := hz7
  refine wpAny_setField_rec hz7 (by simp) fun g8 hz8 k8 => ?_
  replace hz8 : IsZip g8 zp ti to (rawInt g5.objs.size) := hz8
  have up : ∀ c o,c≠zp→g5.get? c = some o→g8.get? c = some o := fun c o c1 e => k8.extBut _ _ c1 (k7.extBut _ _ c1 (Heap.get?_push_of_some _ e))
  have hT8 : IsPair g8 g5.objs.size x y := k8.extBut _ _ (Nat.ne_of_gt hzlt) (k7.extBut _ _ (Nat.ne_of_gt hzlt) (Heap.get?_push_size _ rfl))
  have sz8 : g8.objs.size = g5.objs.size + 1 := by rw [k8.1,k7.1,Heap.size_push]
  rw [hsz] at hz8 hT8 sz8
  refine wpAny_pure ⟨_,rfl,?_⟩
  show Q (.ref g5.objs.size) _
  rw [hsz]
  refine hQ x y g8 _ px py hz8 (up _ _ Z.a2 ho5) (D1.frame _ _ _ st15 fun b hb o e => up b o (by rintro rfl; exact Z.b1.1 hb) e) (D2.frame _ _ _ st25 fun b hb o e => up b o (by rintro rfl; exact Z.b2.1 hb) e) hT8 sz8 fun c o c1 c2 c3 c4 e => up c o c1 ?_
  exact k5.extBut _ _ c2 (k4.extBut _ _ c4 (k3.extBut _ _ c2 (k2.extBut _ _ c3 (k1.extBut _ _ c1 e))))
theorem ziV {i : Nat} {Q : Fin→Shared→Prop} (Z : ZA zp ti to u1 u2 f1 f2) (D1 : Draws prog w A u1 f1 n1 P1 St1) (D2 : Draws prog w A u2 f2 n2 P2 St2) (hz : IsZip s.heap zp ti to .none) (hi : IsPair s.heap ti (.ref u1) (.ref u2)) (ho : IsPair s.heap to p q)
    (s1 : St1 i s.heap) (s2 : St2 i s.heap) (hend : i = n1∨(i < n1∧i = n2))
    (hE : ∀ h' e tk,(∀ c o,c≠zp→c≠to→c≠u1→c≠u2→s.heap.get? c = some o→h'.get? c = some o)→(∃ o,h'.get? e = some o∧o.cls = .type "StopIteration")→E (.ref e) { s with heap := h',toks := tk }) :
    wpAny (model prog w) A (Builtin.«zip.__next__» ⟨[.ref zp],[]⟩) Q E s := by
  show wpAny _ _ (field (.ref zp) 2 >>= _) _ _ _
  refine wpAny_bind (wpAny_field hz rfl (x := .bool false) rfl ?_)
  show wpAny _ _ (field (.ref zp) 3 >>= _) _ _ _
  refine wpAny_bind (wpAny_field hz rfl (x := .ref ti) rfl (wpAny_bind (wpAny_seqItems hi rfl ?_)))
  show wpAny _ _ (Builtin.SmallTypes.ownedTupleIsFree (.ref zp) >>= _) _ _ _
  refine wpAny_bind ?_
  unfold Builtin.SmallTypes.ownedTupleIsFree
  refine wpAny_bind (wpAny_field hz rfl (x := .none) rfl (wpAny_pure ?_))
  simp only [if_true]
  refine wpAny_bind (wpAny_rule (wpAny_bind (wpAny_field hz rfl (x := .ref to) rfl (wpAny_bind (wpAny_setField_rec hz (by simp) fun g1 hz1 k1 => ?_)))))
  replace hz1 : IsZip g1 zp ti to .ellipsis := hz1
  refine wpAny_bind ?_
  simp only [List.zipIdx_cons,List.zipIdx_nil,List.forIn_cons,List.forIn_nil]
  refine wpAny_bind (wpAny_bind (wpAny_onRaise ?_))
  show wpAny _ _ (Builtin.SmallTypes.nextOf (.ref u1) >>= _) _ _ _
  rcases hend with hend | ⟨hlt,hend⟩
  · subst hend
    refine wpAny_bind (D1.done _ _ _ (D1.at' s1 k1.extBut Z.b1.1) fun g2 e k2 he => ?_)
    obtain ⟨oe,hoe,hce⟩ := he
    have hz2 : IsZip g2 zp ti to .ellipsis := k2 _ _ Z.a3.symm hz1
    have hez : e≠zp := fun x => by subst x; rw [hz2] at hoe; cases hoe; simp at hce
    exact wpAny_setField_rec hz2 (by simp) fun g3 _ k3 => hE g3 e _ (fun c o c1 _ c3 _ x => k3.extBut _ _ c1 (k2 _ _ c3 (k1.extBut _ _ c1 x))) ⟨oe,k3.extBut _ _ hez hoe,hce⟩
  · subst hend
    refine wpAny_bind (D1.item _ _ _ _ hlt (D1.at' s1 k1.extBut Z.b1.1) fun x g2 t2 px st1 k2 => wpAny_pure ?_)
    have ho2 : IsPair g2 to p q := k2.extBut _ _ Z.a5 (k1.extBut _ _ Z.a2 ho)
    refine wpAny_bind (wpAny_seqItems ho2 rfl (wpAny_bind (wpAny_updateSeq_pair ho2 fun g3 ho3 k3 => ?_)))
    refine wpAny_bind (wpAny_letGo (wpAny_pure ?_))
    refine wpAny_bind (wpAny_bind (wpAny_onRaise ?_))
    show wpAny _ _ (Builtin.SmallTypes.nextOf (.ref u2) >>= _) _ _ _
    refine wpAny_bind (D2.done _ _ _ (D2.at' (D2.at' (D2.at' s2 k1.extBut Z.b2.1) k2.extBut Z.b2.2.2) k3.extBut Z.b2.2.1) fun g4 e k4 he => ?_)
    obtain ⟨oe,hoe,hce⟩ := he
    have hz4 : IsZip g4 zp ti to .ellipsis := k4 _ _ Z.a4.symm (k3.extBut _ _ Z.a2.symm (k2.extBut _ _ Z.a3.symm hz1))
    have hez : e≠zp := fun x => by subst x; rw [hz4] at hoe; cases hoe; simp at hce
    exact wpAny_setField_rec hz4 (by simp) fun g5 _ k5 => hE g5 e _ (fun c o c1 c2 c3 c4 x => k5.extBut _ _ c1 (k4 _ _ c4 (k3.extBut _ _ c2 (k2.extBut _ _ c3 (k1.extBut _ _ c1 x))))) ⟨oe,k5.extBut _ _ hez hoe,hce⟩
theorem zf4 {i : Nat} {Q : Option Value→Shared→Prop} (Z : ZA zp ti to u1 u2 f1 f2) (D1 : Draws prog w A.in1 u1 f1 n1 P1 St1) (D2 : Draws prog w A.in1 u2 f2 n2 P2 St2) (hz : IsZip s.heap zp ti to .none) (hi : IsPair s.heap ti (.ref u1) (.ref u2)) (ho : IsPair s.heap to p q)
    (s1 : St1 i s.heap) (s2 : St2 i s.heap) (l1 : i < n1) (l2 : i < n2)
    (hQ : ∀ x y h' tk,P1 i x→P2 i y→IsZip h' zp ti to (rawInt s.heap.objs.size)→IsPair h' to x y→St1 (i + 1) h'→St2 (i + 1) h'→IsPair h' s.heap.objs.size x y→h'.objs.size = s.heap.objs.size + 1 →
      (∀ c o,c≠zp→c≠to→c≠u1→c≠u2→s.heap.get? c = some o→h'.get? c = some o)→Q (some (.ref s.heap.objs.size)) { s with heap := h',toks := tk }) :
    wpAny (model prog w) A (pyNext (.ref zp)) Q E s := by
  have hT : s.TypeIs (.ref zp) "zip" := ⟨_,hz,rfl⟩
  unfold pyNext
  exact wpAny_bind (wpAny_attempt (wpAny_callSpecial?_slot (name := Str.ofString "__next__") hT F.slot_zip_next (wpAny_call_entry F.slot_zip_next hT F.entry_zip_next
      (zhl Z D1 D2 hz hi ho s1 s2 l1 l2 fun x y h' tk b1 b2 b3 b4 b5 b6 b7 b8 b9 => wpAny_pure (hQ x y h' tk b1 b2 b3 b4 b5 b6 b7 b8 b9)) (F.args_zip_next_1 _))))
theorem zez {i : Nat} {Q : Option Value→Shared→Prop} (Z : ZA zp ti to u1 u2 f1 f2) (D1 : Draws prog w A.in1 u1 f1 n1 P1 St1) (D2 : Draws prog w A.in1 u2 f2 n2 P2 St2) (hz : IsZip s.heap zp ti to .none) (hi : IsPair s.heap ti (.ref u1) (.ref u2)) (ho : IsPair s.heap to p q)
    (s1 : St1 i s.heap) (s2 : St2 i s.heap) (hend : i = n1∨(i < n1∧i = n2)) (hQ : ∀ h' tk,(∀ c o,c≠zp→c≠to→c≠u1→c≠u2→s.heap.get? c = some o→h'.get? c = some o)→Q none { s with heap := h',toks := tk }) :
    wpAny (model prog w) A (pyNext (.ref zp)) Q E s := by
  have hT : s.TypeIs (.ref zp) "zip" := ⟨_,hz,rfl⟩
  unfold pyNext
  refine wpAny_bind (wpAny_attempt (wpAny_callSpecial?_slot (name := Str.ofString "__next__") hT F.slot_zip_next (wpAny_call_entry F.slot_zip_next hT F.entry_zip_next (ziV Z D1 D2 hz hi ho s1 s2 hend fun h' e tk hk he => ?_) (F.args_zip_next_1 _))))
  obtain ⟨o,ho,hc⟩ := he
  exact wpAny_bind (wpAny_isInstance (T := "StopIteration") (b := true) ⟨o,ho,hc⟩ isSubtype_stop (wpAny_pure (hQ _ _ hk)))
end
noncomputable abbrev itO (c : String) (l : Addr) : Obj := { cls := .type c,data := .fields #[.ref l,.int 0 0] }
noncomputable abbrev zg2 (h : Heap) (c1 c2 : String) (l1 l2 : Addr) : Heap := (h.push (itO c1 l1)).push (itO c2 l2)
noncomputable abbrev zg3 (h : Heap) (c1 c2 : String) (l1 l2 : Addr) : Heap := (zg2 h c1 c2 l1 l2).push { cls := .type "tuple",data := .seq #[.ref h.objs.size,.ref (h.push (itO c1 l1)).objs.size] }
noncomputable abbrev zg4 (h : Heap) (c1 c2 : String) (l1 l2 : Addr) : Heap := (zg3 h c1 c2 l1 l2).push { cls := .type "tuple",data := .seq #[.none,.none] }
noncomputable abbrev zg5 (h : Heap) (c1 c2 : String) (l1 l2 : Addr) : Heap := (zg4 h c1 c2 l1 l2).push { cls := .type "zip",data := .fields #[.none,.bool false,.bool false,.ref (zg2 h c1 c2 l1 l2).objs.size,.ref (zg3 h c1 c2 l1 l2).objs.size] }
theorem zgm {h : Heap} {a : Addr} {xs : Array Value} (x : h.IsTuple a xs) (o : Obj) : (h.push o).IsTuple a xs := let ⟨u,hu,r⟩ := x; ⟨u,Heap.get?_push_of_some _ hu,r⟩
theorem zh7 (l1 l2 : Addr) (xs ys : Array Value) : Meets (Builtin.«zip.__new__» ⟨[.type "zip",.ref l1,.ref l2],[]⟩) (fun _ R s => s.heap.IsList l1 xs∧s.heap.IsList l2 ys ∧
      R (.ok (.ret (.ref (zg4 s.heap "list_iterator" "list_iterator" l1 l2).objs.size))) { s with heap := zg5 s.heap "list_iterator" "list_iterator" l1 l2 }) :=
  .of_wp fun prog w A R s h => by
    obtain ⟨hp,gg,dd,tk,os⟩ := s; obtain ⟨q1,q2,h⟩ := h
    have hsub := sub_zip
    have e1 : Heap.IsList (Shared.heap ⟨hp,gg,dd,tk,os⟩) l1 xs := q1
    have e2 : Heap.IsList (Shared.heap ⟨hp.push (itO "list_iterator" l1),gg,dd,tk,os⟩) l2 ys := Heap.IsList.push q2 _
    wp_walk using wpAny_pyIter_list e1,wpAny_pyIter_list e2
    exact ⟨_,rfl,h⟩
theorem zh5 (l1 l2 : Addr) (xs ys : Array Value) : Meets (Builtin.«zip.__new__» ⟨[.type "zip",.ref l1,.ref l2],[]⟩) (fun _ R s => s.heap.IsTuple l1 xs∧s.heap.IsList l2 ys ∧
      R (.ok (.ret (.ref (zg4 s.heap "tuple_iterator" "list_iterator" l1 l2).objs.size))) { s with heap := zg5 s.heap "tuple_iterator" "list_iterator" l1 l2 }) :=
  .of_wp fun prog w A R s h => by
    obtain ⟨hp,gg,dd,tk,os⟩ := s; obtain ⟨q1,q2,h⟩ := h
    have hsub := sub_zip
    have e1 : Heap.IsTuple (Shared.heap ⟨hp,gg,dd,tk,os⟩) l1 xs := q1
    have e2 : Heap.IsList (Shared.heap ⟨hp.push (itO "tuple_iterator" l1),gg,dd,tk,os⟩) l2 ys := Heap.IsList.push q2 _
    wp_walk using wpAny_pyIter_tuple e1,wpAny_pyIter_list e2
    exact ⟨_,rfl,h⟩
theorem zh4 (l1 l2 : Addr) (xs ys : Array Value) : Meets (Builtin.«zip.__new__» ⟨[.type "zip",.ref l1,.ref l2],[]⟩) (fun _ R s => s.heap.IsTuple l1 xs∧s.heap.IsTuple l2 ys ∧
      R (.ok (.ret (.ref (zg4 s.heap "tuple_iterator" "tuple_iterator" l1 l2).objs.size))) { s with heap := zg5 s.heap "tuple_iterator" "tuple_iterator" l1 l2 }) :=
  .of_wp fun prog w A R s h => by
    obtain ⟨hp,gg,dd,tk,os⟩ := s; obtain ⟨q1,q2,h⟩ := h
    have hsub := sub_zip
    have e1 : Heap.IsTuple (Shared.heap ⟨hp,gg,dd,tk,os⟩) l1 xs := q1
    have e2 : Heap.IsTuple (Shared.heap ⟨hp.push (itO "tuple_iterator" l1),gg,dd,tk,os⟩) l2 ys := zgm q2 _
    wp_walk using wpAny_pyIter_tuple e1,wpAny_pyIter_tuple e2
    exact ⟨_,rfl,h⟩
theorem zh6 (l1 l2 : Addr) (xs ys : Array Value) : Meets (Builtin.«zip.__new__» ⟨[.type "zip",.ref l1,.ref l2],[]⟩) (fun _ R s => s.heap.IsList l1 xs∧s.heap.IsTuple l2 ys ∧
      R (.ok (.ret (.ref (zg4 s.heap "list_iterator" "tuple_iterator" l1 l2).objs.size))) { s with heap := zg5 s.heap "list_iterator" "tuple_iterator" l1 l2 }) :=
  .of_wp fun prog w A R s h => by
    obtain ⟨hp,gg,dd,tk,os⟩ := s; obtain ⟨q1,q2,h⟩ := h
    have hsub := sub_zip
    have e1 : Heap.IsList (Shared.heap ⟨hp,gg,dd,tk,os⟩) l1 xs := q1
    have e2 : Heap.IsTuple (Shared.heap ⟨hp.push (itO "list_iterator" l1),gg,dd,tk,os⟩) l2 ys := zgm q2 _
    wp_walk using wpAny_pyIter_list e1,wpAny_pyIter_tuple e2
    exact ⟨_,rfl,h⟩
section
variable {prog : Program} {w : World} {A : Around} {E : Value → Shared → Prop} {s : Shared}
noncomputable def Made (s : Shared) (c1 c2 : String) (l1 l2 : Addr) (Q : Value→Shared→Prop) : Prop :=
  ∀ h',IsZip h' (s.heap.objs.size + 4) (s.heap.objs.size + 2) (s.heap.objs.size + 3) .none→IsPair h' (s.heap.objs.size + 2) (.ref s.heap.objs.size) (.ref (s.heap.objs.size + 1)) →
      IsPair h' (s.heap.objs.size + 3) .none .none→h'.get? s.heap.objs.size = some (itO c1 l1)→h'.get? (s.heap.objs.size + 1) = some (itO c2 l2) →
      (∀ c o,s.heap.get? c = some o→h'.get? c = some o)→Q (.ref (s.heap.objs.size + 4)) { s with heap := h' }
theorem ze2 {c1 c2 : String} {l1 l2 : Addr} {Q : Value→Shared→Prop} (h : Made s c1 c2 l1 l2 Q) : (∃ o,(zg5 s.heap c1 c2 l1 l2).get? (zg4 s.heap c1 c2 l1 l2).objs.size = some o∧o.cls = .type "zip")∧Q (.ref (zg4 s.heap c1 c2 l1 l2).objs.size) { s with heap := zg5 s.heap c1 c2 l1 l2 } := by
  have z1 : (s.heap.push (itO c1 l1)).objs.size = s.heap.objs.size + 1 := Heap.size_push ..
  have z2 : (zg2 s.heap c1 c2 l1 l2).objs.size = s.heap.objs.size + 2 := by rw [Heap.size_push,z1]
  have z3 : (zg3 s.heap c1 c2 l1 l2).objs.size = s.heap.objs.size + 3 := by rw [Heap.size_push,z2]
  have z4 : (zg4 s.heap c1 c2 l1 l2).objs.size = s.heap.objs.size + 4 := by rw [Heap.size_push,z3]
  have g5 : (zg5 s.heap c1 c2 l1 l2).get? (zg4 s.heap c1 c2 l1 l2).objs.size = some _ := Heap.get?_push_size _ rfl
  have g4 : (zg5 s.heap c1 c2 l1 l2).get? (zg3 s.heap c1 c2 l1 l2).objs.size = some _ := Heap.get?_push_of_some _ (Heap.get?_push_size _ rfl)
  have g3 : (zg5 s.heap c1 c2 l1 l2).get? (zg2 s.heap c1 c2 l1 l2).objs.size = some _ := Heap.get?_push_of_some _ (Heap.get?_push_of_some _ (Heap.get?_push_size _ rfl))
  have g2 : (zg5 s.heap c1 c2 l1 l2).get? (s.heap.push (itO c1 l1)).objs.size = some (itO c2 l2) := Heap.get?_push_of_some _ (Heap.get?_push_of_some _ (Heap.get?_push_of_some _ (Heap.get?_push_size _ rfl)))
  have g1 : (zg5 s.heap c1 c2 l1 l2).get? s.heap.objs.size = some (itO c1 l1) := Heap.get?_push_of_some _ (Heap.get?_push_of_some _ (Heap.get?_push_of_some _ (Heap.get?_push_of_some _ (Heap.get?_push_size _ rfl))))
  rw [z2,z3,z4] at g5
  rw [z1,z2] at g3
  rw [z3] at g4
  rw [z1] at g2
  rw [z4]
  exact ⟨⟨_,g5,rfl⟩,h _ g5 g3 g4 g1 g2 fun c o x => Heap.get?_push_of_some _ (Heap.get?_push_of_some _ (Heap.get?_push_of_some _ (Heap.get?_push_of_some _ (Heap.get?_push_of_some _ x))))⟩
theorem zjG {l1 l2 : Addr} {xs ys : Array Value} {Q : Value→Shared→Prop} (q1 : s.heap.IsList l1 xs) (q2 : s.heap.IsList l2 ys) (h : Made s "list_iterator" "list_iterator" l1 l2 Q) : wpAny (model prog w) A (call (.type "zip") [.ref l1,.ref l2]) Q E s :=
  callType_new F.called_zip (by decide) (F.typeCall_zip_2 _ _) (F.newCall_zip_2 _ _) (fun obj => F.args_object_init_3 obj _ _) F.entry_zip_new (zh7 l1 l2 xs ys) ⟨q1,q2,ze2 h⟩
theorem zjE {l1 l2 : Addr} {xs ys : Array Value} {Q : Value→Shared→Prop} (q1 : s.heap.IsTuple l1 xs) (q2 : s.heap.IsList l2 ys) (h : Made s "tuple_iterator" "list_iterator" l1 l2 Q) : wpAny (model prog w) A (call (.type "zip") [.ref l1,.ref l2]) Q E s :=
  callType_new F.called_zip (by decide) (F.typeCall_zip_2 _ _) (F.newCall_zip_2 _ _) (fun obj => F.args_object_init_3 obj _ _) F.entry_zip_new (zh5 l1 l2 xs ys) ⟨q1,q2,ze2 h⟩
theorem zjD {l1 l2 : Addr} {xs ys : Array Value} {Q : Value→Shared→Prop} (q1 : s.heap.IsTuple l1 xs) (q2 : s.heap.IsTuple l2 ys) (h : Made s "tuple_iterator" "tuple_iterator" l1 l2 Q) : wpAny (model prog w) A (call (.type "zip") [.ref l1,.ref l2]) Q E s :=
  callType_new F.called_zip (by decide) (F.typeCall_zip_2 _ _) (F.newCall_zip_2 _ _) (fun obj => F.args_object_init_3 obj _ _) F.entry_zip_new (zh4 l1 l2 xs ys) ⟨q1,q2,ze2 h⟩
theorem zjF {l1 l2 : Addr} {xs ys : Array Value} {Q : Value→Shared→Prop} (q1 : s.heap.IsList l1 xs) (q2 : s.heap.IsTuple l2 ys) (h : Made s "list_iterator" "tuple_iterator" l1 l2 Q) : wpAny (model prog w) A (call (.type "zip") [.ref l1,.ref l2]) Q E s :=
  callType_new F.called_zip (by decide) (F.typeCall_zip_2 _ _) (F.newCall_zip_2 _ _) (fun obj => F.args_object_init_3 obj _ _) F.entry_zip_new (zh6 l1 l2 xs ys) ⟨q1,q2,ze2 h⟩
end
end DL
end
section
namespace DL
open PySem PySem.Spec PyProof.Rows L2
noncomputable def sqK (K : PySem.W.Frag) (t : Bool) (a : Addr) (H : Hp) (xs : List V) : Prop := match t with
  | false => SqL K H a xs
  | true => SqT K H a xs
noncomputable def itK (t : Bool) (a u : Addr) (i : Nat) (h : Heap) : Prop := match t with
  | false => h.IsListIter u a i
  | true => h.IsTupleIter u a i
noncomputable abbrev nmK (t : Bool) : String := match t with
  | false => "list_iterator"
  | true => "tuple_iterator"
theorem zii {t : Bool} {a u : Addr} {h : Heap} (e : h.get? u = some (itO (nmK t) a)) : itK t a u 0 h := by cases t <;> exact ⟨_,e,rfl,rfl⟩
theorem ze5 {t : Bool} {a u : Addr} {i : Nat} {h : Heap} (e : itK t a u i h) : ∃ o,h.get? u = some o∧∀ v,o.data≠.cell v := by
  cases t <;> (obtain ⟨o,ho,hc,hd⟩ := e; exact ⟨o,ho,fun v z => by rw [hd] at z; cases z⟩)
theorem zdW {t : Bool} {a u : Addr} {i : Nat} {h h' : Heap} (e : itK t a u i h) (k : ∀ o,h.get? u = some o→h'.get? u = some o) : itK t a u i h' := by
  cases t <;> (obtain ⟨o,ho,r⟩ := e; exact ⟨o,k o ho,r⟩)
section
variable {X : Cx} {pins : List (Addr × Obj)} {σ : L2.St} {H : Hp} {s : Shared} {t : Bool} {a u : Addr} {xs ys : List V} {i : Nat}
theorem zjA (I : Inv X pins σ H s) (hc : X.calm = true) (hq : sqK X.K t a H xs) (hau : a≠u) (hi : itK t a u i s.heap) : ∃ (its : List Value) (St : Nat→Heap→Prop),Vals xs its∧Draws X.prog X.w X.A.in1 u [u,a] its.toArray.size (fun i v => its.toArray[i]? = some v) St∧St i s.heap∧∀ j h',St j h'→itK t a u j h' := by
  cases t with
  | false =>
    obtain ⟨its,rv,p,hz⟩ := I.list hq
    exact ⟨its,_,rv,Draws.list (A := X.A.in1) (show X.A.in1.handled = none from I.ok.hd hc) u a hau its.toArray,⟨hi,p.isList⟩,fun j h' st => st.1⟩
  | true =>
    obtain ⟨its,rv,p,hz⟩ := I.tuple hq
    exact ⟨its,_,rv,zix (A := X.A.in1) (show X.A.in1.handled = none from I.ok.hd hc) u a hau its.toArray,⟨hi,p⟩,fun j h' st => st.1⟩
theorem zhs (I : Inv X pins σ H s) (h1 : sqK X.K t a H xs) (h2 : sqK X.K t a H ys) : xs = ys := by
  cases t with
  | false => exact I.list_inj h1 h2
  | true => exact I.tuple_inj h1 h2
theorem zfk (I : Inv X pins σ H s) (h1 : sqK X.K t a H xs) : a < s.heap.objs.size := by
  cases t with
  | false => obtain ⟨its,rv,p,hz⟩ := I.list h1; obtain ⟨o,ho,_⟩ := p.isList; exact Heap.lt_size ho
  | true => obtain ⟨its,rv,p,hz⟩ := I.tuple h1; obtain ⟨o,ho,_⟩ := id p; exact Heap.lt_size ho
theorem zij {h' : Heap} {ch : List Addr} {t' : Nat} (I : Inv X pins σ H s) (hch : ∀ b∈ch,FpOk X pins H b) (k : ∀ b ob,b∉ch→s.heap.get? b = some ob→h'.get? b = some ob) : Inv X pins σ H { s with heap := h',toks := t' } := by
  have trk : ∀ b u,H b = some u→b∉ch := fun b u e hb => by rw [(hch b hb).1] at e; cases e
  refine I.step (g' := s.gens) (d' := s.drawn) (ch := ch) (fun b hb => ?_) (fun b ob _ _ hc e _ => k b ob hc e) (fun b ob _ _ hc e _ => ⟨ob.slots,k b ob hc e⟩) (fun b ob hc e n => n)
    (fun b ob hc e => ⟨ob,k b ob hc e⟩) (fun b xs e => e) (fun b ob u e => e) (fun b ps e => ⟨#[],by rw [e]; simp⟩) (fun m hm => ?_) (fun b u e => ?_) I.bare
  · obtain ⟨z0,z1,z2,z3,z4,z5⟩ := hch b hb
    exact ⟨z3,z1,z4,z5⟩
  · obtain ⟨ob,es,ep,ho,r⟩ := hm
    exact ⟨ob,es,ep,k _ ob (fun hb => (hch _ hb).2.1 rfl) ho,r⟩
  · refine (I.hok b u e).stay (fun c v hc q => k c v ?_ q) (fun c q => q) fun c xs q => q
    rcases hc with z | z
    · rw [z]; exact trk b u e
    · exact trk c _ z
end
noncomputable def Izp (sq1 sq2 : Hp→List V→Prop) : It :=
  ⟨fun i H => ∃ xs ys x y,sq1 H xs∧sq2 H ys∧xs[i]? = some x∧ys[i]? = some y,fun i H x H' => ∃ p v u,H p = none∧x = .ref p∧H' = upd H p (.tup [v,u])∧(∀ xs,sq1 H xs→xs[i]? = some v)∧∀ ys,sq2 H ys→ys[i]? = some u,
    fun i H => ∃ xs ys,sq1 H xs∧sq2 H ys∧min xs.length ys.length = i⟩
theorem zjf {P : Program} {w : World} {H : Hp} {h : Heap} {T : Addr} {x y : Value} {v u : V} (hT : h.get? T = some { cls := .type "tuple",data := .seq #[x,y] }) (r1 : L2.RelV v x) (r2 : L2.RelV u y) : zaW P w H h T (.tup [v,u]) :=
  ⟨by show 2≤sizeLine; decide,[x,y],.cons r1 (.cons r2 .nil),⟨_,hT,rfl,0,rfl⟩,_,hT,rfl⟩
theorem ziW {P : Program} {w : World} {K : PySem.W.Frag} {elts : List Expr} {k : Nat} {pos : Pos} {t1 t2 : Bool} (a b zp ti to u1 u2 : Addr) (Z : ZA zp ti to u1 u2 [u1,a] [u2,b]) (h1 : a≠u1) (h2 : b≠u2) :
    Turn P w K (.Tuple elts k pos) (Izp (sqK K t1 a) (sqK K t2 b)) [zp,ti,to,u1,u2] zp (fun i h => IsZip h zp ti to .none∧IsPair h ti (.ref u1) (.ref u2)∧(∃ p q,IsPair h to p q)∧itK t1 a u1 i h∧itK t2 b u2 i h) where
  mem := by simp
  obj := fun i h st c hc => by
    obtain ⟨hz,hi,⟨p,q,ho⟩,s1,s2⟩ := st
    simp only [List.mem_cons,List.not_mem_nil,or_false] at hc
    rcases hc with rfl | rfl | rfl | rfl | rfl
    · exact ⟨_,hz,fun v z => by have z' : Data.fields _ = Data.cell v := z; cases z'⟩
    · exact ⟨_,hi,fun v z => by have z' : Data.seq _ _ = Data.cell v := z; cases z'⟩
    · exact ⟨_,ho,fun v z => by have z' : Data.seq _ _ = Data.cell v := z; cases z'⟩
    · exact ze5 s1
    · exact ze5 s2
  keep := fun i h h' st kk => by
    obtain ⟨hz,hi,⟨p,q,ho⟩,s1,s2⟩ := st
    exact ⟨kk zp (by simp) _ hz,kk ti (by simp) _ hi,⟨p,q,kk to (by simp) _ ho⟩,zdW s1 fun o e => kk u1 (by simp) o e,zdW s2 fun o e => kk u2 (by simp) o e⟩
  item := by
    intro X hP hw hK hc i pins s σ H E I hf st hg
    subst hP hw hK
    obtain ⟨xs,ys,x,y,q1,q2,hx,hy⟩ := hg
    obtain ⟨hz,hi,⟨p,q,ho⟩,s1,s2⟩ := st
    obtain ⟨its1,St1,rv1,D1,d1,f1⟩ := zjA I hc q1 h1 s1
    obtain ⟨its2,St2,rv2,D2,d2,f2⟩ := zjA I hc q2 h2 s2
    have l1 : i < its1.toArray.size := by
      have := (List.getElem?_eq_some_iff.mp hx).1
      rw [List.size_toArray,← rv1.length]; exact this
    have l2 : i < its2.toArray.size := by
      have := (List.getElem?_eq_some_iff.mp hy).1
      rw [List.size_toArray,← rv2.length]; exact this
    refine zf4 Z D1 D2 hz hi ho d1 d2 l1 l2 fun vx vy h' tk px py hz' hto' st1' st2' hT hsz hk => ⟨_,rfl,wpAny_letOwnedTupleGo_zip hz' fun h'' hz'' hs'' => ?_⟩
    obtain ⟨wx,e1,r1⟩ := rv1.get hx
    obtain ⟨wy,e2,r2⟩ := rv2.get hy
    have ex : vx = wx := by
      have : its1[i]? = some vx := by simpa using px
      rw [e1] at this; exact (Option.some.inj this).symm
    have ey : vy = wy := by
      have : its2[i]? = some vy := by simpa using py
      rw [e2] at this; exact (Option.some.inj this).symm
    subst ex ey
    have nT : ∀ c o,s.heap.get? c = some o→s.heap.objs.size≠c := fun c o e => Nat.ne_of_gt (Heap.lt_size e)
    have hT'' : h''.get? s.heap.objs.size = some { cls := .type "tuple",data := .seq #[vx,vy] } := (hs''.2 _ (nT _ _ hz)).trans hT
    obtain ⟨o1,ho1,_⟩ := ze5 s1
    obtain ⟨o2,ho2,_⟩ := ze5 s2
    refine ⟨.ref s.heap.objs.size,upd H s.heap.objs.size (.tup [x,y]),ze6 (s := s) (h' := h'') (t' := tk) (ch := [zp,to,u1,u2]) I (fun c hc => hf c ?_) (fun c ob hb e => ?_) (Nat.le_refl _) (zjf hT'' r1 r2),rfl,⟨_,x,y,I.hok.fresh (Nat.le_refl _),rfl,rfl,fun zs hz => by rw [zhs I hz q1]; exact hx,fun zs hz => by rw [zhs I hz q2]; exact hy⟩,⟨hz'',?_,⟨vx,vy,?_⟩,?_,?_⟩,fun c hc => ?_⟩
    · simp only [List.mem_cons,List.not_mem_nil,or_false] at hc ⊢
      rcases hc with rfl | rfl | rfl | rfl <;> simp
    · simp only [List.mem_cons,List.not_mem_nil,or_false,not_or] at hb
      exact (hs''.2 c hb.1).trans (hk c ob hb.1 hb.2.1 hb.2.2.1 hb.2.2.2 e)
    · exact (hs''.2 _ Z.a1).trans (hk _ _ Z.a1 Z.a8.1 Z.a8.2.1 Z.a8.2.2 hi)
    · exact (hs''.2 _ Z.a2).trans hto'
    · exact zdW (f1 _ _ st1') fun o e => (hs''.2 _ Z.a3).trans e
    · exact zdW (f2 _ _ st2') fun o e => (hs''.2 _ Z.a4).trans e
    · rw [zam ?_]
      · exact (hf c hc).1
      · simp only [List.mem_cons,List.not_mem_nil,or_false] at hc
        rcases hc with rfl | rfl | rfl | rfl | rfl
        · exact (nT _ _ hz).symm
        · exact (nT _ _ hi).symm
        · exact (nT _ _ ho).symm
        · exact (nT _ _ ho1).symm
        · exact (nT _ _ ho2).symm
  done := by
    intro X hP hw hK hc i pins s σ H E I hf st hg
    subst hP hw hK
    obtain ⟨xs,ys,q1,q2,hm⟩ := hg
    obtain ⟨hz,hi,⟨p,q,ho⟩,s1,s2⟩ := st
    obtain ⟨its1,St1,rv1,D1,d1,f1⟩ := zjA I hc q1 h1 s1
    obtain ⟨its2,St2,rv2,D2,d2,f2⟩ := zjA I hc q2 h2 s2
    have l1 := rv1.length
    have l2 := rv2.length
    refine zez Z D1 D2 hz hi ho d1 d2 ?_ fun h' tk hk => ⟨rfl,zij (h' := h') (t' := tk) (ch := [zp,to,u1,u2]) I (fun c hc => hf c ?_) fun c ob hb e => ?_⟩
    · rw [List.size_toArray,List.size_toArray]
      omega
    · simp only [List.mem_cons,List.not_mem_nil,or_false] at hc ⊢
      rcases hc with rfl | rfl | rfl | rfl <;> simp
    · simp only [List.mem_cons,List.not_mem_nil,or_false,not_or] at hb
      exact hk c ob hb.1 hb.2.1 hb.2.2.1 hb.2.2.2 e
  self := fun _ _ _ _ _ st h => wpAny_pyIter_zip st.1 h
noncomputable def fZip (fa fb : FE) : FI := fun r => (fa r).bind fun d => (fb r).bind fun e => (opt (za2 d)).bind fun ds => (opt (za2 e)).bind fun es => .ok (List.zipWith (fun a b => D.tup [a,b]) ds es)
theorem ziU {α β γ : Type} (f : α→β→γ) : ∀ (l : List α) (r : List β) (i : Nat),(List.zipWith f l r)[i]? = (match l[i]?,r[i]? with | some a,some b => some (f a b) | _,_ => none) := fun l r i => by
  rw [List.getElem?_zipWith]
  cases l[i]? <;> cases r[i]? <;> rfl
theorem zlw {K : PySem.W.Frag} {ds es : List D} {G0 : GH} {sq1 sq2 : Hp→List V→Prop} (h1 : ∀ G H,Gle G0 G→GOk K G H→∃ xs,sq1 H xs∧RGs K G xs ds) (h2 : ∀ G H,Gle G0 G→GOk K G H→∃ xs,sq2 H xs∧RGs K G xs es) : Yields K (Izp sq1 sq2) (List.zipWith (fun a b => D.tup [a,b]) ds es) G0 := by
  refine ⟨fun G H i w gk hi => ?_,fun G H i x H' d w gk y e => ?_,fun G H w gk => ?_⟩
  · obtain ⟨xs,s1,r1⟩ := h1 G H w gk
    obtain ⟨ys,s2,r2⟩ := h2 G H w gk
    rw [List.length_zipWith] at hi
    have l1 := Paired.length r1
    have l2 := Paired.length r2
    exact ⟨xs,ys,xs[i]'(by omega),ys[i]'(by omega),s1,s2,List.getElem?_eq_getElem _,List.getElem?_eq_getElem _⟩
  · obtain ⟨xs,s1,r1⟩ := h1 G H w gk
    obtain ⟨ys,s2,r2⟩ := h2 G H w gk
    obtain ⟨p,v,u,hp,rfl,rfl,hv,hu⟩ := y
    rw [ziU] at e
    cases e1 : ds[i]? with
    | none => rw [e1] at e; cases e
    | some d1 =>
      cases e2 : es[i]? with
      | none => rw [e1,e2] at e; cases e
      | some d2 =>
        rw [e1,e2] at e
        cases e
        obtain ⟨v',z1,rv⟩ := Paired.get r1 e1
        obtain ⟨u',z2,ru⟩ := Paired.get r2 e2
        have a1 := hv xs s1
        have a2 := hu ys s2
        rw [z1] at a1; cases a1
        rw [z2] at a2; cases a2
        exact ⟨_,Grow.newF gk hp (.tup (.inl zar) (.cons rv (.cons ru .nil))),.ref zan⟩
  · obtain ⟨xs,s1,r1⟩ := h1 G H w gk
    obtain ⟨ys,s2,r2⟩ := h2 G H w gk
    refine ⟨xs,ys,s1,s2,?_⟩
    rw [List.length_zipWith,Paired.length r1,Paired.length r2]
section
variable {X : Cx} {g : GE} {m : List Md} {e1 e2 : Expr} {fa fb : FE} {pos p pos2 : Pos} {elts : List Expr} {kk : Nat}
theorem zln {pins : List (Addr × Obj)} {σ : L2.St} {H : Hp} {s : Shared} {t1 t2 : Bool} {a b : Addr} {xs ys : List V} {E : Value→Shared→Prop} {Q : Value→Shared→Prop} (I : Inv X pins σ H s) (q1 : sqK X.K t1 a H xs) (q2 : sqK X.K t2 b H ys) (h : Made s (nmK t1) (nmK t2) a b Q) : wpAny (model X.prog X.w) X.A (call (.type "zip") [.ref a,.ref b]) Q E s := by
  cases t1 with
  | false =>
    obtain ⟨its1,_,p1,_⟩ := I.list q1
    cases t2 with
    | false => obtain ⟨its2,_,p2,_⟩ := I.list q2; exact zjG p1.isList p2.isList h
    | true => obtain ⟨its2,_,p2,_⟩ := I.tuple q2; exact zjF p1.isList (show s.heap.IsTuple b its2.toArray from p2) h
  | true =>
    obtain ⟨its1,_,p1,_⟩ := I.tuple q1
    cases t2 with
    | false => obtain ⟨its2,_,p2,_⟩ := I.list q2; exact zjE (show s.heap.IsTuple a its1.toArray from p1) p2.isList h
    | true => obtain ⟨its2,_,p2,_⟩ := I.tuple q2; exact zjD (show s.heap.IsTuple a its1.toArray from p1) (show s.heap.IsTuple b its2.toArray from p2) h
theorem zcI {x y : Nat} (h : x≠y) : (show Addr from x)≠(show Addr from y) := h
theorem zdt {x u a : Nat} (h1 : x≠u) (h2 : x≠a) : (show Addr from x)∉[(show Addr from u),(show Addr from a)] := fun h => by
  rcases List.mem_cons.mp h with h | h
  · exact h1 h
  · exact h2 (List.mem_singleton.mp h)
theorem zlv {a b k : Nat} (la : a < k) (lb : b < k) : ZA (show Addr from k + 4) (show Addr from k + 2) (show Addr from k + 3) (show Addr from k) (show Addr from k + 1) [(show Addr from k),(show Addr from a)] [(show Addr from k + 1),(show Addr from b)] :=
  ⟨zcI (by omega),zcI (by omega),zcI (by omega),zcI (by omega),zcI (by omega),zcI (by omega),zcI (by omega),⟨zcI (by omega),zcI (by omega),zcI (by omega)⟩,
    ⟨zdt (by omega) (by omega),zdt (by omega) (by omega),zdt (by omega) (by omega)⟩,⟨zdt (by omega) (by omega),zdt (by omega) (by omega),zdt (by omega) (by omega)⟩⟩
theorem zm8 {c k : Nat} (h : c = k + 4∨c = k + 2∨c = k + 3∨c = k∨c = k + 1) : k≤c := by omega
theorem zmk {ta tb : TE} (hg : Gl X "zip") (hm : X.mg "zip" = none) (ha : PE X e1 ta) (hb : PE X e2 tb) (hs : starEach [e1,e2] X.env = (false,eval e1 X.env)::starEach [e2] X.env := by rfl) (hs2 : starEach [e2] X.env = (false,eval e2 X.env)::starEach [] X.env := by rfl) (hpl : (backTo pos (starEach [e2] X.env)).any (·.1) = false := by rfl) :
    PI X (.Tuple elts kk pos2) (.Call (.Name "zip" p) [e1,e2] [] pos) (fun σ H R => ta σ H fun x H1 => tb σ H1 fun y H2 => ∃ (t1 t2 : Bool) (a b : Addr),x = .ref a∧y = .ref b∧(∃ xs,sqK X.K t1 a H2 xs)∧(∃ ys,sqK X.K t2 b H2 ys)∧R (Izp (sqK X.K t1 a) (sqK X.K t2 b)) H2) := by
  intro pins s σ H R I h
  refine Call_ (zeK I hg hm boot_zip (PyProof.Rows.callWith_type1 (thn (zbY ha (zbY hb zeI hs2) hs pos pins s σ H (fun vs H2 => match vs with
    | [x,y] => ∃ (t1 t2 : Bool) (a b : Addr),x = .ref a∧y = .ref b∧(∃ xs,sqK X.K t1 a H2 xs)∧(∃ ys,sqK X.K t2 b H2 ys)∧R (Izp (sqK X.K t1 a) (sqK X.K t2 b)) H2
    | _ => False) I h) fun us s1 ⟨vs,H1,I1,r1,q1⟩ => ?_) hs hpl))
  cases r1 with
  | nil => exact q1.elim
  | @cons x u xs us rx rt =>
  cases rt with
  | nil => exact q1.elim
  | @cons y u' xs' us' ry rt' =>
  cases rt' with
  | cons _ _ => exact q1.elim
  | nil =>
  obtain ⟨t1,t2,a,b,rfl,rfl,⟨zs,z1⟩,⟨ws,z2⟩,q⟩ := q1
  cases rx
  cases ry
  have la := zfk I1 z1
  have lb := zfk I1 z2
  refine zln I1 z1 z2 fun h' hz hi ho o1 o2 kp => wpAny_pyIter_zip hz ?_
  refine ⟨_,[s1.heap.objs.size + 4,s1.heap.objs.size + 2,s1.heap.objs.size + 3,s1.heap.objs.size,s1.heap.objs.size + 1],_,_,H1,rfl,I1.kept (t' := s1.toks) kp,ziW (t1 := t1) (t2 := t2) a b _ _ _ _ _ (zlv la lb) (Nat.ne_of_lt la) (Nat.ne_of_lt (Nat.lt_succ_of_lt lb)),⟨hz,hi,⟨_,_,ho⟩,zii o1,zii o2⟩,fun c hc => ?_,q⟩
  have hge : s1.heap.objs.size≤c := by
    simp only [List.mem_cons,List.not_mem_nil,or_false] at hc
    exact zm8 hc
  exact I1.fpOk hge (I1.hok.fresh hge)
theorem zm5 (hg : Gl X "zip") (hm : X.mg "zip" = none) (ha : SE X g m e1 fa) (hb : SE X g m e2 fb) (hs : starEach [e1,e2] X.env = (false,eval e1 X.env)::starEach [e2] X.env := by rfl) (hs2 : starEach [e2] X.env = (false,eval e2 X.env)::starEach [] X.env := by rfl) (hpl : (backTo pos (starEach [e2] X.env)).any (·.1) = false := by rfl) : SIt X g m (.Tuple elts kk pos2) (.Call (.Name "zip" p) [e1,e2] [] pos) (fZip fa fb) := by
  refine PI.imp (zmk hg hm ha hb hs hs2 hpl) fun σ H R ⟨r,G,si,q⟩ => ⟨r,G,si,zae (zad q) fun d q v G1 H1 w1 rv => ⟨r,G1,si.grow w1,?_⟩⟩
  refine zaz (zad q) w1 fun e q u G2 H2 w2 ru => ?_
  obtain ⟨ds,ed,q⟩ := zat (zad q)
  obtain ⟨es,ee,q⟩ := zat (zad q)
  have rv2 := rv.mono w2.ge
  have one : ∀ {v : V} {d : D} {ds : List D},RG X.K G2 v d→za2 d = some ds→∃ (t : Bool) (a : Addr),v = .ref a∧(∃ xs,sqK X.K t a H2 xs)∧∀ G H,Gle G2 G→GOk X.K G H→∃ xs,sqK X.K t a H xs∧RGs X.K G xs ds := by
    intro v d ds rv ed
    cases d with
    | lst ds' =>
      cases ed
      obtain ⟨a,xs,rfl,s,rs⟩ := rv.lst w2.ok
      refine ⟨false,a,rfl,⟨xs,s⟩,fun G H le gk => ?_⟩
      obtain ⟨b,ys,e,s',r'⟩ := (rv.mono le).lst gk
      cases e
      exact ⟨ys,s',r'⟩
    | tup ds' =>
      cases ed
      obtain ⟨a,xs,rfl,s,rs⟩ := rv.tup w2.ok
      refine ⟨true,a,rfl,⟨xs,s⟩,fun G H le gk => ?_⟩
      obtain ⟨b,ys,e,s',r'⟩ := (rv.mono le).tup gk
      cases e
      exact ⟨ys,s',r'⟩
    | _ => cases ed
  obtain ⟨t1,a,rfl,x1,y1⟩ := one rv2 ed
  obtain ⟨t2,b,rfl,x2,y2⟩ := one ru ee
  exact ⟨t1,t2,a,b,rfl,rfl,x1,x2,q _ G2 H2 (w1.trans w2) (zlw y1 y2)⟩
end
end DL
end
section
namespace DL
open PySem PySem.Spec PyProof.Rows L2
noncomputable def BIG : Nat := 2 ^ 2000
noncomputable def zjP (i j : Int) : Prop := i.natAbs < BIG∧j.natAbs < BIG
noncomputable def znt (_i j : Int) : Prop := 0 < j∧j.natAbs < BIG
noncomputable instance decMulW (i j : Int) : Decidable (zjP i j) := by unfold zjP; infer_instance
noncomputable instance decDivW (i j : Int) : Decidable (znt i j) := by unfold znt; infer_instance
theorem ziK {i : Int} (h : i.natAbs < BIG) : Builtin.Int.intBits i≤2000 := by
  unfold Builtin.Int.intBits
  split
  · exact Nat.zero_le _
  · rename_i z
    have h0 : i.natAbs≠0 := fun e => z (by rw [Int.natAbs_eq_zero.mp e]; rfl)
    have := (Nat.log2_lt h0).mpr h
    omega
theorem zjP.ok {i j : Int} (h : zjP i j) : IntMulOk i j := by
  have h1 := ziK h.1
  have h2 := ziK h.2
  unfold IntMulOk
  have e : Builtin.Int.intTooBig ((Builtin.Int.intBits i : Int) + (Builtin.Int.intBits j : Int)) = false := by
    unfold Builtin.Int.intTooBig
    have : ((bitsLine : Nat) : Int) = 134217728 := by decide +kernel
    exact decide_eq_false (by omega)
  rw [e]; simp
section
variable {X : Cx} {g : GE} {m : List Md} {e a b c o : Expr} {es : List Expr} {f fa fb fc fo : FE} {fl : Rho → Res (List D)} {pos p apos cpos : Pos}
theorem zhB {x : Str} {i : Int} (hg : Gl X x) (hk : ∃ t,X.mg x = some (.int i t)) (hd : (x == ("__debug__" : Str)) = false := by decide) : SE X g m (.Name x pos) fun _ => .ok (.int i) := by
  obtain ⟨t,hm⟩ := hk
  exact zjW (v := .int i) hg hm ⟨t,rfl⟩ (.int i) hd
theorem zop {K : PySem.W.Frag} {h : Heap} {mg : Str→Option Value} {x : Str} (KX : K.In h) (G : h.Ns mainGlobals mg) {i : Int} {t : Tok} (z : PySem.W.nsIn K mainGlobals x = some (some (.int i t))) : ∃ t,mg x = some (.int i t) := ⟨t,PySem.W.mg_of KX G z⟩
end
end DL
end
section
namespace DL
open PySem PySem.Spec PyProof.Rows L2
noncomputable def zck (g : GE) (H : Hp) (fp : List Addr) (i : Nat) (p : Addr) : GE :=
  ⟨g.gh,fun b => if b∈fp then H b else g.h0 b,fun j => if j = i then some (some (V.ref p),none) else g.hd j⟩
theorem zgJ {g : GE} {H H' : Hp} {fp : List Addr} {i : Nat} {p : Addr} (h : ∀ b∈fp,H' b = H b) : zck g H' fp i p = zck g H fp i p := by
  unfold zck
  congr 1
  funext b
  by_cases hb : b∈fp
  · rw [if_pos hb,if_pos hb,h b hb]
  · rw [if_neg hb,if_neg hb]
noncomputable def RowR (K : PySem.W.Frag) (G : GH) (H : Hp) (b : Addr) (ds : List D) : Prop := ∃ xs,H b = some (.lst xs)∧RGs K G xs ds
structure LRw (K : PySem.W.Frag) (G : GH) (H : Hp) (p : Addr) (as : List Addr) (w : List (List D)) : Prop where
  out : H p = some (.lst (as.map V.ref))
  nd : (p::as).Nodup
  un : ∀ b∈p::as,G b = none
  rw : Paired (RowR K G H) as w
theorem RowR.mono {K : PySem.W.Frag} {G G' : GH} {H H' : Hp} {b : Addr} {ds : List D} (h : RowR K G H b ds) (ge : Gle G G') (he : H' b = H b) : RowR K G' H' b ds := by
  obtain ⟨xs,h1,h2⟩ := h
  exact ⟨xs,by rw [he]; exact h1,h2.mono ge⟩
theorem zgy {α β : Type} {F F' : α→β→Prop} {l : List α} {r : List β} (h : Paired F l r) (f : ∀ a∈l,∀ b,F a b→F' a b) : Paired F' l r := by
  induction h with
  | nil => exact .nil
  | cons h _ ih => exact .cons (f _ List.mem_cons_self _ h) (ih fun a ha => f a (List.mem_cons_of_mem _ ha))
theorem LRw.isS {K : PySem.W.Frag} {G : GH} {H : Hp} {p : Addr} {as : List Addr} {w : List (List D)} (h : LRw K G H p as w) {b : Addr} (hb : b∈p::as) : H b≠none := by
  rcases List.mem_cons.mp hb with rfl | hb
  · rw [h.out]; simp
  · have : ∀ {as : List Addr} {w : List (List D)},Paired (RowR K G H) as w→b∈as→H b≠none := fun {as w} q hb => by
      induction q with
      | nil => cases hb
      | cons r _ ih =>
        rcases List.mem_cons.mp hb with rfl | hb
        · obtain ⟨xs,e,_⟩ := r; rw [e]; simp
        · exact ih hb
    exact this h.rw hb
theorem LRw.mono {K : PySem.W.Frag} {G G' : GH} {H H' : Hp} {p : Addr} {as : List Addr} {w : List (List D)} (h : LRw K G H p as w) (ge : Gle G G') (he : ∀ b∈p::as,H' b = H b) (un : ∀ b∈p::as,G' b = none) : LRw K G' H' p as w :=
  ⟨by rw [he p List.mem_cons_self]; exact h.out,h.nd,un,zgy h.rw fun b hb ds r => r.mono ge (he b (List.mem_cons_of_mem _ hb))⟩
noncomputable def SI2 (X : Cx) (g : GE) (i : Nat) (m : List Md) (r : Rho) (w : List (List D)) (G : GH) (st : L2.St) (H : Hp) : Prop :=
  ∃ p as,LRw X.K G H p as w∧(∀ b∈p::as,g.h0 b = none)∧SI X (zck g H (p::as) i p) m r G st H∧m[i]? = some .bw
section
variable {X : Cx} {g : GE} {i : Nat} {m m' m1 : List Md} {r r' : Rho} {w : List (List D)} {G G' : GH} {σ σ' : L2.St} {H H' : Hp}
theorem zhd {p : Addr} {as : List Addr} (R : LRw X.K G H p as w) (h0 : ∀ b∈p::as,g.h0 b = none) (si : SI X (zck g H (p::as) i p) m r G σ H) (le : Gle G G') (si' : SI X (zck g H (p::as) i p) m' r' G' σ' H') (hm : m'[i]? = some .bw) : SI2 X g i m' r' w G' σ' H' := by
  have he : ∀ b∈p::as,H' b = H b := fun b hb => by
    have hs := R.isS hb
    cases e : H b with
    | none => exact absurd e hs
    | some o =>
      have : (zck g H (p::as) i p).h0 b = some o := by show (if b∈p::as then H b else g.h0 b) = _; rw [if_pos hb]; exact e
      rw [si'.old b o this]
  have un : ∀ b∈p::as,G' b = none := fun b hb => by
    have h : (zck g H (p::as) i p).h0 b≠none := by show (if b∈p::as then H b else g.h0 b)≠_; rw [if_pos hb]; exact R.isS hb
    have e1 := si'.gf b h
    have e2 := si.gf b h
    rw [e1,← e2]; exact R.un b hb
  exact ⟨p,as,R.mono le he un,h0,by rw [zgJ he]; exact si',hm⟩
noncomputable abbrev FS2 := Rho→List (List D)→Option (Rho × List (List D))
variable {st : Stmt} {sts : List Stmt} {ro : Bool} {mb : List Md} {s1 : FS} {f1 f2 : FS2} {tg iter : Expr} {pos : Pos}
theorem zlh {K : PySem.W.Frag} {H : Hp} : ∀ {as : List Addr} {w : List (List D)} {G : GH},GOk K G H→Paired (RowR K G H) as w→as.Nodup→(∀ b∈as,G b = none)→∃ G',Gle G G'∧(∀ b,b∉as→G' b = G b)∧GOk K G' H∧Paired (fun b ds => G' b = some (.lst ds)) as w := by
  intro as
  induction as with
  | nil =>
    intro w G gk h _ _
    cases h
    exact ⟨G,Gle.refl G,fun _ _ => rfl,gk,.nil⟩
  | cons b as ih =>
    intro w G gk h nd un
    cases h with
    | @cons _ ds _ w r t =>
      rw [List.nodup_cons] at nd
      have hb := un b List.mem_cons_self
      obtain ⟨xs,e,rs⟩ := r
      have g1 : GOk K (gset G b (.lst ds)) H := gk.gset hb (.lst (.inl e) rs)
      obtain ⟨G',l,o,g,q⟩ := ih g1 (zgy t fun c hc ds r => r.mono (zaI hb) rfl) nd.2 fun c hc => by
        rw [zaS (by rintro rfl; exact nd.1 hc)]; exact un c (List.mem_cons_of_mem _ hc)
      refine ⟨G',Gle.trans (zaI hb) l,fun c hc => ?_,g,.cons (l _ _ zan) q⟩
      rw [o c fun z => hc (List.mem_cons_of_mem _ z),zaS (by rintro rfl; exact hc List.mem_cons_self)]
theorem zhR {G : GH} {as : List Addr} {w : List (List D)} {b : Addr} (hb : b∈as) (q : Paired (fun b ds => G b = some (.lst ds)) as w) : ∃ ds,G b = some (.lst ds) := by
  induction q with
  | nil => cases hb
  | cons h _ ih =>
    rcases List.mem_cons.mp hb with rfl | hb
    · exact ⟨_,h⟩
    · exact ih hb
theorem zgI {fp : List Addr} {p : Addr} {d0 : D} (si : SI X (zck g H fp i p) m r G σ H) (hm : m[i]? = some .bw) (h0 : ∀ b∈fp,g.h0 b = none) (hS : ∀ b∈fp,H b≠none) (hb : ∀ j,j≠i→m[j]?≠some .bw) (le : Gle G G') (g2 : GOk X.K G' H) (out : ∀ b,b∉fp→G' b = G b) (hd : G' p = some d0) :
    SI X g (m.set i .sh) (r.set i (some d0)) G' σ H := by
  have hlt : i < m.length := (List.getElem?_eq_some_iff.mp hm).1
  have hst : σ[i]? = some (some (V.ref p)) := (si.lk i (some (V.ref p),none) (by show (if i = i then _ else _) = _; rw [if_pos rfl]) hm).1
  have h0' : ∀ b,b∉fp→(zck g H (fp) i p).h0 b = g.h0 b := fun b hb => by show (if b∈fp then H b else g.h0 b) = _; rw [if_neg hb]
  have h0i : ∀ b,b∈fp→(zck g H (fp) i p).h0 b≠none := fun b hb => by show (if b∈fp then H b else g.h0 b)≠_; rw [if_pos hb]; exact hS b hb
  have nin : ∀ b,g.h0 b≠none→b∉fp := fun b h z => h (h0 b z)
  have mne : ∀ {j x},i≠j→(m.set i .sh)[j]? = some x→m[j]? = some x := fun hij h => by rw [List.getElem?_set_ne hij] at h; exact h
  refine ⟨g2,fun a o e => ?_,fun a d e => le a d (si.ge a d e),fun a h => ?_,by simpa using si.lm,by simpa using si.lr,fun j d h1 h2 => ?_,fun j d h1 h2 => ?_,fun j d h1 h2 => ?_,fun j k a d e hjk h1 h2 m1 m2 z1 z2 => ?_,fun j o hj hm' => ?_⟩
  · exact si.old a o (by rw [h0' a (nin a (by rw [e]; simp))]; exact e)
  · have hn := nin a h
    rw [out a hn]
    exact si.gf a (by rw [h0' a hn]; exact h)
  · by_cases hij : i = j
    · subst hij
      rw [List.getElem?_set_self (by rw [si.lr,← si.lm]; exact hlt)] at h1
      cases h1
      exact ⟨_,hst,.ref hd⟩
    · rw [List.getElem?_set_ne hij] at h1
      obtain ⟨v,y1,y2⟩ := si.sh j d h1 (mne hij h2)
      exact ⟨v,y1,y2.mono le⟩
  · by_cases hij : i = j
    · subst hij; rw [List.getElem?_set_self hlt] at h2; cases h2
    · rw [List.getElem?_set_ne hij] at h1
      obtain ⟨a,y1,y2,y3⟩ := si.ow j d h1 (mne hij h2)
      have hn : a∉fp := fun z => h0i a z y3
      exact ⟨a,y1,⟨by rw [out a hn]; exact y2.un,y2.ob.mono le fun _ z => z⟩,by rw [← h0' a hn]; exact y3⟩
  · by_cases hij : i = j
    · subst hij; rw [List.getElem?_set_self hlt] at h2; cases h2
    · exact absurd (mne hij h2) (hb j (Ne.symm hij))
  · have hij : i≠j := by rintro rfl; rw [List.getElem?_set_self hlt] at m1; cases m1
    have hik : i≠k := by rintro rfl; rw [List.getElem?_set_self hlt] at m2; cases m2
    rw [List.getElem?_set_ne hij] at h1
    rw [List.getElem?_set_ne hik] at h2
    exact si.dis j k a d e hjk h1 h2 (mne hij m1) (mne hik m2) z1 z2
  · by_cases hij : i = j
    · subst hij; rw [List.getElem?_set_self hlt] at hm'; cases hm'
    · exact absurd (mne hij hm') (hb j (Ne.symm hij))
theorem SI2.frz (s : SI2 X g i m r w G σ H) (hb : ∀ j,j≠i→m[j]?≠some .bw) : ∃ G',Gle G G'∧(∀ b d,G b = none→G' b = some d→∃ ds,d = .lst ds)∧SI X g (m.set i .sh) (r.set i (some (.lst (w.map D.lst)))) G' σ H := by
  obtain ⟨p,as,R,h0,si,hm⟩ := s
  have nd := List.nodup_cons.mp R.nd
  obtain ⟨G1,l1,o1,g1,q1⟩ := zlh si.gok R.rw nd.2 fun b hb => R.un b (List.mem_cons_of_mem _ hb)
  have hp1 : G1 p = none := by rw [o1 p nd.1]; exact R.un p List.mem_cons_self
  have rs : RGs X.K G1 (as.map V.ref) (w.map D.lst) := by
    have : ∀ {as : List Addr} {w : List (List D)},Paired (fun b ds => G1 b = some (.lst ds)) as w→RGs X.K G1 (as.map V.ref) (w.map D.lst) := fun {as w} q => by
      induction q with
      | nil => exact .nil
      | cons h _ ih => exact .cons (.ref h) ih
    exact this q1
  have g2 : GOk X.K (gset G1 p (.lst (w.map D.lst))) H := g1.gset hp1 (.lst (.inl R.out) rs)
  have le : Gle G (gset G1 p (.lst (w.map D.lst))) := Gle.trans l1 (zaI hp1)
  have out : ∀ b,b∉p::as→gset G1 p (.lst (w.map D.lst)) b = G b := fun b hb => by
    rw [zaS (by rintro rfl; exact hb List.mem_cons_self),o1 b fun z => hb (List.mem_cons_of_mem _ z)]
  refine ⟨_,le,fun b d hn e => ?_,zgI si hm h0 (fun b hb => R.isS hb) hb le g2 out zan⟩
  by_cases hbp : b = p
  · subst hbp; rw [zan] at e; cases e; exact ⟨_,rfl⟩
  · rw [zaS hbp] at e
    by_cases hba : b∈as
    · obtain ⟨ds,e1⟩ := zhR hba q1
      rw [e1] at e; cases e; exact ⟨_,rfl⟩
    · rw [o1 b hba,hn] at e; cases e
end
end DL
end
section
namespace DL
open PySem PySem.Spec PyProof.Rows L2
noncomputable def RO (K : PySem.W.Frag) (H2 : Hp) (p : Addr) (G : GH) (H : Hp) (ws : List V) (ds : List D) : Prop := Paired (fun v d => ∃ b,v = V.ref b∧H2 b = none∧b≠p∧Own K G H b d) ws ds∧ws.Nodup
section
variable {K : PySem.W.Frag} {H2 : Hp} {p : Addr} {G G' : GH} {H H' : Hp} {ws : List V} {ds : List D}
theorem RO.grow (h : RO K H2 p G H ws ds) (w : Grow K G H G' H') : RO K H2 p G' H' ws ds :=
  ⟨Paired.mono (fun v d ⟨b,e,h1,h2,h3⟩ => ⟨b,e,h1,h2,h3.mono w⟩) h.1,h.2⟩
theorem RO.upd {o : HO} (h : RO K H2 p G H ws ds) : RO K H2 p G (L2.upd H p o) ws ds :=
  ⟨Paired.mono (fun v d ⟨b,e,h1,h2,h3⟩ => ⟨b,e,h1,h2,h3.un,h3.ob.mono (fun _ _ z => z) fun _ z => by rw [zam h2]; exact z⟩) h.1,h.2⟩
end
section
variable {X : Cx} {pins : List (Addr × Obj)} {σ : L2.St} {H2 : Hp} {s2 : Shared} {scope : Scope} {N' : List Str} {nl : Nat} {cap : List Nat} {cl : List (Str × Addr)} {fp : List Addr} {g : GE} {G2 : GH} {m : List Md} {r : Rho} {elt tg iter : Expr} {ifs : List Expr} {pos : Pos}
end
end DL
end
section
namespace DL
open PySem PySem.Spec PyProof.Rows L2
section
variable {X : Cx} {g : GE} {m mb : List Md} {scope : Scope} {N' : List Str} {nl : Nat} {cap : List Nat} {elt tg iter : Expr} {ifs : List Expr} {pos pos' spos : Pos} {fi : FI} {ft : FT} {q : FQ} {fe : FE} {ro : Bool}
end
end DL
end
section
namespace DL
open PySem PySem.Spec PyProof.Rows L2
section
variable {X : Cx} {g : GE} {i : Nat} {m m' m1 : List Md} {r r' : Rho} {w : List (List D)} {G G' : GH} {σ σ' : L2.St} {H H' : Hp}
theorem SI.row {p : Addr} {as : List Addr} (R : LRw X.K G H p as w) (si : SI X (zck g H (p::as) i p) m r G σ H) (hm : m[i]? = some .bw) (hb : ∀ j,j≠i→m[j]?≠some .bw) {b : Addr} (hbm : b∈p::as) (o : HO) : SI X (zck g (upd H b o) (p::as) i p) m r G σ (upd H b o) := by
  have un := R.un b hbm
  have h0' : ∀ c,c∉p::as→(zck g H (p::as) i p).h0 c = g.h0 c := fun c hc => by show (if c∈p::as then H c else g.h0 c) = _; rw [if_neg hc]
  have h0i : ∀ c,c∈p::as→(zck g H (p::as) i p).h0 c = H c := fun c hc => by show (if c∈p::as then H c else g.h0 c) = _; rw [if_pos hc]
  have k0' : ∀ c,c∉p::as→(zck g (upd H b o) (p::as) i p).h0 c = g.h0 c := fun c hc => by show (if c∈p::as then _ else g.h0 c) = _; rw [if_neg hc]
  have k0i : ∀ c,c∈p::as→(zck g (upd H b o) (p::as) i p).h0 c = upd H b o c := fun c hc => by show (if c∈p::as then upd H b o c else g.h0 c) = _; rw [if_pos hc]
  refine ⟨fun c d e => ?_,fun c u e => ?_,si.ge,fun c h => ?_,si.lm,si.lr,si.sh,fun j d h1 h2 => ?_,fun j d h1 h2 => ?_,si.dis,si.lk⟩
  · have hc : c≠b := by rintro rfl; rw [un] at e; cases e
    exact (si.gok c d e).mono (fun _ _ z => z) fun u z => by rw [zam hc]; exact z
  · by_cases hc : c∈p::as
    · rw [k0i c hc] at e; exact e
    · rw [k0' c hc] at e
      have hcb : c≠b := by rintro rfl; exact hc hbm
      rw [zam hcb]
      exact si.old c u (by rw [h0' c hc]; exact e)
  · by_cases hc : c∈p::as
    · exact si.gf c (by rw [h0i c hc]; exact R.isS hc)
    · rw [k0' c hc] at h
      exact si.gf c (by rw [h0' c hc]; exact h)
  · obtain ⟨a,q1,q2,q3⟩ := si.ow j d h1 h2
    have ha : a∉p::as := fun z => by rw [h0i a z] at q3; exact R.isS z q3
    have hab : a≠b := by rintro rfl; exact ha hbm
    rw [h0' a ha] at q3
    exact ⟨a,q1,⟨q2.un,q2.ob.mono (fun _ _ z => z) fun u z => by rw [zam hab]; exact z⟩,by rw [k0' a ha]; exact q3⟩
  · by_cases hj : j = i
    · subst hj
      have := (si.lk j (some (V.ref p),none) (by show (if j = j then _ else _) = _; rw [if_pos rfl]) hm).2 d h1
      cases this
    · exact absurd h2 (hb j hj)
variable {ro : Bool} {mb : List Md} {pos p1 p2 p3 p4 p5 p6 p7 p8 p9 p10 p11 : Pos} {x xa xb : Str} {jc : Nat}
end
end DL
end
section
namespace DL
open PySem PySem.Spec PyProof.Rows L2
noncomputable def lessA (H : Hp) (a : Addr) : Hp := fun b => if b = a then none else H b
theorem zjl {H : Hp} {a b : Addr} (h : b≠a) : lessA H a b = H b := if_neg h
theorem Grow.lessA {K : PySem.W.Frag} {G G' G2 : GH} {H H' H2 : Hp} {a : Addr} (w : Grow K G H G' H') (ha : H a = none) (w2 : Grow K G' (lessA H' a) G2 H2) : Grow K G H G2 H2 := by
  have ne : ∀ b,H b≠none→b≠a := fun b h => by rintro rfl; exact h ha
  have he : ∀ b o,H b = some o→DL.lessA H' a b = some o := fun b o e => by rw [zjl (ne b (by rw [e]; simp))]; exact w.he b o e
  refine ⟨w2.ok,fun b o e => w2.he b o (he b o e),fun b d e => w2.ge b d (w.ge b d e),fun b h => ?_⟩
  rw [w2.gf b ?_,w.gf b h]
  cases e : H b with
  | none => exact absurd e h
  | some o => rw [he b o e]; simp
noncomputable def spV (K : PySem.W.Frag) (ro : Bool) (ms : List Md) (F : List D→Res D) : Sp := fun vs H Q _ => ∃ G us a ds d,GOk K G H∧vs = us++[V.ref a]∧ArgsOk K G H ms us ds∧Own K G H a d ∧
  fin (F (ds++[d])) (fun d' => ∀ v G' H',Grow K G (lessA H a) G' H'→RV ro K (lessA H a) G' H' v d'→Q v H') fun _ => False
section
variable {K : PySem.W.Frag} {G : GH} {H : Hp}
theorem ArgsOk.snoc {ms : List Md} {us : List V} {ds : List D} {v : V} {d : D} (h : ArgsOk K G H ms us ds) (r : RB K G H v d) : ArgsOk K G H (ms++[.bw]) (us++[v]) (ds++[d]) := by
  induction h with
  | nil => exact .bw r .nil
  | sh h _ ih => exact .sh h ih
  | bw h _ ih => exact .bw h ih
end
section
variable {P : Program} {w : World} {K : PySem.W.Frag} {mg : Str → Option Value} {base : Heap}
structure CalleeV (P : Program) (w : World) (K : PySem.W.Frag) (mg : Str→Option Value) (base : Heap) (x : Str) (ps : List Str) (k : Nat) (ro : Bool) (ms : List Md) (F : List D→Res D) : Prop where
  ex : ∃ f fd,mg x = some (.ref f)∧PySem.W.keepIn K (.ref f) = true∧zeB K fd ps []∧FnOk P w K mg base CX0 k f fd ps (spV K ro ms F)
end
section
variable {X : Cx} {g : GE} {m ms : List Md} {e : Expr} {es : List Expr} {f : FE} {fl : Rho → Res (List D × D)} {x : Str} {ps : List Str} {k : Nat} {F : List D → Res D} {p pos : Pos}
end
end DL
end
section
namespace DL
open PySem PySem.Spec PyProof.Rows L2
theorem LRw.grow {K : PySem.W.Frag} {G G' : GH} {H H' : Hp} {p : Addr} {as : List Addr} {w : List (List D)} (R : LRw K G H p as w) (wg : Grow K G H G' H') : LRw K G' H' p as w := by
  refine R.mono wg.ge (fun b hb => ?_) fun b hb => by rw [wg.gf b (R.isS hb)]; exact R.un b hb
  cases e : H b with
  | none => exact absurd e (R.isS hb)
  | some o => rw [wg.he b o e]
section
variable {X : Cx} {g : GE} {i : Nat} {m m' m1 : List Md} {r r' : Rho} {w : List (List D)} {G G' : GH} {σ σ' : L2.St} {H H' : Hp} {st : Stmt} {sts sts' : List Stmt} {f1 f2 : FS2} {c e ie : Expr} {es : List Expr} {q : FQ} {f fi : FE} {fl : Rho → Res (List D)} {pos p1 p2 p3 apos cpos spos : Pos} {x y : Str}
end
end DL
end
section
namespace DL
open PySem PySem.Spec PyProof.Rows L2
noncomputable def zil : List D→Option D
  | [.bl b] => some (.int (if b then 1 else 0))
  | _ => none
theorem ziI {X : Cx} : zdk X (.type "int") (fun xs H Q => ∃ b : Bool,xs = [.bl b]∧Q (.int (if b then 1 else 0)) H) := by
  intro pins s σ H xs us Q I r h
  obtain ⟨b,rfl,q⟩ := h
  obtain ⟨u,rfl,rx⟩ := zev r
  cases rx
  exact call_int_bool ⟨.int (if b then 1 else 0),H,I.tok _,⟨_,rfl⟩,q⟩
theorem zla {K : PySem.W.Frag} : zhj K (fun xs H Q => ∃ b : Bool,xs = [.bl b]∧Q (.int (if b then 1 else 0)) H) zil := by
  intro G H vs ds d Q gk rs e q
  unfold zil at e
  split at e
  · cases e
    cases rs with
    | cons r1 t =>
      cases t
      exact ⟨_,by rw [r1.bl gk],q _ G H (Grow.refl gk) (.scl (.int _))⟩
  · cases e
theorem zlV {X : Cx} {g : GE} {m : List Md} {e : Expr} {es : List Expr} {fl : Rho→Res (List D)} {pos p : Pos} (hg : Gl X "int") (hm : X.mg "int" = none) (ha : SAB X g m (e::es) fl) (he : starEach (e::es) X.env = (false,eval e X.env)::starEach es X.env := by rfl) (hpl : (backTo pos (starEach es X.env)).any (·.1) = false := by rfl) :
    SE X g m (.Call (.Name "int" p) (e::es) [] pos) (fC fl zil) := s_cb zla (zfz ziI hg hm rfl ha (by decide) (by decide) he hpl)
end DL
end
section
namespace DL
open PySem PySem.Spec PyProof.Rows L2
section
variable {X : Cx} {pins : List (Addr × Obj)} {σ : L2.St} {H : Hp} {s : Shared}
end
section
variable {X : Cx} {g : GE} {m : List Md} {a b : Expr} {fl : Rho → Res (List D)} {fa fb : FE} {pos p : Pos}
end
end DL
end
section
namespace DL
open PySem PySem.Spec PyProof.Rows L2
inductive Cln : D→Prop where
  | non : Cln .non
  | bl (b : Bool) : Cln (.bl b)
  | int (i : Int) : Cln (.int i)
  | str (x : Str) : Cln (.str x)
  | tup {ds : List D} : (∀ d∈ds,Cln d)→Cln (.tup ds)
theorem Cln.lst {ds : List D} (h : Cln (.lst ds)) : False := nomatch h
theorem Cln.dic {ds : List (Key × D)} (h : Cln (.dic ds)) : False := nomatch h
theorem Cln.get {ds : List D} (h : Cln (.tup ds)) : ∀ d∈ds,Cln d := by
  cases h with
  | tup h => exact h
section
variable {X : Cx} {g : GE} {i : Nat} {m m' m1 : List Md} {r r' : Rho} {w : List (List D)} {G G' : GH} {σ σ' : L2.St} {H H' : Hp} {e : Expr} {f : FE} {st : Stmt} {pos p1 p2 p3 p4 p5 p6 p7 p8 p9 p10 : Pos} {x xa xb y : Str}
theorem SI2.after (s : SI2 X g i m r w G σ H) (wg : Grow X.K G H G' H') : SI2 X g i m r w G' σ H' := by
  obtain ⟨p,as,R,h0,si,hm⟩ := s
  exact zhd R h0 si wg.ge (si.grow wg) hm
end
end DL
end
section
namespace DL
open PySem PySem.Spec PyProof.Rows L2
structure TL (K : PySem.W.Frag) (G : GH) (H : Hp) (p a : Addr) (d1 : D) (ds : List D) : Prop where
  tp : ∃ x xs,H p = some (.tup [x,.ref a])∧RG K G x d1∧H a = some (.lst xs)∧RGs K G xs ds
  un : ∀ b∈[p,a],G b = none
  ne : p≠a
theorem TL.isS {K : PySem.W.Frag} {G : GH} {H : Hp} {p a : Addr} {d1 : D} {ds : List D} (t : TL K G H p a d1 ds) : ∀ b∈[p,a],H b≠none := fun b hb => by
  obtain ⟨x,xs,h1,_,h2,_⟩ := t.tp
  rcases List.mem_cons.mp hb with rfl | hb
  · rw [h1]; simp
  · rw [List.mem_singleton.mp hb,h2]; simp
theorem TL.grow {K : PySem.W.Frag} {G G' : GH} {H H' : Hp} {p a : Addr} {d1 : D} {ds : List D} (t : TL K G H p a d1 ds) (w : Grow K G H G' H') : TL K G' H' p a d1 ds := by
  obtain ⟨x,xs,h1,h2,h3,h4⟩ := t.tp
  exact ⟨⟨x,xs,w.he _ _ h1,h2.mono w.ge,w.he _ _ h3,h4.mono w.ge⟩,fun b hb => by rw [w.gf b (t.isS b hb)]; exact t.un b hb,t.ne⟩
noncomputable def RW (K : PySem.W.Frag) (H0 : Hp) (G : GH) (H : Hp) (v : V) (d : D) : Prop := ∃ p a d1 ds,v = .ref p∧d = .tup [d1,.lst ds]∧(∀ b∈[p,a],H0 b = none)∧TL K G H p a d1 ds
noncomputable def spW (K : PySem.W.Frag) (ms : List Md) (F : List D→Res D) : Sp := fun vs H Q _ => ∃ G ds,GOk K G H∧ArgsOk K G H ms vs ds∧fin (F ds) (fun d => ∀ v G' H',Grow K G H G' H'→RW K H G' H' v d→Q v H') fun _ => False
noncomputable abbrev FW := Rho→Res D
section
variable {X : Cx} {g : GE} {ro : Bool} {i : Nat} {m m' m1 mb : List Md} {r r' : Rho} {G G' : GH} {σ σ' : L2.St} {H H' : Hp} {e e1 e2 c : Expr} {f f1 f2 : FE} {q : FQ} {st : Stmt} {sts sts1 : List Stmt} {s1 : FS} {fs : FW} {pos p1 p2 p3 p4 apos cpos : Pos} {x y : Str}
end
section
variable {P : Program} {w : World} {K : PySem.W.Frag} {mg : Str → Option Value} {base : Heap}
structure CalleeW (P : Program) (w : World) (K : PySem.W.Frag) (mg : Str→Option Value) (base : Heap) (x : Str) (ps : List Str) (k : Nat) (ms : List Md) (F : List D→Res D) : Prop where
  ex : ∃ f fd,mg x = some (.ref f)∧PySem.W.keepIn K (.ref f) = true∧zeB K fd ps []∧FnOk P w K mg base CX0 k f fd ps (spW K ms F)
end
section
variable {X : Cx} {g : GE} {ro : Bool} {i : Nat} {m m' m1 mb ms : List Md} {r r' : Rho} {G G' : GH} {σ σ' : L2.St} {H H' : Hp} {e c : Expr} {es : List Expr} {q : FQ} {st : Stmt} {sts sts1 : List Stmt} {fl : Rho → Res (List D)} {F : List D → Res D} {k : Nat} {ps : List Str} {pos p1 p2 p3 p4 apos cpos : Pos} {x y : Str} {d1 : D} {ds : List D}
noncomputable def SI3 (X : Cx) (g : GE) (i : Nat) (m : List Md) (r : Rho) (d1 : D) (ds : List D) (G : GH) (st : L2.St) (H : Hp) : Prop :=
  ∃ p a,TL X.K G H p a d1 ds∧(∀ b∈[p,a],g.h0 b = none)∧SI X (zck g H [p,a] i p) m r G st H∧m[i]? = some .bw
theorem SI3.after (s : SI3 X g i m r d1 ds G σ H) (wg : Grow X.K G H G' H') : SI3 X g i m r d1 ds G' σ H' := by
  obtain ⟨p,a,t,h0,si,hm⟩ := s
  refine ⟨p,a,t.grow wg,h0,?_,hm⟩
  rw [zgJ (H := H) fun b hb => ?_]
  · exact si.grow wg
  · cases e : H b with
    | none => exact absurd e (t.isS b hb)
    | some o => rw [wg.he b o e]
theorem SI3.frz (s : SI3 X g i m r d1 ds G σ H) (hb : ∀ j,j≠i→m[j]?≠some .bw) : ∃ G',Gle G G'∧(∀ b d,G b = none→G' b = some d→¬ Cln d)∧SI X g (m.set i .sh) (r.set i (some (.tup [d1,.lst ds]))) G' σ H := by
  obtain ⟨p,a,t,h0,si,hm⟩ := s
  obtain ⟨x,xs,h1,h2,h3,h4⟩ := t.tp
  have ua := t.un a (List.mem_cons_of_mem _ List.mem_cons_self)
  have up := t.un p List.mem_cons_self
  have g1 : GOk X.K (gset G a (.lst ds)) H := si.gok.gset ua (.lst (.inl h3) h4)
  have up1 : gset G a (.lst ds) p = none := by rw [zaS t.ne]; exact up
  have g2 : GOk X.K (gset (gset G a (.lst ds)) p (.tup [d1,.lst ds])) H := g1.gset up1 (.tup (.inl h1) (.cons (h2.mono (zaI ua)) (.cons (.ref zan) .nil)))
  refine ⟨_,Gle.trans (zaI ua) (zaI up1),fun b d hn e hc => ?_,zgI si hm h0 t.isS hb (Gle.trans (zaI ua) (zaI up1)) g2 (fun b hb => ?_) zan⟩
  · by_cases hbp : b = p
    · subst hbp; rw [zan] at e; cases e
      exact (hc.get _ (List.mem_cons_of_mem _ List.mem_cons_self)).lst
    · rw [zaS hbp] at e
      by_cases hba : b = a
      · subst hba; rw [zan] at e; cases e; exact hc.lst
      · rw [zaS hba,hn] at e; cases e
  · rw [zaS (by rintro rfl; exact hb List.mem_cons_self),zaS (by rintro rfl; exact hb (List.mem_cons_of_mem _ List.mem_cons_self))]
end
end DL
end
section
namespace DL
section
open PySem PyProof.Rows PySem.W PySem.Calls
variable {prog : Program} {w : World} {A : Around} {E : Value → Shared → Prop} {s : Shared} {l : Addr} {vs : List Value} {ns : List Int}
end
open PySem PySem.Spec PyProof.Rows L2
section
variable {X : Cx} {pins : List (Addr × Obj)} {σ : L2.St} {H : Hp} {s : Shared}
end
section
variable {X : Cx} {g : GE} {m : List Md} {a b : Expr} {fl : Rho → Res (List D)} {fa fb : FE} {pos p : Pos}
end
end DL
end
section
namespace DL
section
open PySem PyProof.Rows
variable {prog : Program} {w : World} {A : Around} {R : Result → Shared → Prop} {I S : Addr} {fp wr : List Addr} {n : Nat} {P : Nat → Value → Prop} {St : Nat → Heap → Prop} {TP : Heap → Prop} {bt : Nat → Nat → Bool}
noncomputable def zgP (wr : List Addr) (S : Addr) (h h' : Heap) : Prop := ∀ b o,b∉wr→b≠S→h.get? b = some o→h'.get? b = some o
theorem zgP.trans {h h1 h2 : Heap} (a : zgP wr S h h1) (b : zgP wr S h1 h2) : zgP wr S h h2 := fun c o hc hs e => b c o hc hs (a c o hc hs e)
end
end DL
end
section
namespace DL
open PySem PySem.Spec PyProof.Rows L2
section
variable {X : Cx} {pins : List (Addr × Obj)} {σ : L2.St} {H : Hp} {s : Shared}
end
section
variable {X : Cx} {g : GE} {m : List Md} {e : Expr} {es : List Expr} {fl : Rho → Res (List D)} {pos p : Pos}
end
section
variable {X : Cx}
end
end DL
end
section
namespace DL
open PySem PySem.Spec PyProof.Rows L2 PySem.W PySem.Calls
noncomputable def spX (K : PySem.W.Frag) (ro : Bool) (ms : List Md) (F : List D→Res D) : Sp := fun vs H Q E => ∃ G ds,GOk K G H∧ArgsOk K G H ms vs ds ∧
  fin (F ds) (fun d => ∀ v G' H',Grow K G H G' H'→RV ro K H G' H' v d→Q v H') fun x => ∀ C od nm fs G' H',x = xD nm fs→XN K nm C→XF G' od fs→Grow K G H G' H'→E (.ref C) od H'
section
variable {X : Cx} {k : Nat} {f : Addr} {fd : FuncData} {ps : List Str} {sp : Sp} {dvs : List V} {ds : List Value} {x : Str} {p pos : Pos} {e : Expr} {es : List Expr} {t : TA}
end
section
variable {P : Program} {w : World} {K : PySem.W.Frag} {mg : Str → Option Value} {base : Heap}
structure CalleeX (P : Program) (w : World) (K : PySem.W.Frag) (mg : Str→Option Value) (base : Heap) (x : Str) (ps : List Str) (ds : List Value) (k : Nat) (ro : Bool) (ms : List Md) (F : List D→Res D) : Prop where
  ex : ∃ f fd,mg x = some (.ref f)∧PySem.W.keepIn K (.ref f) = true∧zeB K fd ps ds∧FnOk P w K mg base (CXR P w) k f fd ps (spX K ro ms F)
end
section
variable {X : Cx} {g : GE} {ro : Bool} {m mb : List Md} {e : Expr} {es : List Expr} {fl : Rho → Res (List D)} {k : Nat} {ps : List Str} {F : List D → Res D} {dvs : List V} {ds : List Value} {dds : List D} {x : Str} {p np pos : Pos} {ms : List Md} {C : Addr}
end
end DL
end
section
namespace DL
open PySem PySem.Spec PyProof.Rows L2 PySem.W PySem.Calls
section
variable {M : Model} {A : Around} {E : Value → Shared → Prop} {s : Shared} {nm q nmT qT : Str} {C N T NT : Addr} {bs bm bsT bmT : List Value} {hdct hdctT : Bool} {sn snT : List Str} {sub subT' : List Value} {ab abT : Bool} {col colT : Option Bool} {dd ddT : Option Addr} {k0 k1 k2 k3 k5 t0 t1 t2 t3 t5 : Option Value} {newId newIdT : String}
end
end DL
end
section
namespace DL
open PySem PySem.Spec PyProof.Rows L2 PySem.W PySem.Calls
section
variable {X : Cx} {pins : List (Addr × Obj)} {σ : L2.St} {H H' : Hp} {s s' : Shared} {M : Model} {A : Around} {E : Value → Shared → Prop}
end
end DL
end
section
namespace DL
open PySem PySem.Spec PyProof.Rows L2 PySem.W PySem.Calls
noncomputable def XO (K : PySem.W.Frag) (C : Addr) (bm : List Value) : Prop := ∃ N nm q bs hdct sn sub ab col dd k0 k1 k2 k3 k5 newId,K.lookup C = some (excClassObj nm q C N bs bm hdct sn sub ab col dd k0 k1 k2 k3 k5 newId)
noncomputable abbrev _root_.L2.Cx.held (X : Cx) (v : Value) : Cx := { X with A := X.A.mark (some v),calm := false,xe := fun _ _ => False }
section
variable {X : Cx} {pins : List (Addr × Obj)} {σ : L2.St} {H H' : Hp} {s s' : Shared} {a C : Addr} {od : Option Addr}
theorem Inv.held (I : Inv X pins σ H s) (v : Value) : Inv (X.held v) pins σ H s :=
  ⟨⟨I.ok.mod,I.ok.kind,I.ok.glob,I.ok.blt,I.ok.above,I.ok.inj,I.ok.has,I.ok.cab,(fun h => nomatch h),I.ok.frames,I.ok.stk,I.ok.exf,I.ok.bs,I.ok.bsz,I.ok.noex,I.ok.exfs,I.ok.funs,I.ok.frf⟩,I.os,I.bare,I.base,I.loc,I.cell,I.free,I.freeC,I.pin,I.hok,I.len⟩
end
end DL
end
section
namespace DL
open PySem PySem.Spec PyProof.Rows L2 PySem.W PySem.Calls
section
variable {X : Cx} {pins : List (Addr × Obj)} {σ : L2.St} {H H' : Hp} {s s' : Shared} {a C T : Addr} {od : Option Addr}
end
end DL
end
section
namespace DL
open PySem PySem.Spec PyProof.Rows L2 PySem.W PySem.Calls
noncomputable abbrev _root_.L2.Cx.tr (X : Cx) (ps : List (Addr × Obj)) (E : Value→Shared→Prop) : Cx := { X with pn := ps,xe := E }
section
variable {X : Cx} {pins pins' : List (Addr × Obj)} {σ : L2.St} {H : Hp} {s : Shared} {E : Value → Shared → Prop}
theorem Inv.tr (I : Inv X pins σ H s) (E : Value→Shared→Prop) : Inv (X.tr (X.pn++pins) E) [] σ H s :=
  ⟨⟨I.ok.mod,I.ok.kind,I.ok.glob,I.ok.blt,I.ok.above,I.ok.inj,I.ok.has,I.ok.cab,I.ok.hd,I.ok.frames,I.ok.stk,I.ok.exf,I.ok.bs,I.ok.bsz,I.ok.noex,I.ok.exfs,I.ok.funs,I.ok.frf⟩,I.os,I.bare,I.base,I.loc,I.cell,I.free,I.freeC,fun p hp => I.pin p (by rw [List.append_nil] at hp; exact hp),I.hok,I.len⟩
theorem Inv.untr (I : Inv (X.tr (X.pn++pins) E) pins' σ H s) : Inv X pins σ H s :=
  ⟨⟨I.ok.mod,I.ok.kind,I.ok.glob,I.ok.blt,I.ok.above,I.ok.inj,I.ok.has,I.ok.cab,I.ok.hd,I.ok.frames,I.ok.stk,I.ok.exf,I.ok.bs,I.ok.bsz,I.ok.noex,I.ok.exfs,I.ok.funs,I.ok.frf⟩,I.os,I.bare,I.base,I.loc,I.cell,I.free,I.freeC,fun p hp => I.pin p (List.mem_append_left _ hp),I.hok,I.len⟩
theorem SP.untr {D : Ends} {f : Flow} (h : SP (X.tr (X.pn++pins) E) [] D f s) : SP X pins D f s := by
  cases f with
  | next => obtain ⟨σ',H',I,q⟩ := h; exact ⟨σ',H',Inv.untr I,q⟩
  | brk => obtain ⟨σ',H',I,q⟩ := h; exact ⟨σ',H',Inv.untr I,q⟩
  | cont => obtain ⟨σ',H',I,q⟩ := h; exact ⟨σ',H',Inv.untr I,q⟩
  | ret u => obtain ⟨v,σ',H',I,r,q⟩ := h; exact ⟨v,σ',H',Inv.untr I,r,q⟩
end
section
variable {X : Cx} {g : GE} {ro : Bool} {m m1 mb : List Md} {T : Addr} {fb fh : FS}
end
end DL
end
section
namespace DL
open PySem PySem.Spec PyProof.Rows L2 PySem.W PySem.Calls
section
variable {prog : Program} {w : World} {A : Around} {E : Value → Shared → Prop} {s : Shared} {nm q : Str} {C N a : Addr} {bs bm : List Value} {hdct : Bool} {sn : List Str} {sub : List Value} {ab : Bool} {col : Option Bool} {dd : Option Addr} {k0 k1 k2 k3 k5 : Option Value} {newId : String} {oe : Obj}
end
end DL
end
section
namespace DL
open PySem PySem.Spec PyProof.Rows L2 PySem.W PySem.Calls
end DL
end
section
namespace DL
open PySem PySem.Spec PyProof.Rows L2 PySem.W PySem.Calls
section
variable {prog : Program} {w : World} {A : Around} {E : Value → Shared → Prop} {s : Shared} {nm q : Str} {C N a : Addr} {bs bm : List Value} {hdct : Bool} {sn : List Str} {sub : List Value} {ab : Bool} {col : Option Bool} {dd : Option Addr} {k0 k1 k2 k3 k5 : Option Value} {newId : String} {oe : Obj}
end
end DL
end
section
namespace DL
open PySem PySem.Spec PyProof.Rows L2 PySem.W PySem.Calls
structure XA (K : PySem.W.Frag) (C : Addr) (bm : List Value) : Prop where
  ob : XO K C bm
  be : bm.contains (Value.type "BaseException") = true
  bo : bm.contains (Value.type "object") = true
  ga : findIn K (.ref C) "__getattribute__" = some (some (.builtin "BaseException.__getattribute__"))
  gn : findIn K (.ref C) "__getattr__" = some none
  gc : findIn K (.ref C) "__class__" = some (some (.builtin "object.__class__"))
  gg : specialIn K (.builtin "object.__class__") "__get__" = some (some (.builtin "getset_descriptor.__get__"))
  gt : takesIn K (.builtin "object.__class__") = some true
end DL
end
section
namespace DL
open PySem PySem.Spec PyProof.Rows L2 PySem.W PySem.Calls
structure IsxOk (K : PySem.W.Frag) (c : Value) (tab : Str→Option Bool) : Prop where
  no : kitOne K (.type "NoneType") c = some false
  ex : ∀ nm b C,tab nm = some b→XN K nm C→∃ bm,XA K C bm∧kitOne K (.ref C) c = some b
section
variable {X : Cx} {g : GE} {m : List Md} {e : Expr} {f : FE} {pos p p2 : Pos}
theorem RB.exc {K : PySem.W.Frag} {G : GH} {H : Hp} {v : V} {k : Str} {nm : Str} {ds : List (Str × D)} (gk : GOk K G H) (h : RB K G H v (.obj 0 ((k,.str nm)::ds))) : ∃ a C od,v = .ref a∧H a = some (.ext (XcO a C od))∧XN K nm C := by
  rcases h with h | ⟨a,rfl,h⟩
  · cases h with
    | scl s => cases s
    | ref e =>
      cases gk _ _ e with
      | exc r n f => exact ⟨_,_,_,rfl,r,n⟩
    | kc k => cases k
  · cases h.ob
end
end DL
end
section
namespace DL
open PySem PySem.Spec PyProof.Rows L2 PySem.W PySem.Calls
section
variable {X : Cx} {g : GE} {m : List Md} {e : Expr} {es : List Expr} {fl : Rho → Res (List D)} {k : Nat} {ps : List Str} {F : List D → Res D} {x : Str} {p pos : Pos} {ms : List Md}
end
theorem XN.uniq {K : PySem.W.Frag} {nm : Str} {C c : Addr} (h : XN K nm C) (k : (K.all fun e => match e.2.data with | .cls cd => cd.name != nm || e.1 == c | _ => true) = true) : C = c := by
  obtain ⟨o,cd,h1,h2,h3⟩ := h
  have hm : (C,o)∈(K : List (Addr × Obj)) := by
    have key : ∀ l : List (Addr × Obj),l.lookup C = some o→(C,o)∈l := by
      intro l
      induction l with
      | nil => intro h; cases h
      | cons q l ih =>
        intro h
        rw [List.lookup] at h
        split at h
        · rename_i hb
          have := eq_of_beq hb
          cases h
          rw [this]; exact List.mem_cons_self
        · exact List.mem_cons_of_mem _ (ih h)
    exact key K h1
  have := List.all_eq_true.mp k _ hm
  simp only [h2] at this
  rw [h3] at this
  simpa using this
end DL
end
section
namespace DL
open PySem PySem.Spec PyProof.Rows L2 PySem.W PySem.Calls
noncomputable def unIn (K : PySem.W.Frag) (nm : Str) (c : Addr) : Bool := K.all fun e => match e.2.data with
  | .cls cd => cd.name != nm || e.1 == c
  | _ => true
structure CF (K : PySem.W.Frag) (nm : Str) (c : Addr) (bm : List Value) : Prop where
  xa : XA K c bm
  xn : XN K nm c
  un : unIn K nm c = true
theorem CF.eq {K : PySem.W.Frag} {nm : Str} {c C : Addr} {bm : List Value} (f : CF K nm c bm) (h : XN K nm C) : C = c := XN.uniq h f.un
end DL
end
section
namespace DL
open PySem PySem.Spec PyProof.Rows L2 PySem.W PySem.Calls PySem.Builtin PySem.Builtin.Str
theorem zig (sep : Str) : ∀ ps : List Str,ps.length * sep.length≤(Str.join sep ps).length + sep.length
  | [] => by simp
  | [x] => by simp only [List.length_singleton,Nat.one_mul]; omega
  | x::y::r => by
    have ih := zig sep (y::r)
    have e : (Str.join sep (x::y::r)).length = x.length + sep.length + (Str.join sep (y::r)).length := by
      show (x++sep++Str.join sep (y::r)).length = _
      rw [strLen_append,strLen_append]
    rw [e,List.length_cons,Nat.succ_mul]
    omega
theorem zje (x y : Str) (limit : Nat) (hy : 0 < y.length) : (partsBetween x (occurrences x y 0 x.length limit) y.length).length≤x.length + 1 := by
  have h := zig y (partsBetween x (occurrences x y 0 x.length limit) y.length)
  rw [← StrLaws.glued_eq_join,StrLaws.glued_between_self] at h
  generalize (partsBetween x (occurrences x y 0 x.length limit) y.length).length = k at h
  cases k with
  | zero => omega
  | succ k =>
    rw [Nat.succ_mul] at h
    have : k * 1≤k * y.length := Nat.mul_le_mul_left k hy
    omega
section
variable {prog : Program} {w : World} {A : Around} {E : Value → Shared → Prop} {s : Shared} {x y : Str} {t u : Tok} {Q : Value → Shared → Prop}
theorem zht (hy : (y.length == 0) = false) (hx : x.length≤sizeLine) (hn : (partsBetween x (occurrences x y 0 x.length (x.length + 1)) y.length).length≤sizeLine)
    (q : ∀ l k,l.map (·.1) = Txt.split x y→Q (.ref s.heap.objs.size) { s with heap := s.heap.push { cls := .type "list",data := .seq (strValues l).toArray },toks := k }) :
    wpAny (model prog w) A (call (.builtin "str.split") [.str x t,.str y u]) Q E s := by
  have T : s.TypeIs (.str x t) "str" := typeIs_str _ _ _
  cases c : (decide (x.length < y.length) || decide (strKind x < strKind y)) with
  | true => exact call_meets F.slot_str_split T F.entry_str_split (F.args_str_split_2 _ _) (meets_str_split_cannot_occur x y t u c) (q [(x,t)] s.toks (if_pos c).symm)
  | false =>
    have c' := ne_true_of_eq_false c
    cases f : (occurrences x y 0 x.length (x.length + 1)).isEmpty with
    | true => exact call_meets F.slot_str_split T F.entry_str_split (F.args_str_split_2 _ _) (meets_str_split_not_found x y t u c hy f) (q [(x,t)] s.toks ((if_neg c').trans (if_pos f)).symm)
    | false =>
      refine call_meets F.slot_str_split T F.entry_str_split (F.args_str_split_2 _ _) (meets_str_split_sep x y t u c hy f hx hn) ?_
      have := q (numbered s.toks (partsBetween x (occurrences x y 0 x.length (x.length + 1)) y.length)) (s.toks + (partsBetween x (occurrences x y 0 x.length (x.length + 1)) y.length).length) ((numbered_texts _ _).trans ((if_neg c').trans (if_neg (ne_true_of_eq_false f))).symm)
      rw [← strsFrom_eq] at this
      exact this
end
theorem zhp {its : List Value} : ∀ {xs : List Str},Vals (xs.map V.str) its→∃ l : List (Str × Tok),strValues l = its∧l.map (·.1) = xs := by
  induction its with
  | nil =>
    intro xs h
    cases xs with
    | nil => exact ⟨[],rfl,rfl⟩
    | cons _ _ => cases h
  | cons v its ih =>
    intro xs h
    cases xs with
    | nil => cases h
    | cons x xs =>
      cases h with
      | cons r t =>
        obtain ⟨k,rfl⟩ := (show ∃ k,v = Value.str x k from r)
        obtain ⟨l,e1,e2⟩ := ih t
        exact ⟨(x,k)::l,by rw [← e1]; rfl,by rw [List.map_cons,e2]⟩
theorem zfh : ∀ l : List (Str × Tok),Vals ((l.map (·.1)).map V.str) (strValues l)
  | [] => .nil
  | (x,t)::l => .cons ⟨t,rfl⟩ (zfh l)
noncomputable def zdK : List D→Option (List Str)
  | [] => some []
  | .str x::ds => (zdK ds).map (x::·)
  | _::_ => none
theorem zkr {K : PySem.W.Frag} {G : GH} {H : Hp} (gk : GOk K G H) {xs : List V} {ds : List D} (r : RGs K G xs ds) : ∀ {zs : List Str},zdK ds = some zs→xs = zs.map V.str := by
  induction r with
  | nil => intro zs h; cases h; rfl
  | @cons v d xs ds r _ ih =>
    intro zs h
    cases d with
    | str x =>
      have h : (zdK ds).map (x::·) = some zs := h
      cases e : zdK ds with
      | none => rw [e] at h; cases h
      | some ys =>
        rw [e] at h
        cases h
        rw [r.str gk,ih e]; rfl
    | _ => cases h
theorem zhI {K : PySem.W.Frag} {G : GH} : ∀ xs : List Str,RGs K G (xs.map V.str) (xs.map D.str)
  | [] => .nil
  | x::xs => .cons (.scl (.str x)) (zhI xs)
noncomputable def zma : V→List V→Hp→VK→Prop := fun x vs H Q => ∃ a b,x = .str a∧vs = [.str b]∧Q (.bl (Txt.endswith a b)) H
noncomputable def zl8 : V→List V→Hp→VK→Prop := fun x vs H Q => ∃ a b i r,x = .str a∧vs = [.str b]∧occurrences a b 0 a.length 1 = i::r∧Q (.int (i : Nat)) H
noncomputable def zl9 (K : PySem.W.Frag) : V→List V→Hp→VK→Prop := fun x vs H Q => ∃ a p xs,x = .str a∧vs = [.ref p]∧SqL K H p (xs.map V.str)∧JoinOk a xs = true∧Q (.str (Txt.join a xs)) H
noncomputable def zjY : V→List V→Hp→VK→Prop := fun x vs H Q => ∃ a b,x = .str a∧vs = [.str b]∧0 < b.length∧a.length≤10000∧∀ p,H p = none→Q (.ref p) (upd H p (.lst ((Txt.split a b).map V.str)))
noncomputable def zge : D→List D→Option D
  | .str a,[.str b] => some (.bl (Txt.endswith a b))
  | _,_ => none
noncomputable def zgW : D→List D→Option D
  | .str a,[.str b] => match occurrences a b 0 a.length 1 with
    | i::_ => some (.int (i : Nat))
    | [] => none
  | _,_ => none
noncomputable def zf8 : D→List D→Option D
  | .str a,[.lst ds] => match zdK ds with
    | some xs => if JoinOk a xs = true then some (.str (Txt.join a xs)) else none
    | none => none
  | _,_ => none
noncomputable def zd5 : D→List D→Option D
  | .str a,[.str b] => if 0 < b.length∧a.length≤10000 then some (.lst ((Txt.split a b).map D.str)) else none
  | _,_ => none
section
variable {X : Cx}
theorem zk3 : MtR X "str.endswith" zma := by
  intro pins s σ H x vs v us Q I rx rv ⟨a,b,e1,e2,q⟩
  subst e1 e2
  obtain ⟨t,rfl⟩ := (show ∃ t,v = Value.str a t from rx)
  obtain ⟨u,rfl,ru⟩ := zev rv
  obtain ⟨t',rfl⟩ := (show ∃ t,u = Value.str b t from ru)
  exact SC.endswith ⟨.bl _,H,I,rfl,q⟩
theorem zh1 : MtR X "str.index" zl8 := by
  intro pins s σ H x vs v us Q I rx rv ⟨a,b,i,r,e1,e2,ho,q⟩
  subst e1 e2
  obtain ⟨t,rfl⟩ := (show ∃ t,v = Value.str a t from rx)
  obtain ⟨u,rfl,ru⟩ := zev rv
  obtain ⟨t',rfl⟩ := (show ∃ t,u = Value.str b t from ru)
  exact SC.index ho ⟨.int _,H,I.tok _,⟨_,rfl⟩,q⟩
theorem ze0 : MtR X "str.join" (zl9 X.K) := by
  intro pins s σ H x vs v us Q I rx rv ⟨a,p,xs,e1,e2,sq,ok,q⟩
  subst e1 e2
  obtain ⟨t,rfl⟩ := (show ∃ t,v = Value.str a t from rx)
  obtain ⟨u,rfl,ru⟩ := zev rv
  cases (show u = Value.ref p from ru)
  obtain ⟨its,r,pl,_⟩ := I.list sq
  obtain ⟨l,rfl,el⟩ := zhp r
  exact SC.join pl.isList el ok fun t' k => ⟨.str _,H,I.tok _,⟨_,rfl⟩,q⟩
theorem zgA : MtR X "str.split" zjY := by
  intro pins s σ H x vs v us Q I rx rv ⟨a,b,e1,e2,hb,ha,q⟩
  subst e1 e2
  obtain ⟨t,rfl⟩ := (show ∃ t,v = Value.str a t from rx)
  obtain ⟨u,rfl,ru⟩ := zev rv
  obtain ⟨t',rfl⟩ := (show ∃ t,u = Value.str b t from ru)
  have hp := zje a b (a.length + 1) hb
  refine zht (by rw [beq_eq_false_iff_ne]; omega) (by rw [sizeLine_eq]; omega) (by rw [sizeLine_eq]; omega) fun l k el => ?_
  have hl : ((Txt.split a b).map V.str).length≤sizeLine := by
    rw [List.length_map,sizeLine_eq]
    unfold Txt.split
    split
    · exact (by decide : 1≤16777216)
    · split
      · exact (by decide : 1≤16777216)
      · omega
  refine ⟨.ref s.heap.objs.size,_,I.laid (t' := k) (fun b o e => Heap.get?_push_of_some _ e) (Nat.le_refl _) (show zaW X.prog X.w _ _ _ (.lst ((Txt.split a b).map V.str)) from ⟨hl,strValues l,0,?_,?_⟩),rfl,q _ (I.hok.fresh (Nat.le_refl _))⟩
  · rw [← el]; exact zfh l
  · exact Heap.get?_push_size _ rfl
end
theorem zli {K : PySem.W.Frag} : MtD K zma zge := by
  intro G H v d vs ds d' Q gk rv rs e q
  unfold zge at e
  split at e
  · cases e
    cases rs with
    | cons r1 rt => cases rt; exact ⟨_,_,rv.str gk,by rw [r1.str gk],q _ G H (Grow.refl gk) (.scl (.bl _))⟩
  · cases e
theorem zhx {K : PySem.W.Frag} : MtD K zl8 zgW := by
  intro G H v d vs ds d' Q gk rv rs e q
  unfold zgW at e
  split at e
  · split at e
    · rename_i ho
      cases e
      cases rs with
      | cons r1 rt => cases rt; exact ⟨_,_,_,_,rv.str gk,by rw [r1.str gk],ho,q _ G H (Grow.refl gk) (.scl (.int _))⟩
    · cases e
  · cases e
theorem ze4 {K : PySem.W.Frag} : MtD K (zl9 K) zf8 := by
  intro G H v d vs ds d' Q gk rv rs e q
  unfold zf8 at e
  split at e
  · split at e
    · rename_i xs hx
      split at e
      · rename_i hj
        cases e
        cases rs with
        | cons r1 rt =>
          cases rt
          obtain ⟨p,ys,rfl,sq,ry⟩ := r1.lst gk
          have := zkr gk ry hx
          subst this
          exact ⟨_,p,xs,rv.str gk,rfl,sq,hj,q _ G H (Grow.refl gk) (.scl (.str _))⟩
      · cases e
    · cases e
  · cases e
theorem zgq {K : PySem.W.Frag} : MtD K zjY zd5 := by
  intro G H v d vs ds d' Q gk rv rs e q
  unfold zd5 at e
  split at e
  · split at e
    · rename_i h
      cases e
      cases rs with
      | cons r1 rt =>
        cases rt
        refine ⟨_,_,rv.str gk,by rw [r1.str gk],h.1,h.2,fun p hp => ?_⟩
        exact q _ _ _ (Grow.newF gk hp (OB.lst (.inl zar) (zhI _))) (.ref zan)
    · cases e
  · cases e
section
variable {X : Cx} {g : GE} {m : List Md} {a b : Expr} {fa fb : FE} {pos : Pos}
noncomputable def zks (x : Str) (n : Int) : Str := if n < 1 then Str.empty else if (n == 1 || x.length == 0) = true then x else ⟨(List.replicate n.toNat x.cps).foldl (·++·) #[]⟩
noncomputable def zhv : D→D→Option D
  | .str x,.int n => if x.length≤100∧0≤n∧n≤100 then some (.str (zks x n)) else none
  | _,_ => none
theorem zgw (c : Array Nat) : ∀ (k : Nat) (acc : Array Nat),((List.replicate k c).foldl (·++·) acc).size = acc.size + k * c.size
  | 0,acc => by simp
  | k + 1,acc => by rw [List.replicate_succ,List.foldl_cons,zgw c k,Array.size_append,Nat.succ_mul]; omega
theorem zkP : OpR X (binaryOp .Mult) (fun a b H Q => ∃ (x : Str) (n : Int),a = .str x∧b = .int n∧x.length≤100∧0≤n∧n≤100∧Q (.str (zks x n)) H) := by
  intro pins s σ H x y v u Q I rx ry ⟨x',n,ex,en,h1,h2,h3,q⟩
  subst ex en
  obtain ⟨t,rfl⟩ := (show ∃ t,v = Value.str x' t from rx)
  obtain ⟨t',rfl⟩ := (show ∃ t,u = Value.int n t from ry)
  have hm : x'.length * n.toNat≤100 * 100 := Nat.mul_le_mul h1 (by omega)
  refine P.mul_str (by rw [decide_eq_false (by omega),decide_eq_false (by omega)]; rfl) (fun z _ => ?_) (fun _ _ => ?_) ?_
  · have hn0 : (0 : Int) < n := by omega
    have hmi : (x'.length : Int) * n≤100 * 100 := by
      have : ((x'.length * n.toNat : Nat) : Int) = (x'.length : Int) * n := by rw [Int.natCast_mul,Int.toNat_of_nonneg h2]
      omega
    have := (Int.le_ediv_iff_mul_le (a := (x'.length : Int)) (b := 2 ^ 63 - 1) hn0).mpr (by omega)
    omega
  · unfold tooLong
    rw [decide_eq_false (by rw [sizeLine_eq]; omega)]
  · unfold zks at q
    by_cases c1 : n < 1
    · rw [if_pos c1] at q ⊢
      exact ⟨by decide,.str _,H,I.tok _,⟨_,rfl⟩,q⟩
    · rw [if_neg c1] at q ⊢
      by_cases c2 : (n == 1 || x'.length == 0) = true
      · rw [if_pos c2] at q ⊢
        exact ⟨.str _,H,I,⟨_,rfl⟩,q⟩
      · rw [if_neg c2] at q ⊢
        refine ⟨?_,.str _,H,I.tok _,⟨_,rfl⟩,q⟩
        show ((List.replicate n.toNat x'.cps).foldl (·++·) #[]).size≤sizeLine
        rw [zgw,sizeLine_eq]
        have : n.toNat * x'.cps.size = x'.length * n.toNat := Nat.mul_comm _ _
        simp only [Array.size_empty]
        omega
theorem zlS (ha : SB X g m a fa) (hb : SB X g m b fb) : SE X g m (.BinOp a .Mult b pos) (f2 fa fb zhv) := by
  refine zf1 zkP (fun G H v1 v2 d1 d2 d Q gk r1 r2 e q => ?_) ha hb
  unfold zhv at e
  split at e
  · split at e
    · rename_i x n h
      cases e
      exact ⟨x,n,r1.str gk,r2.int gk,h.1,h.2.1,h.2.2,q _ G H (Grow.refl gk) (.scl (.str _))⟩
    · cases e
  · cases e
end
noncomputable def slX (d : D) (lo hi : Option Int) : Option D := match d with
  | .str a => if a.length≤10000 then some (.str (Txt.slice a lo hi)) else none
  | _ => none
noncomputable def fSlX (fa : FE) (fl fh : FP) : FE := fun r => (fa r).bind fun d => (fl r).bind fun lo => (fh r).bind fun hi => opt (slX d lo hi)
section
variable {X : Cx} {g : GE} {m : List Md} {e : Expr} {f fa : FE} {pos p2 : Pos}
theorem zlM : SlR X (fun x lo hi H Q => ∃ a,x = .str a∧a.length≤10000∧Q (.str (Txt.slice a lo hi)) H) := by
  intro pins s σ H x v vl vu lo hi sl Q I rx hs pl pu ⟨a,ex,ha,q⟩
  subst ex
  obtain ⟨t,rfl⟩ := (show ∃ t,v = Value.str a t from rx)
  refine ⟨"str",_,F.slot_str_getitem.lookup,typeIs_str _ _ _,?_⟩
  have hl : ∀ l u,(Txt.slice a l u).length≤sizeLine := fun l u => Nat.le_trans (Txt.slice_le a l u) (by rw [sizeLine_eq]; omega)
  cases pl with
  | none =>
    cases pu with
    | none => exact wpAny_getItem_str_slice (l := none) (u := none) (st := none) hs rfl (post_val_or_str ⟨hl none none,fun t' k => ⟨.str _,H,I.tok _,⟨_,rfl⟩,q⟩⟩)
    | int j tj => exact wpAny_getItem_str_slice (l := none) (u := some (j,tj)) (st := none) hs rfl (post_val_or_str ⟨hl none (some j),fun t' k => ⟨.str _,H,I.tok _,⟨_,rfl⟩,q⟩⟩)
  | int i ti =>
    cases pu with
    | none => exact wpAny_getItem_str_slice (l := some (i,ti)) (u := none) (st := none) hs rfl (post_val_or_str ⟨hl (some i) none,fun t' k => ⟨.str _,H,I.tok _,⟨_,rfl⟩,q⟩⟩)
    | int j tj => exact wpAny_getItem_str_slice (l := some (i,ti)) (u := some (j,tj)) (st := none) hs rfl (post_val_or_str ⟨hl (some i) (some j),fun t' k => ⟨.str _,H,I.tok _,⟨_,rfl⟩,q⟩⟩)
theorem znH {lo hi : Option Expr} {fl fh : FP} (he : SB X g m e f) (hl : SP1 X g m lo fl) (hu : SP1 X g m hi fh) : SE X g m (.Subscript e (.Slice lo hi none p2) pos) (fSlX f fl fh) := by
  refine PE.imp (zja zlM he hl hu) fun σ H Q ⟨r,G,si,q⟩ => ⟨r,G,si,zae (zad q) fun d h1 v G1 H1 w1 r1 => ⟨r,G1,si.grow w1,zaz (zad h1) w1 fun lo h2 G2 H2 w2 => ⟨r,G2,(si.grow w1).grow w2,?_⟩⟩⟩
  refine zaz (zad h2) (w1.trans w2) fun hi h3 G3 H3 w3 => ?_
  obtain ⟨d',e,h4⟩ := zat h3
  have r3 := (r1.mono w2).mono w3
  unfold slX at e
  split at e
  · split at e
    · cases e
      exact ⟨_,r3.str w3.ok,by assumption,h4 _ G3 H3 ((w1.trans w2).trans w3) (.scl (.str _))⟩
    · cases e
  · cases e
end
noncomputable def istD : D→D→Option D
  | .bl c,.bl d => some (.bl (c == d))
  | .non,.bl _ => some (.bl false)
  | .int _,.bl _ => some (.bl false)
  | _,_ => none
noncomputable def rIst : R2 := fun x y H Q => ∃ d,y = .bl d∧((∃ c,x = .bl c∧Q (.bl (c == d)) H)∨((x = .non∨∃ i,x = .int i)∧Q (.bl false) H))
theorem zmD {X : Cx} : OpR X (compareOp .Is) rIst := by
  intro pins s σ H x y v u Q I rx ry ⟨d,ey,h⟩
  subst ey
  cases ry
  rcases h with ⟨c,ex,q⟩ | ⟨ex | ⟨i,ex⟩,q⟩
  · subst ex; cases rx; exact is_bool ⟨.bl _,H,I,rfl,q⟩
  · subst ex; cases rx; exact wpAny_is_other rfl (by intro z; cases z) ⟨.bl false,H,I,rfl,q⟩
  · subst ex
    obtain ⟨t,rfl⟩ := (show ∃ t,v = Value.int i t from rx)
    exact wpAny_is_other rfl (by intro z; cases z) ⟨.bl false,H,I,rfl,q⟩
theorem zk9 {K : PySem.W.Frag} : OpD K rIst istD := by
  intro G H v1 v2 d1 d2 d Q gk r1 r2 e q
  unfold istD at e
  split at e
  · cases e; exact ⟨_,r2.bl gk,.inl ⟨_,r1.bl gk,q _ G H (Grow.refl gk) (.scl (.bl _))⟩⟩
  · cases e; exact ⟨_,r2.bl gk,.inr ⟨.inl (r1.non gk),q _ G H (Grow.refl gk) (.scl (.bl _))⟩⟩
  · cases e; exact ⟨_,r2.bl gk,.inr ⟨.inr ⟨_,r1.int gk⟩,q _ G H (Grow.refl gk) (.scl (.bl _))⟩⟩
  · cases e
theorem znK {X : Cx} {g : GE} {m : List Md} {a b : Expr} {fa fb : FE} {pos : Pos} (ha : SB X g m a fa) (hb : SB X g m b fb) : SE X g m (.Compare a [.Is] [b] pos) (f2 fa fb istD) := zi0 zmD zk9 ha hb (zdJ _)
theorem zeV {X : Cx} {g : GE} {m : List Md} {pos : Pos} {x v : Str} (hg : Gl X x) (hk : ∃ t,X.mg x = some (.str v t)) (hd : (x == ("__debug__" : Str)) = false := by decide) : SE X g m (.Name x pos) fun _ => .ok (.str v) := by
  obtain ⟨t,hm⟩ := hk
  exact zjW (v := .str v) hg hm ⟨t,rfl⟩ (.str v) hd
theorem zoo {K : PySem.W.Frag} {h : Heap} {mg : Str→Option Value} {x : Str} (KX : K.In h) (G : h.Ns mainGlobals mg) {v : Str} {t : Tok} (z : PySem.W.nsIn K mainGlobals x = some (some (.str v t))) : ∃ t,mg x = some (.str v t) := ⟨t,PySem.W.mg_of KX G z⟩
end DL
end
section
namespace Rg
theorem ze3 {α : Type} [DecidableEq α] : ∀ {l m : List α},l.Nodup→(∀ x∈l,x∈m)→l.length≤m.length
  | [],_,_,_ => Nat.zero_le _
  | a::l,m,hn,hs => by
    have hn' := List.nodup_cons.mp hn
    have h1 := ze3 (l := l) (m := m.erase a) hn'.2 fun x hx => by
      have hxa : x≠a := by rintro rfl; exact hn'.1 hx
      exact (List.mem_erase_of_ne hxa).mpr (hs x (List.mem_cons_of_mem _ hx))
    have ha : a∈m := hs a List.mem_cons_self
    rw [List.length_erase_of_mem ha] at h1
    have := List.length_pos_of_mem ha
    simp only [List.length_cons]; omega
structure S where
  line : List Nat
  things : List Nat
section
variable (W : Nat → List Nat) (O : Nat → Option Nat)
noncomputable def best (row things : List Nat) : Nat := (row.find? fun x => decide (x∈things)).getD 0
noncomputable def tgt (s : S) (h : Nat) : Nat := best (W h) s.things
noncomputable def pt (s : S) (x : Nat) : Nat := (s.line.find? fun h => decide (O h = some x)).getD (s.line.headD 0)
noncomputable def nxt (s : S) (h : Nat) : Nat := pt O s (tgt W s h)
noncomputable def zn4 (s : S) (C : List Nat) : S := ⟨s.line.filter fun h => decide (h∉C),s.things.filter fun x => decide (x∉C.map (tgt W s))⟩
noncomputable def it {α : Type} (f : α→α) : Nat→α→α
  | 0,x => x
  | n + 1,x => it f n (f x)
structure Ok (s : S) : Prop where
  nl : s.line.Nodup
  nt : s.things.Nodup
  le : s.line.length≤s.things.length
  row : ∀ h∈s.line,∀ x∈s.things,x∈W h
  inj : ∀ h k x,O h = some x→O k = some x→h = k
  own : ∀ h∈s.line,∀ x,O h = some x→x∈s.things
structure Cyc (s : S) (C : List Nat) : Prop where
  sub : ∀ h∈C,h∈s.line
  cl : ∀ h∈C,nxt W O s h∈C
  per : ∀ h∈C,∃ k,it (nxt W O s) (k + 1) h = h
variable {W O}
variable {s : S}
theorem Cyc.it_mem {C : List Nat} (c : Cyc W O s C) {h : Nat} (hh : h∈C) : ∀ n,it (nxt W O s) n h∈C := by
  intro n
  induction n generalizing h with
  | zero => exact hh
  | succ n ih => exact ih (c.cl h hh)
theorem Cyc.out {C E : List Nat} (c : Cyc W O s C) (e : Cyc W O s E) {h : Nat} (hc : h∈C) (he : h∉E) : nxt W O s h∉E := by
  intro z
  obtain ⟨k,hk⟩ := c.per h hc
  exact he (by rw [← hk]; exact e.it_mem z k)
noncomputable def less (E C : List Nat) : List Nat := E.filter fun h => decide (h∉C)
inductive TTC (W : Nat→List Nat) (O : Nat→Option Nat) (a : Nat→Nat) : S→Prop where
  | nil {s : S} : s.line = []→TTC W O a s
  | step {s : S} (C : List Nat) : Cyc W O s C→(∀ h∈C,a h = tgt W s h)→TTC W O a (zn4 W s C)→TTC W O a s
end
end Rg
end
section
namespace Rg
section
variable {W : Nat → List Nat} {O : Nat → Option Nat} {s : S} {a : Nat → Nat}
end
end Rg
end
section
namespace Rg
section
variable {W W' : Nat → List Nat} {O : Nat → Option Nat} {s : S} {a b : Nat → Nat}
end
end Rg
end
section
namespace Law
open PySem PySem.Spec PyProof.Rows L2 DL
noncomputable abbrev gv (i : Nat) : DL.FE := fun r => DL.getV r i
noncomputable abbrev ci (i : Int) : DL.FE := fun _ => .ok (.int i)
noncomputable abbrev q0 : List DL.Md := [.bw,.bw]
noncomputable abbrev q101 : List DL.Md := [.bw,.bw,.sh,.sh]
noncomputable abbrev q102 : List DL.Md := [.bw,.bw,.ow,.sh,.sh]
noncomputable abbrev q103 : List DL.Md := [.sh,.sh,.sh,.sh,.sh,.sh,.sh]
noncomputable abbrev q104 : List DL.Md := [.sh,.bw,.bw,.ow,.sh,.sh]
noncomputable abbrev q105 : List DL.Md := [.sh,.sh]
noncomputable abbrev q106 : List DL.Md := [.bw,.sh,.sh,.sh,.sh]
noncomputable abbrev q107 : List DL.Md := [.bw,.sh,.sh,.sh]
noncomputable abbrev q108 : List DL.Md := [.sh,.sh,.sh,.sh]
noncomputable abbrev q109 : List DL.Md := [.bw,.sh]
noncomputable abbrev q110 : List DL.Md := [.sh,.bw,.ow,.sh]
noncomputable abbrev q111 : List DL.Md := [.bw,.bw,.bw,.bw]
noncomputable abbrev q112 : List DL.Md := [.sh,.sh,.ow,.sh,.sh,.ow,.sh]
noncomputable abbrev q113 : List DL.Md := [.sh,.sh,.ow,.sh,.sh,.sh,.sh]
noncomputable abbrev q114 : List DL.Md := [.bw,.bw,.sh,.sh,.sh]
theorem zed {α : Type} (us : List α) (h : us.length = 1) : ∃ a0,us = [a0] := by
  match us,h with
  | [_],_ => exact ⟨_,rfl⟩
theorem zec {α : Type} (us : List α) (h : us.length = 2) : ∃ a0 a1,us = [a0,a1] := by
  match us,h with
  | [_,_],_ => exact ⟨_,_,rfl⟩
theorem zmO {α : Type} (us : List α) (h : us.length = 3) : ∃ a0 a1 a2,us = [a0,a1,a2] := by
  match us,h with
  | [_,_,_],_ => exact ⟨_,_,_,rfl⟩
theorem zn6 {α : Type} (us : List α) (h : us.length = 4) : ∃ a0 a1 a2 a3,us = [a0,a1,a2,a3] := by
  match us,h with
  | [_,_,_,_],_ => exact ⟨_,_,_,_,rfl⟩
noncomputable def top (i : Nat) : Stmt := PySem.Challenge.pw_ringtrade_k04_texts_there_and_back.main.body.getD i (.Pass ⟨0,0,0,0⟩)
structure Txt (K : PySem.W.Frag) (mg : Str→Option Value) : Prop where
  b_len : mg "len" = none
  b_range : mg "range" = none
  b_tuple : mg "tuple" = none
  b_zip : mg "zip" = none
  b_isinstance : mg "isinstance" = none
  b_bool : mg "bool" = none
  b_any : mg "any" = none
  b_int : mg "int" = none
  b_enumerate : mg "enumerate" = none
  b_all : mg "all" = none
  b_str : mg "str" = none
  k_MOST_HANDS : ∃ t,mg "MOST_HANDS" = some (.int 7 t)
  k_MOST_THINGS : ∃ t,mg "MOST_THINGS" = some (.int 8 t)
  k_LETTERS : ∃ t,mg "LETTERS" = some (.str "ABCDEFGH" t)
noncomputable abbrev zdE : Stmt := top 31
noncomputable abbrev zet : List Str := ["_law_script","_law_k","_law_cell_here","_law_stirred"]
noncomputable abbrev zb2 : List Str := ["_law_script","_law_k"]
theorem zbH : FnScope zet zb2 (zab zdE) := ⟨rfl,rfl,rfl,by decide +kernel,rfl,by decide +kernel,by decide +kernel⟩
noncomputable def zbC : FS :=
  (seqF (setF q101 2 (ci 0)) (seqF (ifF q101 (zaR (f2 (gv 1) (fC (zac (gv 0) lNil) lenD) ltI)) (seqF (setF q101 2 (f2 (f2 (gv 0) (gv 1) ixA) (f2 (ci 10) (ci 60) powI) modI)) zaj) zaj) (seqF (ifF q101 (fAnd (zaR (f2 (fC (zac (gv 0) lNil) lenD) (ci 0) gtI)) (zaR (f2 (f2 (f2 (gv 0) (ci 0) ixA) (ci 2) modI) (ci 0) eqD))) (seqF (retF q101 (gv 2)) zaj) zaj) (seqF (setF q101 3 (f2 (f2 (f2 (f2 (f2 (f2 (f2 (gv 2) (f2 (f2 (ci 7) (gv 1) mulI) (gv 1) mulI) addA) (f2 (ci 13) (gv 1) mulI) addA) (ci 5) addA) (ci 48271) mulI) (ci 2147483647) modI) (ci 69621) mulI) (ci 1000000007) modI)) (seqF (retF q101 (f2 (f2 (f2 (f2 (f2 (gv 3) (ci 1) addA) (ci 40692) mulI) (ci 2147483629) modI) (ci 39373) mulI) (ci 999999937) modI)) zaj)))))
noncomputable def zaQ : List D→Res D := fun ds => outR false (zbC (zal zet.length ds))
theorem zkc {P : Program} {w : World} {K : PySem.W.Frag} {mg : Str→Option Value} {base : Heap} (T : Txt K mg) (A : DefAt K mg "_law_cell" zdE) : Callee P w K mg base "_law_cell" zb2 [] 1 false q0 zaQ := by
  refine zaF (k := 0) (fs := zbC) (m' := q101) A zbH rfl (fun _ _ _ _ _ _ us hl => by obtain ⟨u0,u1,rfl⟩ := zec us hl; kernel_rfl) fun f cdv A outer s H g E hr => ?_
  have hu1 := zbe hr
  have hu64 := hr.units
  exact (zaa (zcB 2 zbH.nd (by rfl) (by first | exact Or.inl rfl | exact Or.inr rfl) zaB)
      (zaa (s_if (q_lt (vb_ 1) (SE.toB (zcM (by rfl) T.b_len (zap (vb_ 0) zaJ)))) (zaa (zcB 2 zbH.nd (by rfl) (by first | exact Or.inl rfl | exact Or.inr rfl) (zex (SE.toB (zey hu1 (vb_ 0) (vb_ 1))) (SE.toB (znI (SE.toB zaB) (SE.toB zaB)))))
      zag)
      zag)
      (zaa (s_if (SW.toQ (znO (q_gt (SE.toB (zcM (by rfl) T.b_len (zap (vb_ 0) zaJ))) (SE.toB zaB)) (zme (q_eq hu64 (SE.toB (zex (SE.toB (zey hu1 (vb_ 0) (SE.toB zaB))) (SE.toB zaB))) (SE.toB zaB))))) (zaa (zaV (v_ 2))
      zag)
      zag)
      (zaa (zcB 3 zbH.nd (by rfl) (by first | exact Or.inl rfl | exact Or.inr rfl) (zex (SE.toB (zfZ (SE.toB (zex (SE.toB (zfZ (SE.toB (zbN (SE.toB (zbN (SE.toB (zbN (vb_ 2) (SE.toB (zfZ (SE.toB (zfZ (SE.toB zaB) (vb_ 1))) (vb_ 1))))) (SE.toB (zfZ (SE.toB zaB) (vb_ 1))))) (SE.toB zaB))) (SE.toB zaB))) (SE.toB zaB))) (SE.toB zaB))) (SE.toB zaB)))
      (zaa (zaV (zex (SE.toB (zfZ (SE.toB (zex (SE.toB (zfZ (SE.toB (zbN (vb_ 3) (SE.toB zaB))) (SE.toB zaB))) (SE.toB zaB))) (SE.toB zaB))) (SE.toB zaB)))
      zag)))))
noncomputable abbrev zd4 : Stmt := top 32
noncomputable abbrev zeP : List Str := ["_law_cell_here","_law_m","_law_row_here","_law_thing"]
noncomputable abbrev zdy : List Str := ["_law_cell_here","_law_m"]
theorem zbX : FnScope zeP zdy (zab zd4) := ⟨rfl,rfl,rfl,by decide +kernel,rfl,by decide +kernel,by decide +kernel⟩
noncomputable abbrev zdN : FS :=
  (seqF (mutF "list" q110 2 (zac (f2 (gv 0) (f2 (gv 3) (ci 1) addA) modI) (zac (gv 3) lNil)) insD) (seqF (setF q110 0 (f2 (gv 0) (f2 (gv 3) (ci 1) addA) zfG)) zaj))
noncomputable def zcA : FS :=
  (seqF (setF [.sh,.bw,.sh,.sh] 2 (mkL lNil)) (seqF (zcC q110 (fRng rng1 (zac (gv 1) lNil)) (ftN 3) zdN) (seqF (retF q110 (fC (zac (gv 2) lNil) tupD)) zaj)))
noncomputable def zbU : List D→Res D := fun ds => outR false (zcA (zal zeP.length ds))
theorem zkY {P : Program} {w : World} {K : PySem.W.Frag} {mg : Str→Option Value} {base : Heap} (T : Txt K mg) (A : DefAt K mg "_law_row" zd4) : Callee P w K mg base "_law_row" zdy [] 1 false [.sh,.bw] zbU := by
  refine zaF (k := 0) (fs := zcA) (m' := q110) A zbX rfl (fun _ _ _ _ _ _ us hl => by obtain ⟨u0,u1,rfl⟩ := zec us hl; kernel_rfl) fun f cdv A outer s H g E hr => ?_
  have hu1 := zbe hr
  have hu64 := hr.units
  exact (zaa (zeH 2 zbX.nd (by rfl) (by first | exact Or.inl rfl | exact Or.inr rfl) (zji zek))
      (zaa (zf0 PassesOwn.never rfl (ze7 (by rfl) T.b_range (zap (vb_ 1) zaJ)) (zaA 3 zbX.nd (by rfl) (by first | exact Or.inl rfl | exact Or.inr rfl)) (zaa (zhA 2 rfl PySem.F.plainAttrs_list PySem.F.slot_list_insert PySem.F.type_list_insert zh2 zm1 (by rfl) (by first | exact Or.inl rfl | exact Or.inr (Or.inl rfl) | exact Or.inr (Or.inr rfl)) (zcK (zex (vb_ 0) (SE.toB (zbN (vb_ 3) (SE.toB zaB)))) (zcK (v_ 3) zek)))
      (zaa (zcB 0 zbX.nd (by rfl) (by first | exact Or.inl rfl | exact Or.inr rfl) (zhC (vb_ 0) (SE.toB (zbN (vb_ 3) (SE.toB zaB)))))
      zag)))
      (zaa (zaV (zdq (by rfl) T.b_tuple (zap (vb_ 2) zaJ)))
      zag)))
noncomputable abbrev zba : Stmt := top 33
noncomputable abbrev zbk : List Str := ["_law_script","_law_at","_law_n","_law_m"]
noncomputable abbrev zb1 : List Str := ["_law_script","_law_at","_law_n","_law_m"]
theorem zcF : FnScope zbk zb1 (zab zba) := ⟨rfl,rfl,rfl,by decide +kernel,rfl,by decide +kernel,by decide +kernel⟩
noncomputable def zbo : FS :=
  (seqF (retF q111 (fC (zac (zbi 1 [3,0,1] (fRng rng1 (zac (gv 2) lNil)) (ftN 0) (fun _ => Res.ok true) (zau (zac (zau (zac (gv 2) (zac (f2 (gv 3) (gv 0) addA) lNil)) [] zaQ) (zac (gv 1) lNil)) [] zbU)) lNil) tupD)) zaj)
noncomputable def zbm : List D→Res D := fun ds => outR false (zbo (zal zbk.length ds))
theorem ziT {P : Program} {w : World} {K : PySem.W.Frag} {mg : Str→Option Value} {base : Heap} (T : Txt K mg) (A : DefAt K mg "_law_wishes" zba) (c__law_cell : Callee P w K mg base "_law_cell" zb2 [] 1 false q0 zaQ) (c__law_row : Callee P w K mg base "_law_row" zdy [] 1 false [.sh,.bw] zbU) : Callee P w K mg base "_law_wishes" zb1 [] 2 false q111 zbm := by
  refine zaF (k := 1) (fs := zbo) (m' := q111) A zcF rfl (fun _ _ _ _ _ _ us hl => by obtain ⟨u0,u1,u2,u3,rfl⟩ := zn6 us hl; kernel_rfl) fun f cdv A outer s H g E hr => ?_
  have hu1 := zbe hr
  have hu64 := hr.units
  exact (zaa (zaV (zdq (by rfl) T.b_tuple (zap (SO.toB (zcH (X := (cxOf CX0 P w K mg base zbk "_law_wishes" (zab zba) f cdv A outer s H E).nox) (N' := ["_law_hand","_law_m","_law_script","_law_at"]) (nl := 1) (cap := [3,0,1]) zcF.nd rfl (zaG (osc := (zab zba)) (ON := zbk) rfl rfl (by decide +kernel)) (SIt.toC (ze7 (by rfl) T.b_range (zap (vb_ 2) zaJ))) (fun _ _ _ _ _ _ => (zaA 0 (show List.Nodup (["_law_hand","_law_m","_law_script","_law_at"] : List Str) by decide +kernel) (by rfl) (by first | exact Or.inl rfl | exact Or.inr rfl))) (zbP (by decide)) (fun _ _ _ _ _ _ => zcl) (fun _ _ _ _ _ _ => (zas (dds := []) c__law_row (hr.mono (by decide)) (m_sh (zas (dds := []) c__law_cell (hr.mono (by decide)) (m_bw (vb_ 2) (m_bw (SE.toB (zbN (vb_ 3) (vb_ 0))) zaN))) (m_bw (vb_ 1) zaN)))))) zaJ)))
      zag)
noncomputable abbrev zdD : Stmt := top 34
noncomputable abbrev zes : List Str := ["_law_cell_here","_law_n","_law_m","_law_owns_here","_law_hand","_law_thing"]
noncomputable abbrev zcW : List Str := ["_law_cell_here","_law_n","_law_m"]
theorem zbd : FnScope zes zcW (zab zdD) := ⟨rfl,rfl,rfl,by decide +kernel,rfl,by decide +kernel,by decide +kernel⟩
noncomputable abbrev zb5 : FS :=
  (seqF (setF q104 5 (f2 (gv 0) (f2 (gv 2) (ci 1) addA) modI)) (seqF (setF q104 0 (f2 (gv 0) (f2 (gv 2) (ci 1) addA) zfG)) (seqF (ifF q104 (fOr (zaR (f2 (gv 5) (gv 2) eqD)) (zaR (f2 (gv 5) (gv 3) inD))) (seqF (mutF "list" q104 3 (zac (fun _ => Res.ok D.non) lNil) appD) zaj) (seqF (mutF "list" q104 3 (zac (gv 5) lNil) appD) zaj)) zaj)))
noncomputable def zch : FS :=
  (seqF (setF [.sh,.bw,.bw,.sh,.sh,.sh] 3 (mkL lNil)) (seqF (zcC q104 (fRng rng1 (zac (gv 1) lNil)) (ftN 4) zb5) (seqF (retF q104 (fC (zac (gv 3) lNil) tupD)) zaj)))
noncomputable def zb8 : List D→Res D := fun ds => outR false (zch (zal zes.length ds))
theorem zkb {P : Program} {w : World} {K : PySem.W.Frag} {mg : Str→Option Value} {base : Heap} (T : Txt K mg) (A : DefAt K mg "_law_owns" zdD) : Callee P w K mg base "_law_owns" zcW [] 1 false [.sh,.bw,.bw] zb8 := by
  refine zaF (k := 0) (fs := zch) (m' := q104) A zbd rfl (fun _ _ _ _ _ _ us hl => by obtain ⟨u0,u1,u2,rfl⟩ := zmO us hl; kernel_rfl) fun f cdv A outer s H g E hr => ?_
  have hu1 := zbe hr
  have hu64 := hr.units
  exact (zaa (zeH 3 zbd.nd (by rfl) (by first | exact Or.inl rfl | exact Or.inr rfl) (zji zek))
      (zaa (zf0 PassesOwn.never rfl (ze7 (by rfl) T.b_range (zap (vb_ 1) zaJ)) (zaA 4 zbd.nd (by rfl) (by first | exact Or.inl rfl | exact Or.inr rfl)) (zaa (zcB 5 zbd.nd (by rfl) (by first | exact Or.inl rfl | exact Or.inr rfl) (zex (vb_ 0) (SE.toB (zbN (vb_ 2) (SE.toB zaB)))))
      (zaa (zcB 0 zbd.nd (by rfl) (by first | exact Or.inl rfl | exact Or.inr rfl) (zhC (vb_ 0) (SE.toB (zbN (vb_ 2) (SE.toB zaB)))))
      (zaa (s_if (SW.toQ (q_or (q_eq hu64 (vb_ 5) (vb_ 2)) (zfv (q_in hu1 (vb_ 5) (vb_ 3))))) (zaa (zhA 3 rfl PySem.F.plainAttrs_list PySem.F.slot_list_append PySem.F.type_list_append zcm zgN (by rfl) (by first | exact Or.inl rfl | exact Or.inr (Or.inl rfl) | exact Or.inr (Or.inr rfl)) (zcK zkw zek))
      zag)
      (zaa (zhA 3 rfl PySem.F.plainAttrs_list PySem.F.slot_list_append PySem.F.type_list_append zcm zgN (by rfl) (by first | exact Or.inl rfl | exact Or.inr (Or.inl rfl) | exact Or.inr (Or.inr rfl)) (zcK (v_ 5) zek))
      zag))
      zag))))
      (zaa (zaV (zdq (by rfl) T.b_tuple (zap (vb_ 3) zaJ)))
      zag)))
noncomputable abbrev zdz : Stmt := top 20
noncomputable abbrev zeo : List Str := ["thing","own","letter"]
noncomputable abbrev zcP : List Str := ["thing","own"]
theorem zdF : FnScope zeo zcP (zab zdz) := ⟨rfl,rfl,rfl,by decide +kernel,rfl,by decide +kernel,by decide +kernel⟩
noncomputable def zb9 : FS :=
  (seqF (setF [.bw,.bw,.sh] 2 (f2 (fun _ => Res.ok (D.str "ABCDEFGH")) (gv 0) ixA)) (seqF (retF [.bw,.bw,.sh] (fIf (zaR (f2 (gv 0) (gv 1) eqD)) (f2 (gv 2) (fun _ => Res.ok (D.str "*")) addA) (gv 2))) zaj))
noncomputable def zby : List D→Res D := fun ds => outR false (zb9 (zal zeo.length ds))
theorem zj3 {P : Program} {w : World} {K : PySem.W.Frag} {mg : Str→Option Value} {base : Heap} (T : Txt K mg) (A : DefAt K mg "word_text" zdz) : Callee P w K mg base "word_text" zcP [] 1 false q0 zby := by
  refine zaF (k := 0) (fs := zb9) (m' := [.bw,.bw,.sh]) A zdF rfl (fun _ _ _ _ _ _ us hl => by obtain ⟨u0,u1,rfl⟩ := zec us hl; kernel_rfl) fun f cdv A outer s H g E hr => ?_
  have hu1 := zbe hr
  have hu64 := hr.units
  exact (zaa (zcB 2 zdF.nd (by rfl) (by first | exact Or.inl rfl | exact Or.inr rfl) (zey hu1 (SE.toB (zeV (by rfl) T.k_LETTERS)) (vb_ 0)))
      (zaa (zaV (zlW (q_eq hu64 (vb_ 0) (vb_ 1)) (zbN (vb_ 2) (SE.toB zew)) (v_ 2)))
      zag))
noncomputable abbrev zbV : Stmt := top 21
noncomputable abbrev zcw : List Str := ["row","own"]
noncomputable abbrev zdw : List Str := ["row","own"]
theorem zd6 : FnScope zcw zdw (zab zbV) := ⟨rfl,rfl,rfl,by decide +kernel,rfl,by decide +kernel,by decide +kernel⟩
noncomputable def zcy : FS :=
  (seqF (retF q0 (fM "str" (fun _ => Res.ok (D.str " ")) (zac (zbi 1 [1] (fSeq za2 (gv 0)) (ftN 0) (fun _ => Res.ok true) (zau (zac (gv 0) (zac (gv 1) lNil)) [] zby)) lNil) zf8)) zaj)
noncomputable def zbT : List D→Res D := fun ds => outR false (zcy (zal zcw.length ds))
theorem zkV {P : Program} {w : World} {K : PySem.W.Frag} {mg : Str→Option Value} {base : Heap} (T : Txt K mg) (A : DefAt K mg "row_text" zbV) (c_word_text : Callee P w K mg base "word_text" zcP [] 1 false q0 zby) : Callee P w K mg base "row_text" zdw [] 2 false q0 zbT := by
  refine zaF (k := 1) (fs := zcy) (m' := q0) A zd6 rfl (fun _ _ _ _ _ _ us hl => by obtain ⟨u0,u1,rfl⟩ := zec us hl; kernel_rfl) fun f cdv A outer s H g E hr => ?_
  have hu1 := zbe hr
  have hu64 := hr.units
  exact (zaa (zaV (s_bm PySem.F.plainAttrs_str PySem.F.slot_str_join PySem.F.type_str_join ze0 ze4 (SE.toB zew) (zap (SO.toB (zcH (X := (cxOf CX0 P w K mg base zcw "row_text" (zab zbV) f cdv A outer s H E).nox) (N' := ["thing","own"]) (nl := 1) (cap := [1]) zd6.nd rfl (zaG (osc := (zab zbV)) (ON := zcw) rfl rfl (by decide +kernel)) (zco (vb_ 0)) (fun _ _ _ _ _ _ => (zaA 0 (show List.Nodup (["thing","own"] : List Str) by decide +kernel) (by rfl) (by first | exact Or.inl rfl | exact Or.inr rfl))) (zbP (by decide)) (fun _ _ _ _ _ _ => zcl) (fun _ _ _ _ _ _ => (zas (dds := []) c_word_text (hr.mono (by decide)) (m_bw (vb_ 0) (m_bw (vb_ 1) zaN)))))) zaJ)))
      zag)
noncomputable abbrev zbE : Stmt := top 22
noncomputable abbrev zb4 : List Str := ["wishes","owns"]
noncomputable abbrev zcS : List Str := ["wishes","owns"]
theorem zdG : FnScope zb4 zcS (zab zbE) := ⟨rfl,rfl,rfl,by decide +kernel,rfl,by decide +kernel,by decide +kernel⟩
noncomputable def zcc : FS :=
  (seqF (retF q105 (fM "str" (fun _ => Res.ok (D.str "; ")) (zac (zbi 2 [] (fZip (gv 0) (gv 1)) (ftT (zaE (ftN 0) (zaE (ftN 1) zc4))) (fun _ => Res.ok true) (zau (zac (gv 0) (zac (gv 1) lNil)) [] zbT)) lNil) zf8)) zaj)
noncomputable def zb7 : List D→Res D := fun ds => outR false (zcc (zal zb4.length ds))
theorem zj6 {P : Program} {w : World} {K : PySem.W.Frag} {mg : Str→Option Value} {base : Heap} (T : Txt K mg) (A : DefAt K mg "rows_text" zbE) (c_row_text : Callee P w K mg base "row_text" zdw [] 2 false q0 zbT) : Callee P w K mg base "rows_text" zcS [] 3 false q105 zb7 := by
  refine zaF (k := 2) (fs := zcc) (m' := q105) A zdG rfl (fun _ _ _ _ _ _ us hl => by obtain ⟨u0,u1,rfl⟩ := zec us hl; kernel_rfl) fun f cdv A outer s H g E hr => ?_
  have hu1 := zbe hr
  have hu64 := hr.units
  exact (zaa (zaV (s_bm PySem.F.plainAttrs_str PySem.F.slot_str_join PySem.F.type_str_join ze0 ze4 (SE.toB zew) (zap (SO.toB (zcH (X := (cxOf CX0 P w K mg base zb4 "rows_text" (zab zbE) f cdv A outer s H E).nox) (N' := ["row","own"]) (nl := 2) (cap := []) zdG.nd rfl (zaG (osc := (zab zbE)) (ON := zb4) rfl rfl (by decide +kernel)) (SIt.toC (zm5 (by rfl) T.b_zip (v_ 0) (v_ 1))) (fun _ _ _ _ _ _ => (zhe rfl (zcj (zaA 0 (show List.Nodup (["row","own"] : List Str) by decide +kernel) (by rfl) (by first | exact Or.inl rfl | exact Or.inr rfl)) (zcj (zaA 1 (show List.Nodup (["row","own"] : List Str) by decide +kernel) (by rfl) (by first | exact Or.inl rfl | exact Or.inr rfl)) zhf)))) (znd (zfE (zbP (by decide)) (zfE (zbP (by decide)) zjr))) (fun _ _ _ _ _ _ => zcl) (fun _ _ _ _ _ _ => (zas (dds := []) c_row_text (hr.mono (by decide)) (m_bw (vb_ 0) (m_bw (vb_ 1) zaN)))))) zaJ)))
      zag)
noncomputable abbrev zaX : Stmt := top 36
noncomputable abbrev za7 : List Str := ["_law_found","_law_wishes_here","_law_owns_here","_law_row_here"]
noncomputable abbrev zcV : List Str := ["_law_found","_law_wishes_here","_law_owns_here"]
theorem zbG : FnScope za7 zcV (zab zaX) := ⟨rfl,rfl,rfl,by decide +kernel,rfl,by decide +kernel,by decide +kernel⟩
noncomputable abbrev zde : FS :=
  (seqF (ifF q107 (fOr (fNot (fTru (f1 (gv 3) (isiD "tuple")))) (fTru (fC (zac (zbi 1 [] (fSeq za2 (gv 3)) (ftN 0) (fun _ => Res.ok true) (f1 (gv 0) (isiD "bool"))) lNil) anyD))) (seqF (retF q107 (fun _ => Res.ok (D.bl false))) zaj) zaj) zaj)
noncomputable def zcg : FS :=
  (seqF (ifF q107 (fOr (fNot (fTru (f1 (gv 0) (isiD "tuple")))) (fOr (zaR (f2 (fC (zac (gv 0) lNil) lenD) (ci 2) neD)) (zaR (f2 (gv 0) (mkT (zac (gv 1) (zac (gv 2) lNil))) neD)))) (seqF (retF q107 (fun _ => Res.ok (D.bl false))) zaj) zaj) (seqF (zcC q107 (fSeq za2 (f2 (gv 0) (ci 0) ixA)) (ftN 3) zde) (seqF (retF q107 (vAnd (f1 (f2 (gv 0) (ci 0) ixA) (isiD "tuple")) (vAnd (f1 (f2 (gv 0) (ci 1) ixA) (isiD "tuple")) (vNot (fC (zac (zbi 1 [] (fSeq za2 (f2 (gv 0) (ci 1) ixA)) (ftN 0) (fun _ => Res.ok true) (f2 (gv 0) (fun _ => Res.ok (D.bl true)) istD)) lNil) anyD))))) zaj)))
noncomputable def zbB : List D→Res D := fun ds => outR false (zcg (zal za7.length ds))
theorem zka {P : Program} {w : World} {K : PySem.W.Frag} {mg : Str→Option Value} {base : Heap} (T : Txt K mg) (A : DefAt K mg "_law_same" zaX) : Callee P w K mg base "_law_same" zcV [] 1 false [.bw,.sh,.sh] zbB := by
  refine zaF (k := 0) (fs := zcg) (m' := q107) A zbG rfl (fun _ _ _ _ _ _ us hl => by obtain ⟨u0,u1,u2,rfl⟩ := zmO us hl; kernel_rfl) fun f cdv A outer s H g E hr => ?_
  have hu1 := zbe hr
  have hu64 := hr.units
  exact (zaa (s_if (SW.toQ (q_or (zfw (zdP (SE.toB (zeU "tuple" "tuple" rfl (zc3 _) (by rfl) T.b_isinstance (by rfl) T.b_tuple (vb_ 0))))) (q_or (q_ne hu64 (SE.toB (zcM (by rfl) T.b_len (zap (vb_ 0) zaJ))) (SE.toB zaB)) (zfv (q_ne hu64 (vb_ 0) (SE.toB (zlR (zcK (v_ 1) (zcK (v_ 2) zek))))))))) (zaa (zaV s_bl)
      zag)
      zag)
      (zaa (zf0 PassesOwn.never rfl (zm6 (zey hu1 (vb_ 0) (SE.toB zaB))) (zaA 3 zbG.nd (by rfl) (by first | exact Or.inl rfl | exact Or.inr rfl)) (zaa (s_if (SW.toQ (q_or (zfw (zdP (SE.toB (zeU "tuple" "tuple" rfl (zc3 _) (by rfl) T.b_isinstance (by rfl) T.b_tuple (vb_ 3))))) (zfv (zdP (SE.toB (zl0 rfl (by rfl) T.b_any (zap (SO.toB (zcH (X := (cxOf CX0 P w K mg base za7 "_law_same" (zab zaX) f cdv A outer s H E).nox) (N' := ["_law_thing"]) (nl := 1) (cap := []) zbG.nd rfl (zaG (osc := (zab zaX)) (ON := za7) rfl rfl (by decide +kernel)) (zco (vb_ 3)) (fun _ _ _ _ _ _ => (zaA 0 (show List.Nodup (["_law_thing"] : List Str) by decide +kernel) (by rfl) (by first | exact Or.inl rfl | exact Or.inr rfl))) (zbP (by decide)) (fun _ _ _ _ _ _ => zcl) (fun _ _ _ _ _ _ => (zeU "bool" "bool" rfl (zgF _) (by rfl) T.b_isinstance (by rfl) T.b_bool (vb_ 0))))) zaJ))))))) (zaa (zaV s_bl)
      zag)
      zag)
      zag))
      (zaa (zaV (zfq (zeU "tuple" "tuple" rfl (zc3 _) (by rfl) T.b_isinstance (by rfl) T.b_tuple (SE.toB (zey hu1 (vb_ 0) (SE.toB zaB)))) (zfq (zeU "tuple" "tuple" rfl (zc3 _) (by rfl) T.b_isinstance (by rfl) T.b_tuple (SE.toB (zey hu1 (vb_ 0) (SE.toB zaB)))) (zfY (zlU (zl0 rfl (by rfl) T.b_any (zap (SO.toB (zcH (X := (cxOf CX0 P w K mg base za7 "_law_same" (zab zaX) f cdv A outer s H E).nox) (N' := ["_law_one"]) (nl := 1) (cap := []) zbG.nd rfl (zaG (osc := (zab zaX)) (ON := za7) rfl rfl (by decide +kernel)) (zco (SE.toB (zey hu1 (vb_ 0) (SE.toB zaB)))) (fun _ _ _ _ _ _ => (zaA 0 (show List.Nodup (["_law_one"] : List Str) by decide +kernel) (by rfl) (by first | exact Or.inl rfl | exact Or.inr rfl))) (zbP (by decide)) (fun _ _ _ _ _ _ => zcl) (fun _ _ _ _ _ _ => (znK (vb_ 0) (SE.toB s_bl))))) zaJ)))))))
      zag)))
noncomputable abbrev zdC : Stmt := top 35
noncomputable abbrev zer : List Str := ["_law_wishes_here","_law_owns_here","_law_parts","_law_row_here","_law_own","_law_words","_law_thing"]
noncomputable abbrev zcU : List Str := ["_law_wishes_here","_law_owns_here"]
theorem zaY : FnScope zer zcU (zab zdC) := ⟨rfl,rfl,rfl,by decide +kernel,rfl,by decide +kernel,by decide +kernel⟩
noncomputable abbrev zdd : FS :=
  (seqF (mutF "list" q112 5 (zac (f2 (f2 (fun _ => Res.ok (D.str "ABCDEFGH")) (gv 6) ixA) (f2 (fun _ => Res.ok (D.str "*")) (fC (zac (f2 (gv 6) (gv 4) eqD) lNil) zil) zhv) addA) lNil) appD) zaj)
noncomputable abbrev zdc : FS :=
  (seqF (setF q113 5 (mkL lNil)) (seqF (zcC q112 (fSeq za2 (gv 3)) (ftN 6) zdd) (seqF (mutF "list" q112 2 (zac (fM "str" (fun _ => Res.ok (D.str " ")) (zac (gv 5) lNil) zf8) lNil) appD) zaj)))
noncomputable def zcf : FS :=
  (seqF (setF q103 2 (mkL lNil)) (seqF (zcC q113 (fZip (gv 0) (gv 1)) (ftT (zaE (ftN 3) (zaE (ftN 4) zc4))) zdc) (seqF (retF q113 (fM "str" (fun _ => Res.ok (D.str "; ")) (zac (gv 2) lNil) zf8)) zaj)))
noncomputable def zbA : List D→Res D := fun ds => outR false (zcf (zal zer.length ds))
theorem zj9 {P : Program} {w : World} {K : PySem.W.Frag} {mg : Str→Option Value} {base : Heap} (T : Txt K mg) (A : DefAt K mg "_law_text" zdC) : Callee P w K mg base "_law_text" zcU [] 1 false q105 zbA := by
  refine zaF (k := 0) (fs := zcf) (m' := q113) A zaY rfl (fun _ _ _ _ _ _ us hl => by obtain ⟨u0,u1,rfl⟩ := zec us hl; kernel_rfl) fun f cdv A outer s H g E hr => ?_
  have hu1 := zbe hr
  have hu64 := hr.units
  exact (zaa (zeH 2 zaY.nd (by rfl) (by first | exact Or.inl rfl | exact Or.inr rfl) (zji zek))
      (zaa (zf0 PassesOwn.never rfl (zm5 (by rfl) T.b_zip (v_ 0) (v_ 1)) (zhe rfl (zcj (zaA 3 zaY.nd (by rfl) (by first | exact Or.inl rfl | exact Or.inr rfl)) (zcj (zaA 4 zaY.nd (by rfl) (by first | exact Or.inl rfl | exact Or.inr rfl)) zhf))) (zhr (m' := q112) 5 (zaa (zeH 5 zaY.nd (by rfl) (by first | exact Or.inl rfl | exact Or.inr rfl) (zji zek))
      (zaa (zf0 PassesOwn.never rfl (zm6 (v_ 3)) (zaA 6 zaY.nd (by rfl) (by first | exact Or.inl rfl | exact Or.inr rfl)) (zaa (zhA 5 rfl PySem.F.plainAttrs_list PySem.F.slot_list_append PySem.F.type_list_append zcm zgN (by rfl) (by first | exact Or.inl rfl | exact Or.inr (Or.inl rfl) | exact Or.inr (Or.inr rfl)) (zcK (zbN (SE.toB (zey hu1 (SE.toB zew) (vb_ 6))) (SE.toB (zlS (SE.toB zew) (SE.toB (zlV (by rfl) T.b_int (zap (SE.toB (s_eq hu64 (vb_ 6) (vb_ 4))) zaJ)))))) zek))
      zag))
      (zaa (zhA 2 rfl PySem.F.plainAttrs_list PySem.F.slot_list_append PySem.F.type_list_append zcm zgN (by rfl) (by first | exact Or.inl rfl | exact Or.inr (Or.inl rfl) | exact Or.inr (Or.inr rfl)) (zcK (s_bm PySem.F.plainAttrs_str PySem.F.slot_str_join PySem.F.type_str_join ze0 ze4 (SE.toB zew) (zap (vb_ 5) zaJ)) zek))
      zag))) rfl))
      (zaa (zaV (s_bm PySem.F.plainAttrs_str PySem.F.slot_str_join PySem.F.type_str_join ze0 ze4 (SE.toB zew) (zap (vb_ 2) zaJ)))
      zag)))
noncomputable abbrev zaZ : Stmt := top 14
noncomputable abbrev za5 : List Str := ["rows"]
noncomputable abbrev zaK : List Str := ["rows"]
theorem zbW : FnScope za5 zaK (zab zaZ) := ⟨rfl,rfl,rfl,by decide +kernel,rfl,by decide +kernel,by decide +kernel⟩
noncomputable def zaq : FS :=
  (seqF (ifF [Md.bw] (fOr (zaR (f2 (fC (zac (gv 0) lNil) lenD) (ci 1) ltI)) (zaR (f2 (fC (zac (gv 0) lNil) lenD) (ci 7) gtI))) (seqF (fun _ => Out.stuck) zaj) zaj) zaj)
noncomputable def zax : List D→Res D := fun ds => outR false (zaq (zal za5.length ds))
theorem zeZ {P : Program} {w : World} {K : PySem.W.Frag} {mg : Str→Option Value} {base : Heap} (T : Txt K mg) (A : DefAt K mg "refuse_too_many_rows" zaZ) : Callee P w K mg base "refuse_too_many_rows" zaK [] 1 false [Md.bw] zax := by
  refine zaF (k := 0) (fs := zaq) (m' := [Md.bw]) A zbW rfl (fun _ _ _ _ _ _ us hl => by obtain ⟨u0,rfl⟩ := zed us hl; kernel_rfl) fun f cdv A outer s H g E hr => ?_
  have hu1 := zbe hr
  have hu64 := hr.units
  exact (zaa (s_if (SW.toQ (q_or (q_lt (SE.toB (zcM (by rfl) T.b_len (zap (vb_ 0) zaJ))) (SE.toB zaB)) (zfv (q_gt (SE.toB (zcM (by rfl) T.b_len (zap (vb_ 0) zaJ))) (SE.toB (zhB (by rfl) T.k_MOST_HANDS)))))) (zaa zcL
      zag)
      zag)
      zag)
noncomputable abbrev zd2 : Stmt := top 9
noncomputable abbrev zeN : List Str := ["value"]
noncomputable abbrev zdx : List Str := ["value"]
theorem zfW : FnScope zeN zdx (zab zd2) := ⟨rfl,rfl,rfl,by decide +kernel,rfl,by decide +kernel,by decide +kernel⟩
noncomputable def zeQ : FS :=
  (seqF (retF [Md.bw] (vAnd (f1 (gv 0) (isiD "int")) (vNot (f1 (gv 0) (isiD "bool"))))) zaj)
noncomputable def zcx : List D→Res D := fun ds => outR false (zeQ (zal zeN.length ds))
theorem zkW {P : Program} {w : World} {K : PySem.W.Frag} {mg : Str→Option Value} {base : Heap} (T : Txt K mg) (A : DefAt K mg "is_whole" zd2) : Callee P w K mg base "is_whole" zdx [] 1 false [Md.bw] zcx := by
  refine zaF (k := 0) (fs := zeQ) (m' := [Md.bw]) A zfW rfl (fun _ _ _ _ _ _ us hl => by obtain ⟨u0,rfl⟩ := zed us hl; kernel_rfl) fun f cdv A outer s H g E hr => ?_
  have hu1 := zbe hr
  have hu64 := hr.units
  exact (zaa (zaV (zfq (zeU "int" "int" rfl (zk5 _) (by rfl) T.b_isinstance (by rfl) T.b_int (vb_ 0)) (zfY (zlU (zeU "bool" "bool" rfl (zgF _) (by rfl) T.b_isinstance (by rfl) T.b_bool (vb_ 0))))))
      zag)
noncomputable abbrev zd3 : Stmt := top 10
noncomputable abbrev zeO : List Str := ["value","bound"]
noncomputable abbrev zcv : List Str := ["value","bound"]
theorem zfX : FnScope zeO zcv (zab zd3) := ⟨rfl,rfl,rfl,by decide +kernel,rfl,by decide +kernel,by decide +kernel⟩
noncomputable def zcz : FS :=
  (seqF (retF q0 (vAnd (zau (zac (gv 0) lNil) [] zcx) (zfI (ci 0) (gv 0) (gv 1) leI ltI))) zaj)
noncomputable def za9 : List D→Res D := fun ds => outR false (zcz (zal zeO.length ds))
theorem zkX {P : Program} {w : World} {K : PySem.W.Frag} {mg : Str→Option Value} {base : Heap} (T : Txt K mg) (A : DefAt K mg "is_below" zd3) (c_is_whole : Callee P w K mg base "is_whole" zdx [] 1 false [Md.bw] zcx) : Callee P w K mg base "is_below" zcv [] 2 false q0 za9 := by
  refine zaF (k := 1) (fs := zcz) (m' := q0) A zfX rfl (fun _ _ _ _ _ _ us hl => by obtain ⟨u0,u1,rfl⟩ := zec us hl; kernel_rfl) fun f cdv A outer s H g E hr => ?_
  have hu1 := zbe hr
  have hu64 := hr.units
  exact (zaa (zaV (zfq (zas (dds := []) c_is_whole (hr.mono (by decide)) (m_bw (vb_ 0) zaN)) (zfY (zi1 znY zkR zn1 zn0 (SE.toB zaB) (vb_ 0) (vb_ 1)))))
      zag)
noncomputable abbrev zcE : Stmt := top 11
noncomputable abbrev zc9 : List Str := ["numbers","bound","ahead","place","number"]
noncomputable abbrev zb0 : List Str := ["numbers","bound"]
theorem zbb : FnScope zc9 zb0 (zab zcE) := ⟨rfl,rfl,rfl,by decide +kernel,rfl,by decide +kernel,by decide +kernel⟩
noncomputable abbrev zbx : FS :=
  (seqF (ifF q102 (fOr (fNot (fTru (zau (zac (gv 4) (zac (gv 1) lNil)) [] za9))) (zaR (f2 (gv 4) (gv 2) inD))) (seqF (retF q102 (gv 3)) zaj) zaj) (seqF (putF q102 2 (gv 4) (fun _ => Res.ok (D.bl true))) zaj))
noncomputable def zbn : FS :=
  (seqF (setF q114 2 (fun _ => Res.ok (D.dic []))) (seqF (zcC q102 (fEnu (gv 0)) (ftT (zaE (ftN 3) (zaE (ftN 4) zc4))) zbx) (seqF (retF q102 (fC (zac (gv 0) lNil) lenD)) zaj)))
noncomputable def zbl : List D→Res D := fun ds => outR false (zbn (zal zc9.length ds))
theorem ziS {P : Program} {w : World} {K : PySem.W.Frag} {mg : Str→Option Value} {base : Heap} (T : Txt K mg) (A : DefAt K mg "first_wrong" zcE) (c_is_below : Callee P w K mg base "is_below" zcv [] 2 false q0 za9) : Callee P w K mg base "first_wrong" zb0 [] 3 false q0 zbl := by
  refine zaF (k := 2) (fs := zbn) (m' := q102) A zbb rfl (fun _ _ _ _ _ _ us hl => by obtain ⟨u0,u1,rfl⟩ := zec us hl; kernel_rfl) fun f cdv A outer s H g E hr => ?_
  have hu1 := zbe hr
  have hu64 := hr.units
  exact (zaa (zeH 2 zbb.nd (by rfl) (by first | exact Or.inl rfl | exact Or.inr rfl) zkd)
      (zaa (zjX PassesOwn.never rfl (zin (by rfl) T.b_enumerate (vw_ 0)) (zhe rfl (zcj (zaA 3 zbb.nd (by rfl) (by first | exact Or.inl rfl | exact Or.inr rfl)) (zcj (zaA 4 zbb.nd (by rfl) (by first | exact Or.inl rfl | exact Or.inr rfl)) zhf))) (zaa (s_if (SW.toQ (q_or (zfw (zdP (SE.toB (zas (dds := []) c_is_below (hr.mono (by decide)) (m_bw (vb_ 4) (m_bw (vb_ 1) zaN)))))) (zfv (q_in hu1 (vb_ 4) (vb_ 2))))) (zaa (zaV (v_ 3))
      zag)
      zag)
      (zaa (zlT 2 hu1 rfl (by rfl) (by first | exact Or.inl rfl | exact Or.inr (Or.inl rfl) | exact Or.inr (Or.inr rfl)) (vb_ 4) s_bl)
      zag)))
      (zaa (zaV (zcM (by rfl) T.b_len (zap (vb_ 0) zaJ)))
      zag)))
noncomputable abbrev zc1 : Stmt := top 12
noncomputable abbrev zdM : List Str := ["numbers","bound"]
noncomputable abbrev zcr : List Str := ["numbers","bound"]
theorem zeT : FnScope zdM zcr (zab zc1) := ⟨rfl,rfl,rfl,by decide +kernel,rfl,by decide +kernel,by decide +kernel⟩
noncomputable def zbK : FS :=
  (seqF (retF q0 (f2 (zau (zac (gv 0) (zac (gv 1) lNil)) [] zbl) (fC (zac (gv 0) lNil) lenD) eqD)) zaj)
noncomputable def zbI : List D→Res D := fun ds => outR false (zbK (zal zdM.length ds))
theorem zjh {P : Program} {w : World} {K : PySem.W.Frag} {mg : Str→Option Value} {base : Heap} (T : Txt K mg) (A : DefAt K mg "are_unlike" zc1) (c_first_wrong : Callee P w K mg base "first_wrong" zb0 [] 3 false q0 zbl) : Callee P w K mg base "are_unlike" zcr [] 4 false q0 zbI := by
  refine zaF (k := 3) (fs := zbK) (m' := q0) A zeT rfl (fun _ _ _ _ _ _ us hl => by obtain ⟨u0,u1,rfl⟩ := zec us hl; kernel_rfl) fun f cdv A outer s H g E hr => ?_
  have hu1 := zbe hr
  have hu64 := hr.units
  exact (zaa (zaV (s_eq hu64 (SE.toB (zas (dds := []) c_first_wrong (hr.mono (by decide)) (m_bw (vb_ 0) (m_bw (vb_ 1) zaN)))) (SE.toB (zcM (by rfl) T.b_len (zap (vb_ 0) zaJ)))))
      zag)
noncomputable abbrev zci : Stmt := top 13
noncomputable abbrev zcs : List Str := ["numbers","bound"]
noncomputable abbrev zbw : List Str := ["numbers","bound"]
theorem zdO : FnScope zcs zbw (zab zci) := ⟨rfl,rfl,rfl,by decide +kernel,rfl,by decide +kernel,by decide +kernel⟩
noncomputable def za4 : FS :=
  (seqF (retF q0 (vAnd (f2 (fC (zac (gv 0) lNil) lenD) (gv 1) eqD) (zau (zac (gv 0) (zac (gv 1) lNil)) [] zbI))) zaj)
noncomputable def za3 : List D→Res D := fun ds => outR false (za4 (zal zcs.length ds))
theorem zhk {P : Program} {w : World} {K : PySem.W.Frag} {mg : Str→Option Value} {base : Heap} (T : Txt K mg) (A : DefAt K mg "has_each_once" zci) (c_are_unlike : Callee P w K mg base "are_unlike" zcr [] 4 false q0 zbI) : Callee P w K mg base "has_each_once" zbw [] 5 false q0 za3 := by
  refine zaF (k := 4) (fs := za4) (m' := q0) A zdO rfl (fun _ _ _ _ _ _ us hl => by obtain ⟨u0,u1,rfl⟩ := zec us hl; kernel_rfl) fun f cdv A outer s H g E hr => ?_
  have hu1 := zbe hr
  have hu64 := hr.units
  exact (zaa (zaV (zfq (s_eq hu64 (SE.toB (zcM (by rfl) T.b_len (zap (vb_ 0) zaJ))) (vb_ 1)) (zfY (zas (dds := []) c_are_unlike (hr.mono (by decide)) (m_bw (vb_ 0) (m_bw (vb_ 1) zaN))))))
      zag)
noncomputable abbrev zbD : Stmt := top 15
noncomputable abbrev zb3 : List Str := ["rows","things","hand","row"]
noncomputable abbrev zcQ : List Str := ["rows"]
theorem zbc : FnScope zb3 zcQ (zab zbD) := ⟨rfl,rfl,rfl,by decide +kernel,rfl,by decide +kernel,by decide +kernel⟩
noncomputable abbrev zda : FS :=
  (seqF (ifF q108 (fNot (fTru (zau (zac (gv 3) (zac (gv 1) lNil)) [] za3))) (seqF (fun _ => Out.stuck) zaj) zaj) zaj)
noncomputable def zca : FS :=
  (seqF (zjz q108 (zau (zac (gv 0) lNil) [] zax)) (seqF (setF q108 1 (fC (zac (f2 (gv 0) (ci 0) ixA) lNil) lenD)) (seqF (ifF q108 (fOr (zaR (f2 (gv 1) (fC (zac (gv 0) lNil) lenD) ltI)) (zaR (f2 (gv 1) (ci 8) gtI))) (seqF (fun _ => Out.stuck) zaj) zaj) (seqF (zcC q108 (fEnu (gv 0)) (ftT (zaE (ftN 2) (zaE (ftN 3) zc4))) zda) (seqF (retF q108 (fC (zac (zbi 1 [] (fSeq za2 (gv 0)) (ftN 0) (fun _ => Res.ok true) (fC (zac (gv 0) lNil) tupD)) lNil) tupD)) zaj)))))
noncomputable def zb6 : List D→Res D := fun ds => outR false (zca (zal zb3.length ds))
theorem zj4 {P : Program} {w : World} {K : PySem.W.Frag} {mg : Str→Option Value} {base : Heap} (T : Txt K mg) (A : DefAt K mg "wishes_of" zbD) (c_refuse_too_many_rows : Callee P w K mg base "refuse_too_many_rows" zaK [] 1 false [Md.bw] zax) (c_has_each_once : Callee P w K mg base "has_each_once" zbw [] 5 false q0 za3) : Callee P w K mg base "wishes_of" zcQ [] 6 false [Md.sh] zb6 := by
  refine zaF (k := 5) (fs := zca) (m' := q108) A zbc rfl (fun _ _ _ _ _ _ us hl => by obtain ⟨u0,rfl⟩ := zed us hl; kernel_rfl) fun f cdv A outer s H g E hr => ?_
  have hu1 := zbe hr
  have hu64 := hr.units
  exact (zaa (zlY (zas (dds := []) c_refuse_too_many_rows (hr.mono (by decide)) (m_bw (vb_ 0) zaN)))
      (zaa (zcB 1 zbc.nd (by rfl) (by first | exact Or.inl rfl | exact Or.inr rfl) (zcM (by rfl) T.b_len (zap (SE.toB (zey hu1 (vb_ 0) (SE.toB zaB))) zaJ)))
      (zaa (s_if (SW.toQ (q_or (q_lt (vb_ 1) (SE.toB (zcM (by rfl) T.b_len (zap (vb_ 0) zaJ)))) (zfv (q_gt (vb_ 1) (SE.toB (zhB (by rfl) T.k_MOST_THINGS)))))) (zaa zcL
      zag)
      zag)
      (zaa (zf0 PassesOwn.never rfl (zki (by rfl) T.b_enumerate (v_ 0)) (zhe rfl (zcj (zaA 2 zbc.nd (by rfl) (by first | exact Or.inl rfl | exact Or.inr rfl)) (zcj (zaA 3 zbc.nd (by rfl) (by first | exact Or.inl rfl | exact Or.inr rfl)) zhf))) (zaa (s_if (zfw (zdP (SE.toB (zas (dds := []) c_has_each_once (hr.mono (by decide)) (m_bw (vb_ 3) (m_bw (vb_ 1) zaN)))))) (zaa zcL
      zag)
      zag)
      zag))
      (zaa (zaV (zdq (by rfl) T.b_tuple (zap (SO.toB (zcH (X := (cxOf CX0 P w K mg base zb3 "wishes_of" (zab zbD) f cdv A outer s H E).nox) (N' := ["row"]) (nl := 1) (cap := []) zbc.nd rfl (zaG (osc := (zab zbD)) (ON := zb3) rfl rfl (by decide +kernel)) (zco (vb_ 0)) (fun _ _ _ _ _ _ => (zaA 0 (show List.Nodup (["row"] : List Str) by decide +kernel) (by rfl) (by first | exact Or.inl rfl | exact Or.inr rfl))) (zbP (by decide)) (fun _ _ _ _ _ _ => zcl) (fun _ _ _ _ _ _ => (zdq (by rfl) T.b_tuple (zap (vb_ 0) zaJ))))) zaJ)))
      zag)))))
noncomputable abbrev zdA : Stmt := top 16
noncomputable abbrev zep : List Str := ["wishes"]
noncomputable abbrev zcR : List Str := ["wishes"]
theorem zfl : FnScope zep zcR (zab zdA) := ⟨rfl,rfl,rfl,by decide +kernel,rfl,by decide +kernel,by decide +kernel⟩
noncomputable def zcb : FS :=
  (seqF (retF [Md.bw] (fC (zac (f2 (gv 0) (ci 0) ixA) lNil) lenD)) zaj)
noncomputable def za8 : List D→Res D := fun ds => outR false (zcb (zal zep.length ds))
theorem zj5 {P : Program} {w : World} {K : PySem.W.Frag} {mg : Str→Option Value} {base : Heap} (T : Txt K mg) (A : DefAt K mg "things_in" zdA) : Callee P w K mg base "things_in" zcR [] 1 false [Md.bw] za8 := by
  refine zaF (k := 0) (fs := zcb) (m' := [Md.bw]) A zfl rfl (fun _ _ _ _ _ _ us hl => by obtain ⟨u0,rfl⟩ := zed us hl; kernel_rfl) fun f cdv A outer s H g E hr => ?_
  have hu1 := zbe hr
  have hu64 := hr.units
  exact (zaa (zaV (zcM (by rfl) T.b_len (zap (SE.toB (zey hu1 (vb_ 0) (SE.toB zaB))) zaJ)))
      zag)
noncomputable abbrev zeD : Stmt := top 17
noncomputable abbrev zfR : List Str := ["wishes","things","ahead","hand","thing"]
noncomputable abbrev zel : List Str := ["wishes","things"]
theorem zct : FnScope zfR zel (zab zeD) := ⟨rfl,rfl,rfl,by decide +kernel,rfl,by decide +kernel,by decide +kernel⟩
noncomputable abbrev zeu : FS :=
  (seqF (ifF q102 (zaR (f2 (gv 4) (fun _ => Res.ok D.non) isnD)) (seqF (ifF q102 (fOr (fNot (fTru (zau (zac (gv 4) (zac (zau (zac (gv 0) lNil) [] za8) lNil)) [] za9))) (zaR (f2 (gv 4) (gv 2) inD))) (seqF (fun _ => Out.stuck) zaj) zaj) (seqF (putF q102 2 (gv 4) (fun _ => Res.ok (D.bl true))) zaj)) zaj) zaj)
noncomputable def zdl : FS :=
  (seqF (ifF q114 (zaR (f2 (fC (zac (gv 1) lNil) lenD) (fC (zac (gv 0) lNil) lenD) neD)) (seqF (fun _ => Out.stuck) zaj) zaj) (seqF (setF q114 2 (fun _ => Res.ok (D.dic []))) (seqF (zcC q102 (fEnu (gv 1)) (ftT (zaE (ftN 3) (zaE (ftN 4) zc4))) zeu) (seqF (retF q102 (fC (zac (gv 1) lNil) tupD)) zaj))))
noncomputable def zdg : List D→Res D := fun ds => outR false (zdl (zal zfR.length ds))
theorem zlr {P : Program} {w : World} {K : PySem.W.Frag} {mg : Str→Option Value} {base : Heap} (T : Txt K mg) (A : DefAt K mg "owns_of" zeD) (c_things_in : Callee P w K mg base "things_in" zcR [] 1 false [Md.bw] za8) (c_is_below : Callee P w K mg base "is_below" zcv [] 2 false q0 za9) : Callee P w K mg base "owns_of" zel [] 3 false q0 zdg := by
  refine zaF (k := 2) (fs := zdl) (m' := q102) A zct rfl (fun _ _ _ _ _ _ us hl => by obtain ⟨u0,u1,rfl⟩ := zec us hl; kernel_rfl) fun f cdv A outer s H g E hr => ?_
  have hu1 := zbe hr
  have hu64 := hr.units
  exact (zaa (s_if (q_ne hu64 (SE.toB (zcM (by rfl) T.b_len (zap (vb_ 1) zaJ))) (SE.toB (zcM (by rfl) T.b_len (zap (vb_ 0) zaJ)))) (zaa zcL
      zag)
      zag)
      (zaa (zeH 2 zct.nd (by rfl) (by first | exact Or.inl rfl | exact Or.inr rfl) zkd)
      (zaa (zjX PassesOwn.never rfl (zin (by rfl) T.b_enumerate (vw_ 1)) (zhe rfl (zcj (zaA 3 zct.nd (by rfl) (by first | exact Or.inl rfl | exact Or.inr rfl)) (zcj (zaA 4 zct.nd (by rfl) (by first | exact Or.inl rfl | exact Or.inr rfl)) zhf))) (zaa (s_if (znN (vb_ 4) (SE.toB zkw)) (zaa (s_if (SW.toQ (q_or (zfw (zdP (SE.toB (zas (dds := []) c_is_below (hr.mono (by decide)) (m_bw (vb_ 4) (m_bw (SE.toB (zas (dds := []) c_things_in (hr.mono (by decide)) (m_bw (vb_ 0) zaN))) zaN)))))) (zfv (q_in hu1 (vb_ 4) (vb_ 2))))) (zaa zcL
      zag)
      zag)
      (zaa (zlT 2 hu1 rfl (by rfl) (by first | exact Or.inl rfl | exact Or.inr (Or.inl rfl) | exact Or.inr (Or.inr rfl)) (vb_ 4) s_bl)
      zag))
      zag)
      zag))
      (zaa (zaV (zdq (by rfl) T.b_tuple (zap (vb_ 1) zaJ)))
      zag))))
noncomputable abbrev zc0 : Stmt := top 23
noncomputable abbrev zdL : List Str := ["word"]
noncomputable abbrev zbf : List Str := ["word"]
theorem zeS : FnScope zdL zbf (zab zc0) := ⟨rfl,rfl,rfl,by decide +kernel,rfl,by decide +kernel,by decide +kernel⟩
noncomputable def zbJ : FS :=
  (seqF (retF [Md.bw] (fM "str" (gv 0) (zac (fun _ => Res.ok (D.str "*")) lNil) zge)) zaj)
noncomputable def zaw : List D→Res D := fun ds => outR false (zbJ (zal zdL.length ds))
theorem zjg {P : Program} {w : World} {K : PySem.W.Frag} {mg : Str→Option Value} {base : Heap} (T : Txt K mg) (A : DefAt K mg "is_starred" zc0) : Callee P w K mg base "is_starred" zbf [] 1 false [Md.bw] zaw := by
  refine zaF (k := 0) (fs := zbJ) (m' := [Md.bw]) A zeS rfl (fun _ _ _ _ _ _ us hl => by obtain ⟨u0,rfl⟩ := zed us hl; kernel_rfl) fun f cdv A outer s H g E hr => ?_
  have hu1 := zbe hr
  have hu64 := hr.units
  exact (zaa (zaV (s_bm PySem.F.plainAttrs_str PySem.F.slot_str_endswith PySem.F.type_str_endswith zk3 zli (vb_ 0) (zap (SE.toB zew) zaJ)))
      zag)
noncomputable abbrev zdB : Stmt := top 24
noncomputable abbrev zeq : List Str := ["word"]
noncomputable abbrev zbv : List Str := ["word"]
theorem zfo : FnScope zeq zbv (zab zdB) := ⟨rfl,rfl,rfl,by decide +kernel,rfl,by decide +kernel,by decide +kernel⟩
noncomputable def zce : FS :=
  (seqF (retF [Md.sh] (fIf (fTru (zau (zac (gv 0) lNil) [] zaw)) (fSlX (gv 0) (fun _ => Res.ok none) (zjt (f1 (ci 1) negI))) (gv 0))) zaj)
noncomputable def zaP : List D→Res D := fun ds => outR false (zce (zal zeq.length ds))
theorem zj8 {P : Program} {w : World} {K : PySem.W.Frag} {mg : Str→Option Value} {base : Heap} (T : Txt K mg) (A : DefAt K mg "letter_in" zdB) (c_is_starred : Callee P w K mg base "is_starred" zbf [] 1 false [Md.bw] zaw) : Callee P w K mg base "letter_in" zbv [] 2 false [Md.sh] zaP := by
  refine zaF (k := 1) (fs := zce) (m' := [Md.sh]) A zfo rfl (fun _ _ _ _ _ _ us hl => by obtain ⟨u0,rfl⟩ := zed us hl; kernel_rfl) fun f cdv A outer s H g E hr => ?_
  have hu1 := zbe hr
  have hu64 := hr.units
  exact (zaa (zaV (zlW (zdP (SE.toB (zas (dds := []) c_is_starred (hr.mono (by decide)) (m_bw (vb_ 0) zaN)))) (znH (vb_ 0) zmy (zmx (SE.toB (znJ (SE.toB zaB))))) (v_ 0)))
      zag)
noncomputable abbrev zeE : Stmt := top 25
noncomputable abbrev zfS : List Str := ["word","letter"]
noncomputable abbrev zem : List Str := ["word"]
theorem zeG : FnScope zfS zem (zab zeE) := ⟨rfl,rfl,rfl,by decide +kernel,rfl,by decide +kernel,by decide +kernel⟩
noncomputable def zdm : FS :=
  (seqF (setF q105 1 (zau (zac (gv 0) lNil) [] zaP)) (seqF (retF q105 (vAnd (f2 (fC (zac (gv 1) lNil) lenD) (ci 1) eqD) (f2 (gv 1) (fun _ => Res.ok (D.str "ABCDEFGH")) inD))) zaj))
noncomputable def zdi : List D→Res D := fun ds => outR false (zdm (zal zfS.length ds))
theorem zls {P : Program} {w : World} {K : PySem.W.Frag} {mg : Str→Option Value} {base : Heap} (T : Txt K mg) (A : DefAt K mg "is_word" zeE) (c_letter_in : Callee P w K mg base "letter_in" zbv [] 2 false [Md.sh] zaP) : Callee P w K mg base "is_word" zem [] 3 false [Md.sh] zdi := by
  refine zaF (k := 2) (fs := zdm) (m' := q105) A zeG rfl (fun _ _ _ _ _ _ us hl => by obtain ⟨u0,rfl⟩ := zed us hl; kernel_rfl) fun f cdv A outer s H g E hr => ?_
  have hu1 := zbe hr
  have hu64 := hr.units
  exact (zaa (zcB 1 zeG.nd (by rfl) (by first | exact Or.inl rfl | exact Or.inr rfl) (zas (dds := []) c_letter_in (hr.mono (by decide)) (m_sh (v_ 0) zaN)))
      (zaa (zaV (zfq (s_eq hu64 (SE.toB (zcM (by rfl) T.b_len (zap (vb_ 1) zaJ))) (SE.toB zaB)) (zfY (s_in hu1 (vb_ 1) (SE.toB (zeV (by rfl) T.k_LETTERS))))))
      zag))
noncomputable abbrev zbp : Stmt := top 26
noncomputable abbrev zbR : List Str := ["words","starred"]
noncomputable abbrev zen : List Str := ["words"]
theorem zdp : FnScope zbR zen (zab zbp) := ⟨rfl,rfl,rfl,by decide +kernel,rfl,by decide +kernel,by decide +kernel⟩
noncomputable def zdn : FS :=
  (seqF (setF q109 1 (zbi 1 [] (fSeq za2 (gv 0)) (ftN 0) (fTru (zau (zac (gv 0) lNil) [] zaw)) (gv 0))) (seqF (retF [.bw,.ow] (vAnd (f2 (fC (zac (gv 1) lNil) lenD) (ci 2) ltI) (fC (zac (zbi 1 [] (fSeq za2 (gv 0)) (ftN 0) (fun _ => Res.ok true) (zau (zac (gv 0) lNil) [] zdi)) lNil) allD))) zaj))
noncomputable def zdj : List D→Res D := fun ds => outR false (zdn (zal zbR.length ds))
theorem zlt {P : Program} {w : World} {K : PySem.W.Frag} {mg : Str→Option Value} {base : Heap} (T : Txt K mg) (A : DefAt K mg "is_part" zbp) (c_is_starred : Callee P w K mg base "is_starred" zbf [] 1 false [Md.bw] zaw) (c_is_word : Callee P w K mg base "is_word" zem [] 3 false [Md.sh] zdi) : Callee P w K mg base "is_part" zen [] 4 false [Md.bw] zdj := by
  refine zaF (k := 3) (fs := zdn) (m' := [.bw,.ow]) A zdp rfl (fun _ _ _ _ _ _ us hl => by obtain ⟨u0,rfl⟩ := zed us hl; kernel_rfl) fun f cdv A outer s H g E hr => ?_
  have hu1 := zbe hr
  have hu64 := hr.units
  exact (zaa (zfp 1 (X := (cxOf CX0 P w K mg base zbR "is_part" (zab zbp) f cdv A outer s H E).nox) (m := q109) (N' := ["word"]) (nl := 1) (cap := []) zdp.nd rfl (by rfl) (by rfl) (zaG (osc := (zab zbp)) (ON := zbR) rfl rfl (by decide +kernel)) (zco (vb_ 0)) (fun _ _ _ _ _ _ => (zaA 0 (show List.Nodup (["word"] : List Str) by decide +kernel) (by rfl) (by first | exact Or.inl rfl | exact Or.inr rfl))) (zbP (by decide)) (fun _ _ _ _ _ _ => (zmd (zdP (SE.toB (zas (dds := []) c_is_starred (hr.mono (by decide)) (m_bw (vb_ 0) zaN)))))) (fun _ _ _ _ _ _ => (v_ 0)))
      (zaa (zaV (zfq (s_lt (SE.toB (zcM (by rfl) T.b_len (zap (vb_ 1) zaJ))) (SE.toB zaB)) (zfY (znM rfl (by rfl) T.b_all (zap (SO.toB (zcH (X := (cxOf CX0 P w K mg base zbR "is_part" (zab zbp) f cdv A outer s H E).nox) (N' := ["word"]) (nl := 1) (cap := []) zdp.nd rfl (zaG (osc := (zab zbp)) (ON := zbR) rfl rfl (by decide +kernel)) (zco (vb_ 0)) (fun _ _ _ _ _ _ => (zaA 0 (show List.Nodup (["word"] : List Str) by decide +kernel) (by rfl) (by first | exact Or.inl rfl | exact Or.inr rfl))) (zbP (by decide)) (fun _ _ _ _ _ _ => zcl) (fun _ _ _ _ _ _ => (zas (dds := []) c_is_word (hr.mono (by decide)) (m_sh (v_ 0) zaN))))) zaJ)))))
      zag))
noncomputable abbrev zcZ : Stmt := top 27
noncomputable abbrev zdX : List Str := ["words"]
noncomputable abbrev zfe : List Str := ["words"]
theorem zfm : FnScope zdX zfe (zab zcZ) := ⟨rfl,rfl,rfl,by decide +kernel,rfl,by decide +kernel,by decide +kernel⟩
noncomputable def zdY : FS :=
  (seqF (retF [Md.bw] (zbi 1 [] (fSeq za2 (gv 0)) (ftN 0) (fun _ => Res.ok true) (fM "str" (fun _ => Res.ok (D.str "ABCDEFGH")) (zac (zau (zac (gv 0) lNil) [] zaP) lNil) zgW))) zaj)
noncomputable def zdf : List D→Res D := fun ds => outR false (zdY (zal zdX.length ds))
theorem zmI {P : Program} {w : World} {K : PySem.W.Frag} {mg : Str→Option Value} {base : Heap} (T : Txt K mg) (A : DefAt K mg "row_in" zcZ) (c_letter_in : Callee P w K mg base "letter_in" zbv [] 2 false [Md.sh] zaP) : Callee P w K mg base "row_in" zfe [] 3 false [Md.bw] zdf := by
  refine zaF (k := 2) (fs := zdY) (m' := [Md.bw]) A zfm rfl (fun _ _ _ _ _ _ us hl => by obtain ⟨u0,rfl⟩ := zed us hl; kernel_rfl) fun f cdv A outer s H g E hr => ?_
  have hu1 := zbe hr
  have hu64 := hr.units
  exact (zaa (zaV (SO.toE (zcH (X := (cxOf CX0 P w K mg base zdX "row_in" (zab zcZ) f cdv A outer s H E).nox) (N' := ["word"]) (nl := 1) (cap := []) zfm.nd rfl (zaG (osc := (zab zcZ)) (ON := zdX) rfl rfl (by decide +kernel)) (zco (vb_ 0)) (fun _ _ _ _ _ _ => (zaA 0 (show List.Nodup (["word"] : List Str) by decide +kernel) (by rfl) (by first | exact Or.inl rfl | exact Or.inr rfl))) (zbP (by decide)) (fun _ _ _ _ _ _ => zcl) (fun _ _ _ _ _ _ => (s_bm PySem.F.plainAttrs_str PySem.F.slot_str_index PySem.F.type_str_index zh1 zhx (SE.toB (zeV (by rfl) T.k_LETTERS)) (zap (SE.toB (zas (dds := []) c_letter_in (hr.mono (by decide)) (m_sh (v_ 0) zaN))) zaJ))))))
      zag)
noncomputable abbrev zfj : Stmt := top 28
noncomputable abbrev zgO : List Str := ["words","word"]
noncomputable abbrev zff : List Str := ["words"]
theorem zfn : FnScope zgO zff (zab zfj) := ⟨rfl,rfl,rfl,by decide +kernel,rfl,by decide +kernel,by decide +kernel⟩
noncomputable abbrev zbS : FS :=
  (seqF (ifF q109 (fTru (zau (zac (gv 1) lNil) [] zaw)) (seqF (retF q109 (fM "str" (fun _ => Res.ok (D.str "ABCDEFGH")) (zac (zau (zac (gv 1) lNil) [] zaP) lNil) zgW)) zaj) zaj) zaj)
noncomputable def zdZ : FS :=
  (seqF (zcC q109 (fSeq za2 (gv 0)) (ftN 1) zbS) (seqF (retF q109 (fun _ => Res.ok D.non)) zaj))
noncomputable def zdh : List D→Res D := fun ds => outR false (zdZ (zal zgO.length ds))
theorem zmJ {P : Program} {w : World} {K : PySem.W.Frag} {mg : Str→Option Value} {base : Heap} (T : Txt K mg) (A : DefAt K mg "own_in" zfj) (c_is_starred : Callee P w K mg base "is_starred" zbf [] 1 false [Md.bw] zaw) (c_letter_in : Callee P w K mg base "letter_in" zbv [] 2 false [Md.sh] zaP) : Callee P w K mg base "own_in" zff [] 3 false [Md.bw] zdh := by
  refine zaF (k := 2) (fs := zdZ) (m' := q109) A zfn rfl (fun _ _ _ _ _ _ us hl => by obtain ⟨u0,rfl⟩ := zed us hl; kernel_rfl) fun f cdv A outer s H g E hr => ?_
  have hu1 := zbe hr
  have hu64 := hr.units
  exact (zaa (zlX PassesOwn.never rfl (zco (vb_ 0)) (fun _ => (zaA 1 zfn.nd (by rfl) (by first | exact Or.inl rfl | exact Or.inr rfl))) (fun _ => (zaa (s_if (zdP (SE.toB (zas (dds := []) c_is_starred (hr.mono (by decide)) (m_bw (vb_ 1) zaN)))) (zaa (zaV (s_bm PySem.F.plainAttrs_str PySem.F.slot_str_index PySem.F.type_str_index zh1 zhx (SE.toB (zeV (by rfl) T.k_LETTERS)) (zap (SE.toB (zas (dds := []) c_letter_in (hr.mono (by decide)) (m_sh (v_ 1) zaN))) zaJ)))
      zag)
      zag)
      zag)))
      (zaa (zaV zkw)
      zag))
noncomputable abbrev zaC : Stmt := top 29
noncomputable abbrev zaO : List Str := ["text","parts","at","words","wishes"]
noncomputable abbrev zcT : List Str := ["text"]
theorem zaM : FnScope zaO zcT (zab zaC) := ⟨rfl,rfl,rfl,by decide +kernel,rfl,by decide +kernel,by decide +kernel⟩
noncomputable abbrev zdb : FS :=
  (seqF (ifF q106 (fNot (fTru (zau (zac (gv 3) lNil) [] zdj))) (seqF (fun _ => Out.stuck) zaj) zaj) zaj)
noncomputable def zcd : FS :=
  (seqF (ifF q106 (fNot (fTru (f1 (gv 0) (isiD "str")))) (seqF (fun _ => Out.stuck) zaj) zaj) (seqF (setF q106 1 (zbi 1 [] (fSeq za2 (fM "str" (gv 0) (zac (fun _ => Res.ok (D.str "; ")) lNil) zd5)) (ftN 0) (fun _ => Res.ok true) (fM "str" (gv 0) (zac (fun _ => Res.ok (D.str " ")) lNil) zd5))) (seqF (zcC q106 (fEnu (gv 1)) (ftT (zaE (ftN 2) (zaE (ftN 3) zc4))) zdb) (seqF (setF q106 4 (zau (zac (zbi 1 [] (fSeq za2 (gv 1)) (ftN 0) (fun _ => Res.ok true) (zau (zac (gv 0) lNil) [] zdf)) lNil) [] zb6)) (seqF (retF q106 (mkT (zac (gv 4) (zac (zau (zac (gv 4) (zac (zbi 1 [] (fSeq za2 (gv 1)) (ftN 0) (fun _ => Res.ok true) (zau (zac (gv 0) lNil) [] zdh)) lNil)) [] zdg) lNil)))) zaj)))))
noncomputable def zbz : List D→Res D := fun ds => outR false (zcd (zal zaO.length ds))
theorem zj7 {P : Program} {w : World} {K : PySem.W.Frag} {mg : Str→Option Value} {base : Heap} (T : Txt K mg) (A : DefAt K mg "rows_read" zaC) (c_is_part : Callee P w K mg base "is_part" zen [] 4 false [Md.bw] zdj) (c_row_in : Callee P w K mg base "row_in" zfe [] 3 false [Md.bw] zdf) (c_wishes_of : Callee P w K mg base "wishes_of" zcQ [] 6 false [Md.sh] zb6) (c_own_in : Callee P w K mg base "own_in" zff [] 3 false [Md.bw] zdh) (c_owns_of : Callee P w K mg base "owns_of" zel [] 3 false q0 zdg) : Callee P w K mg base "rows_read" zcT [] 7 false [Md.bw] zbz := by
  refine zaF (k := 6) (fs := zcd) (m' := q106) A zaM rfl (fun _ _ _ _ _ _ us hl => by obtain ⟨u0,rfl⟩ := zed us hl; kernel_rfl) fun f cdv A outer s H g E hr => ?_
  have hu1 := zbe hr
  have hu64 := hr.units
  exact (zaa (s_if (zfw (zdP (SE.toB (zeU "str" "str" rfl (zic _) (by rfl) T.b_isinstance (by rfl) T.b_str (vb_ 0))))) (zaa zcL
      zag)
      zag)
      (zaa (zfp 1 (X := (cxOf CX0 P w K mg base zaO "rows_read" (zab zaC) f cdv A outer s H E).nox) (m := q106) (N' := ["part"]) (nl := 1) (cap := []) zaM.nd rfl (by rfl) (by rfl) (zaG (osc := (zab zaC)) (ON := zaO) rfl rfl (by decide +kernel)) (zco (SE.toB (s_bm PySem.F.plainAttrs_str PySem.F.slot_str_split PySem.F.type_str_split zgA zgq (vb_ 0) (zap (SE.toB zew) zaJ)))) (fun _ _ _ _ _ _ => (zaA 0 (show List.Nodup (["part"] : List Str) by decide +kernel) (by rfl) (by first | exact Or.inl rfl | exact Or.inr rfl))) (zbP (by decide)) (fun _ _ _ _ _ _ => zcl) (fun _ _ _ _ _ _ => (s_bm PySem.F.plainAttrs_str PySem.F.slot_str_split PySem.F.type_str_split zgA zgq (vb_ 0) (zap (SE.toB zew) zaJ))))
      (zaa (znL 1 rfl (zf0 PassesOwn.never rfl (zki (by rfl) T.b_enumerate (v_ 1)) (zhe rfl (zcj (zaA 2 zaM.nd (by rfl) (by first | exact Or.inl rfl | exact Or.inr rfl)) (zcj (zaA 3 zaM.nd (by rfl) (by first | exact Or.inl rfl | exact Or.inr rfl)) zhf))) (zaa (s_if (zfw (zdP (SE.toB (zas (dds := []) c_is_part (hr.mono (by decide)) (m_bw (vb_ 3) zaN))))) (zaa zcL
      zag)
      zag)
      zag)))
      (zaa (zcB 4 zaM.nd (by rfl) (by first | exact Or.inl rfl | exact Or.inr rfl) (zas (dds := []) c_wishes_of (hr.mono (by decide)) (m_sh (SO.toE (zcH (X := (cxOf CX0 P w K mg base zaO "rows_read" (zab zaC) f cdv A outer s H E).nox) (N' := ["words"]) (nl := 1) (cap := []) zaM.nd rfl (zaG (osc := (zab zaC)) (ON := zaO) rfl rfl (by decide +kernel)) (zco (vb_ 1)) (fun _ _ _ _ _ _ => (zaA 0 (show List.Nodup (["words"] : List Str) by decide +kernel) (by rfl) (by first | exact Or.inl rfl | exact Or.inr rfl))) (zbP (by decide)) (fun _ _ _ _ _ _ => zcl) (fun _ _ _ _ _ _ => (zas (dds := []) c_row_in (hr.mono (by decide)) (m_bw (vb_ 0) zaN))))) zaN)))
      (zaa (zaV (zlR (zcK (v_ 4) (zcK (zas (dds := []) c_owns_of (hr.mono (by decide)) (m_bw (vb_ 4) (m_bw (SO.toB (zcH (X := (cxOf CX0 P w K mg base zaO "rows_read" (zab zaC) f cdv A outer s H E).nox) (N' := ["words"]) (nl := 1) (cap := []) zaM.nd rfl (zaG (osc := (zab zaC)) (ON := zaO) rfl rfl (by decide +kernel)) (zco (vb_ 1)) (fun _ _ _ _ _ _ => (zaA 0 (show List.Nodup (["words"] : List Str) by decide +kernel) (by rfl) (by first | exact Or.inl rfl | exact Or.inr rfl))) (zbP (by decide)) (fun _ _ _ _ _ _ => zcl) (fun _ _ _ _ _ _ => (zas (dds := []) c_own_in (hr.mono (by decide)) (m_bw (vb_ 0) zaN))))) zaN))) zek))))
      zag)))))
noncomputable abbrev zjU : Stmt := top 37
noncomputable abbrev zns : List Str := ["_law_script","_law_first","_law_n","_law_m","_law_wishes_here","_law_owns_here","_law_told"]
noncomputable abbrev znr : List Str := ["_law_script"]
theorem zd7 : FnScope zns znr (zab zjU) := ⟨rfl,rfl,rfl,by decide +kernel,rfl,by decide +kernel,by decide +kernel⟩
noncomputable def zjQ : FS :=
  (seqF (setF q103 1 (zau (zac (gv 0) (zac (ci 1) lNil)) [] zaQ)) (seqF (setF q103 2 (f2 (ci 1) (f2 (gv 1) (ci 7) modI) addA)) (seqF (setF q103 3 (f2 (gv 2) (f2 (f2 (gv 1) (ci 7) zfG) (f2 (ci 9) (gv 2) subI) modI) addA)) (seqF (setF q103 4 (zau (zac (gv 0) (zac (ci 4) (zac (gv 2) (zac (gv 3) lNil)))) [] zbm)) (seqF (setF q103 5 (zau (zac (zau (zac (gv 0) (zac (ci 2) lNil)) [] zaQ) (zac (gv 2) (zac (gv 3) lNil))) [] zb8)) (seqF (setF q103 6 (zau (zac (gv 4) (zac (gv 5) lNil)) [] zb7)) (seqF (ifF q103 (fOr (fNot (fTru (f1 (gv 6) (isiD "str")))) (zaR (f2 (gv 6) (zau (zac (gv 4) (zac (gv 5) lNil)) [] zbA) neD))) (seqF (retF q103 (fun _ => Res.ok (D.bl false))) zaj) zaj) (seqF (retF q103 (vAnd (zau (zac (zau (zac (gv 6) lNil) [] zbz) (zac (gv 4) (zac (gv 5) lNil))) [] zbB) (zau (zac (zau (zac (zau (zac (gv 4) (zac (gv 5) lNil)) [] zbA) lNil) [] zbz) (zac (gv 4) (zac (gv 5) lNil))) [] zbB))) zaj))))))))
noncomputable def zlq : List D→Res D := fun ds => outR false (zjQ (zal zns.length ds))
theorem zom {P : Program} {w : World} {K : PySem.W.Frag} {mg : Str→Option Value} {base : Heap} (T : Txt K mg) {fa : Addr} {fd : FuncData} (A : Fun K "law" "law" zjU fa fd) (c__law_cell : Callee P w K mg base "_law_cell" zb2 [] 1 false q0 zaQ) (c__law_wishes : Callee P w K mg base "_law_wishes" zb1 [] 2 false q111 zbm) (c__law_owns : Callee P w K mg base "_law_owns" zcW [] 1 false [.sh,.bw,.bw] zb8) (c_rows_text : Callee P w K mg base "rows_text" zcS [] 3 false q105 zb7) (c__law_text : Callee P w K mg base "_law_text" zcU [] 1 false q105 zbA) (c_rows_read : Callee P w K mg base "rows_read" zcT [] 7 false [Md.bw] zbz) (c__law_same : Callee P w K mg base "_law_same" zcV [] 1 false [.bw,.sh,.sh] zbB) : FnOk P w K mg base CX0 8 fa fd znr (spM K false [Md.sh] zlq) := by
  refine zkj (k := 7) (fs := zjQ) (m' := q103) A zd7 rfl fun cdv A outer s H g E hr => ?_
  have hu1 := zbe hr
  have hu64 := hr.units
  exact (zaa (zcB 1 zd7.nd (by rfl) (by first | exact Or.inl rfl | exact Or.inr rfl) (zas (dds := []) c__law_cell (hr.mono (by decide)) (m_bw (vb_ 0) (m_bw (SE.toB zaB) zaN))))
      (zaa (zcB 2 zd7.nd (by rfl) (by first | exact Or.inl rfl | exact Or.inr rfl) (zbN (SE.toB zaB) (SE.toB (zex (vb_ 1) (SE.toB zaB)))))
      (zaa (zcB 3 zd7.nd (by rfl) (by first | exact Or.inl rfl | exact Or.inr rfl) (zbN (vb_ 2) (SE.toB (zex (SE.toB (zhC (vb_ 1) (SE.toB zaB))) (SE.toB (znG (SE.toB zaB) (vb_ 2)))))))
      (zaa (zcB 4 zd7.nd (by rfl) (by first | exact Or.inl rfl | exact Or.inr rfl) (zas (dds := []) c__law_wishes (hr.mono (by decide)) (m_bw (vb_ 0) (m_bw (SE.toB zaB) (m_bw (vb_ 2) (m_bw (vb_ 3) zaN))))))
      (zaa (zcB 5 zd7.nd (by rfl) (by first | exact Or.inl rfl | exact Or.inr rfl) (zas (dds := []) c__law_owns (hr.mono (by decide)) (m_sh (zas (dds := []) c__law_cell (hr.mono (by decide)) (m_bw (vb_ 0) (m_bw (SE.toB zaB) zaN))) (m_bw (vb_ 2) (m_bw (vb_ 3) zaN)))))
      (zaa (zcB 6 zd7.nd (by rfl) (by first | exact Or.inl rfl | exact Or.inr rfl) (zas (dds := []) c_rows_text (hr.mono (by decide)) (m_sh (v_ 4) (m_sh (v_ 5) zaN))))
      (zaa (s_if (SW.toQ (q_or (zfw (zdP (SE.toB (zeU "str" "str" rfl (zic _) (by rfl) T.b_isinstance (by rfl) T.b_str (vb_ 6))))) (zfv (q_ne hu64 (vb_ 6) (SE.toB (zas (dds := []) c__law_text (hr.mono (by decide)) (m_sh (v_ 4) (m_sh (v_ 5) zaN)))))))) (zaa (zaV s_bl)
      zag)
      zag)
      (zaa (zaV (zfq (zas (dds := []) c__law_same (hr.mono (by decide)) (m_bw (SE.toB (zas (dds := []) c_rows_read (hr.mono (by decide)) (m_bw (vb_ 6) zaN))) (m_sh (v_ 4) (m_sh (v_ 5) zaN)))) (zfY (zas (dds := []) c__law_same (hr.mono (by decide)) (m_bw (SE.toB (zas (dds := []) c_rows_read (hr.mono (by decide)) (m_bw (SE.toB (zas (dds := []) c__law_text (hr.mono (by decide)) (m_sh (v_ 4) (m_sh (v_ 5) zaN)))) zaN))) (m_sh (v_ 4) (m_sh (v_ 5) zaN)))))))
      zag))))))))
end Law
end
section
namespace Law
open PySem L2 DL
noncomputable abbrev nD (k : Nat) : D := .int (k : Int)
noncomputable abbrev LN (l : List Nat) : D := .lst (l.map nD)
noncomputable abbrev TN (l : List Nat) : D := .tup (l.map nD)
noncomputable def oD : Option Nat→D
  | none => .non
  | some k => nD k
noncomputable abbrev WD (rows : List (List Nat)) : D := .tup (rows.map TN)
noncomputable abbrev OD (owns : List (Option Nat)) : D := .tup (owns.map oD)
theorem szOk {ds : List D} (h : ds.length≤1000) : sz ds = some ds := znD (Nat.le_trans h (by rw [sizeLine_eq]; decide))
@[simp] theorem addA_int (a b : Int) : addA (.int a) (.int b) = some (.int (a + b)) := rfl
theorem zk2 {a b : Int} (h : CMul a b) : mulI (.int a) (.int b) = some (.int (a * b)) := by rw [mulI,intsC_int,if_pos h]
theorem zh3 {a b : Int} (h : 0 < b) : modI (.int a) (.int b) = some (.int (a % b)) := by rw [modI,intsC_int,if_pos h]
theorem zjs {a b : Int} (h : CDiv a b) : zfG (.int a) (.int b) = some (.int (a / b)) := by rw [zfG,intsC_int,if_pos h]
theorem zah {s1 s2 : FS} {r r' : Rho} (h : s1 r = .nx r') : seqF s1 s2 r = s2 r' := by unfold seqF; rw [h]
theorem zay {s1 s2 : FS} {r : Rho} {d : D} (h : s1 r = .rt d) : seqF s1 s2 r = .rt d := by unfold seqF; rw [h]
theorem zaT {m : List Md} {i : Nat} {f : FE} {r : Rho} {d : D} (h : f r = .ok d) : setF m i f r = .nx (r.set i (some d)) := by unfold setF; rw [h]; rfl
theorem zaD {m : List Md} {f : FE} {r : Rho} {d : D} (h : f r = .ok d) : retF m f r = .rt d := by unfold retF; rw [h]; rfl
theorem zle {m : List Md} {p : FQ} {s1 s2 : FS} {r : Rho} {b : Bool} (h : p r = .ok b) : ifF m p s1 s2 r = if b = true then s1 r else s2 r := by unfold ifF; rw [h]; rfl
theorem if_t {m : List Md} {p : FQ} {s1 s2 : FS} {r : Rho} (h : p r = .ok true) : ifF m p s1 s2 r = s1 r := by rw [zle h,if_pos rfl]
theorem if_f {m : List Md} {p : FQ} {s1 s2 : FS} {r : Rho} (h : p r = .ok false) : ifF m p s1 s2 r = s2 r := by rw [zle h,if_neg Bool.false_ne_true]
theorem znf {p : FQ} {f f' : FE} {r : Rho} (h : p r = .ok true) : fIf p f f' r = f r := by unfold fIf; rw [h]; rfl
theorem zng {p : FQ} {f f' : FE} {r : Rho} (h : p r = .ok false) : fIf p f f' r = f' r := by unfold fIf; rw [h]; rfl
theorem zke {fl : Rho→Res (List D)} {r : Rho} {ds : List D} (h : fl r = .ok ds) (hl : ds.length≤1000) : mkT fl r = .ok (.tup ds) := by unfold mkT; rw [h,bind_ok,szOk hl]; rfl
theorem zgC {fl : Rho→Res (List D)} {r : Rho} {ds : List D} (h : fl r = .ok ds) (hl : ds.length≤1000) : mkL fl r = .ok (.lst ds) := by unfold mkL; rw [h,bind_ok,szOk hl]; rfl
theorem zfd {ds : List D} {d : D} (h : ds.length≤1000) : appD (.lst ds) [d] = some (.lst (ds++[d])) := by
  show (if ds.length < sizeLine then some (D.lst (ds++[d])) else none) = _
  rw [if_pos (by rw [sizeLine_eq]; omega)]
theorem zak {fl : Rho→Res (List D)} {dds zs : List D} {F : List D→Res D} {r : Rho} {d : D} (h1 : fl r = .ok zs) (h2 : F (zs++dds) = .ok d) : zau fl dds F r = .ok d := by unfold zau; rw [h1,bind_ok,h2]; rfl
theorem zgd {f : FE} {k : D→Option D} {r : Rho} {a d : D} (h1 : f r = .ok a) (h2 : k a = some d) : f1 f k r = .ok d := by unfold f1; rw [h1,bind_ok,h2]; rfl
theorem zao {f f' : FE} {k : D→D→Option D} {r : Rho} {a b d : D} (h1 : f r = .ok a) (h2 : f' r = .ok b) (h3 : k a b = some d) : f2 f f' k r = .ok d := by unfold f2; rw [h1,bind_ok,h2,bind_ok,h3]; rfl
theorem zbs {fl : Rho→Res (List D)} {k : List D→Option D} {r : Rho} {ds : List D} {d : D} (h1 : fl r = .ok ds) (h2 : k ds = some d) : fC fl k r = .ok d := by unfold fC; rw [h1,bind_ok,h2]; rfl
theorem zaf {f : FE} {fl : Rho→Res (List D)} {r : Rho} {d : D} {ds : List D} (h1 : f r = .ok d) (h2 : fl r = .ok ds) : zac f fl r = .ok (d::ds) := by unfold zac; rw [h1,bind_ok,h2]; rfl
theorem zai {r : Rho} : lNil r = .ok [] := rfl
theorem zaH {f : FE} {r : Rho} {b : Bool} (h : f r = .ok (.bl b)) : zaR f r = .ok b := by unfold zaR; rw [h]; rfl
theorem zbg {f : FE} {r : Rho} {d : D} {b : Bool} (h : f r = .ok d) (h2 : truD d = some b) : fTru f r = .ok b := by unfold fTru; rw [h,bind_ok,h2]; rfl
theorem zdI {p : FQ} {r : Rho} {b : Bool} (h : p r = .ok b) : fNot p r = .ok (! b) := by unfold fNot; rw [h]; rfl
theorem zoj {p q : FQ} {r : Rho} (h : p r = .ok true) : fAnd p q r = q r := by unfold fAnd; rw [h]; rfl
theorem zok {p q : FQ} {r : Rho} (h : p r = .ok false) : fAnd p q r = .ok false := by unfold fAnd; rw [h]; rfl
theorem or_t {p q : FQ} {r : Rho} (h : p r = .ok true) : fOr p q r = .ok true := by unfold fOr; rw [h]; rfl
theorem or_f {p q : FQ} {r : Rho} (h : p r = .ok false) : fOr p q r = q r := by unfold fOr; rw [h]; rfl
theorem zd0 {f f' : FE} {r : Rho} (h : f r = .ok (.bl true)) : vAnd f f' r = f' r := by unfold vAnd; rw [h]; rfl
theorem zbr {m : List Md} {fi : FI} {ft : FT} {b : FS} {r : Rho} {ds : List D} (h : fi r = .ok ds) : zcC m fi ft b r = forF ft b ds r := by unfold zcC; rw [h]; rfl
theorem zbF {f : FE} {r : Rho} {d : D} {ds : List D} (h : f r = .ok d) (h2 : za2 d = some ds) : fSeq za2 f r = .ok ds := by unfold fSeq; rw [h,bind_ok,h2]; rfl
theorem zbM {ft : FT} {b : FS} {r : Rho} : forF ft b [] r = .nx r := by unfold forF; rfl
theorem zcp {ft : FT} {b : FS} {r r1 r' : Rho} {d : D} {ds : List D} (h1 : ft d r = some r1) (h2 : b r1 = .nx r') : forF ft b (d::ds) r = forF ft b ds r' := by
  conv => lhs; unfold forF
  simp only [h1,h2]
theorem zne {ft : FT} {b : FS} {r r1 : Rho} {d v : D} {ds : List D} (h1 : ft d r = some r1) (h2 : b r1 = .rt v) : forF ft b (d::ds) r = .rt v := by
  conv => lhs; unfold forF
  simp only [h1,h2]
theorem zfB {T : String} {m : List Md} {i : Nat} {fl : Rho→Res (List D)} {mk : D→List D→Option D} {r : Rho} {d d' : D} {ds : List D} (h1 : r[i]? = some (some d)) (h2 : tyB T d = true) (h3 : fl r = .ok ds) (h4 : mk d ds = some d') : mutF T m i fl mk r = .nx (r.set i (some d')) := by
  unfold mutF; rw [h1]; simp only [h2,if_true,h3,onE_ok,h4]
theorem zjZ {m : List Md} {i : Nat} {fk fv : FE} {r : Rho} {d k v d' : D} (h1 : r[i]? = some (some d)) (h2 : fv r = .ok v) (h3 : fk r = .ok k) (h4 : stoD d k v = some d') : DL.putF m i fk fv r = .nx (r.set i (some d')) := by
  unfold DL.putF; rw [h2,onE_ok]; simp only [h1,h3,onE_ok,h4]
theorem zll {fa fb fc : FE} {k k' : D→D→Option D} {r : Rho} {x y w d : D} (h1 : fa r = .ok x) (h2 : fb r = .ok y) (h3 : k x y = some (.bl true)) (h4 : fc r = .ok w) (h5 : k' y w = some d) : zfI fa fb fc k k' r = .ok d := by
  unfold zfI; rw [h1,bind_ok,h2,bind_ok,h3,opt_some,bind_ok]
  show (fc r).bind _ = _
  rw [h4,bind_ok,h5]; rfl
theorem ziF {ft : FT} {q : FQ} {fe : FE} {r0 : Rho} : zcO ft q fe r0 [] = .ok [] := by unfold zcO; rfl
theorem zfL {ft : FT} {q : FQ} {fe : FE} {r0 : Rho} {α : Type} (e : α→D) (keep : α→Bool) (g : α→D) : ∀ (l : List α),(∀ a∈l,∃ r1,ft (e a) r0 = some r1∧q r1 = .ok (keep a)∧(keep a = true→fe r1 = .ok (g a)))→zcO ft q fe r0 (l.map e) = .ok ((l.filter keep).map g)
  | [],_ => ziF
  | a::l,h => by
    obtain ⟨r1,h1,h2,h3⟩ := h a List.mem_cons_self
    have ih := zfL (ft := ft) (q := q) (fe := fe) (r0 := r0) e keep g l fun b hb => h b (List.mem_cons_of_mem _ hb)
    rw [List.map_cons]
    conv => lhs; unfold zcO
    rw [h1,opt_some,bind_ok,h2,bind_ok]
    cases k : keep a with
    | true => rw [if_pos rfl,h3 k,bind_ok,ih,bind_ok,List.filter_cons,if_pos k]; rfl
    | false => rw [if_neg Bool.false_ne_true,ih,List.filter_cons,if_neg (by rw [k]; exact Bool.false_ne_true)]
theorem zbu {nl : Nat} {cap : List Nat} {fi : FI} {ft : FT} {q : FQ} {fe : FE} {r : Rho} {α : Type} {l : List α} (e : α→D) (keep : α→Bool) (g : α→D) (h1 : fi r = .ok (l.map e)) (hl : l.length≤1000)
    (h : ∀ a∈l,∃ r1,ft (e a) (capR nl cap r) = some r1∧q r1 = .ok (keep a)∧(keep a = true→fe r1 = .ok (g a))) : zbi nl cap fi ft q fe r = .ok (.lst ((l.filter keep).map g)) := by
  unfold zbi
  rw [h1,bind_ok,szOk (by simpa using hl),opt_some,bind_ok,zfL e keep g l h,noXL_ok,bind_ok]
theorem zn7 (k : Nat) : leI (.int 0) (nD k) = some (.bl true) := by
  show some (D.bl (decide ((0 : Int)≤(k : Int)))) = _
  rw [decide_eq_true (Int.natCast_nonneg k)]
theorem zh9 (a b : Nat) : ltI (nD a) (nD b) = some (.bl (decide (a < b))) := by
  show some (D.bl (decide ((a : Int) < (b : Int)))) = _
  simp only [Int.ofNat_lt]
theorem zlf (a b : Nat) : gtI (nD a) (nD b) = some (.bl (decide (b < a))) := by
  show some (D.bl (decide ((b : Int) < (a : Int)))) = _
  simp only [Int.ofNat_lt]
theorem zjv (a b : Nat) : eqD (nD a) (nD b) = some (.bl (decide (a = b))) := by
  unfold eqD
  rw [eqB_int]
  show some (D.bl ((a : Int) == (b : Int))) = _
  have : ((a : Int) == (b : Int)) = decide (a = b) := by rw [Bool.eq_iff_iff,beq_iff_eq,decide_eq_true_iff]; exact Int.ofNat_inj
  rw [this]
theorem zaL {B : FS} {n : Nat} {ds : List D} {d : D} (h : B (zal n ds) = .rt d) : outR false (B (zal n ds)) = .ok d := by rw [h]; rfl
noncomputable abbrev kI (k : Nat) : Key := Sum.inl (k : Int)
theorem ziq (kvs : List (Nat × D)) (k : Nat) : hasK (kvs.map fun p => (kI p.1,p.2)) (kI k) = decide (k∈kvs.map (·.1)) := by
  unfold hasK
  rw [List.any_map,Bool.eq_iff_iff,List.any_eq_true,decide_eq_true_iff,List.mem_map]
  constructor
  · rintro ⟨p,h1,h2⟩
    refine ⟨p,h1,?_⟩
    simp only [Function.comp_apply,decide_eq_true_eq] at h2
    have : ((p.1 : Nat) : Int) = (k : Int) := Sum.inl.inj h2
    exact Int.ofNat.inj this
  · rintro ⟨p,h1,rfl⟩
    exact ⟨p,h1,by simp⟩
theorem zgx (kvs : List (Nat × D)) (k : Nat) (d : D) (h : k∉kvs.map (·.1)) : putD (kvs.map fun p => (kI p.1,p.2)) (kI k) d = (kvs++[(k,d)]).map fun p => (kI p.1,p.2) := by
  unfold putD
  have e : ((kvs.map fun p => (kI p.1,p.2)).any fun kv => decide (kv.1 = kI k)) = decide (k∈kvs.map (·.1)) := ziq kvs k
  rw [e,decide_eq_false h,if_neg Bool.false_ne_true,List.map_append]
  rfl
@[simp] theorem e_seq (s1 s2 : FS) (r : Rho) : seqF s1 s2 r = (match s1 r with | .nx r' => s2 r' | o => o) := rfl
@[simp] theorem e_skip (r : Rho) : zaj r = .nx r := rfl
@[simp] theorem e_set (m : List Md) (i : Nat) (f : FE) (r : Rho) : setF m i f r = onE m r (f r) fun d => .nx (r.set i (some d)) := rfl
@[simp] theorem e_ret (m : List Md) (f : FE) (r : Rho) : retF m f r = onE m r (f r) fun d => .rt d := rfl
@[simp] theorem e_if (m : List Md) (p : FQ) (s1 s2 : FS) (r : Rho) : ifF m p s1 s2 r = onE m r (p r) fun c => if c = true then s1 r else s2 r := rfl
@[simp] theorem e_getV (r : Rho) (i : Nat) : getV r i = (match r[i]? with | some (some d) => .ok d | _ => .stuck) := rfl
@[simp] theorem e_f1 (f : FE) (k : D→Option D) (r : Rho) : f1 f k r = (f r).bind fun d => opt (k d) := rfl
@[simp] theorem e_f2 (f f' : FE) (k : D→D→Option D) (r : Rho) : f2 f f' k r = (f r).bind fun a => (f' r).bind fun b => opt (k a b) := rfl
@[simp] theorem e_fC (fl : Rho→Res (List D)) (k : List D→Option D) (r : Rho) : fC fl k r = (fl r).bind fun ds => opt (k ds) := rfl
@[simp] theorem e_lN (r : Rho) : lNil r = .ok [] := rfl
@[simp] theorem e_lC (f : FE) (fl : Rho→Res (List D)) (r : Rho) : zac f fl r = (f r).bind fun d => (fl r).bind fun ds => .ok (d::ds) := rfl
@[simp] theorem e_test (f : FE) (r : Rho) : zaR f r = (f r).bind fun d => opt (asB d) := rfl
@[simp] theorem e_tru (f : FE) (r : Rho) : fTru f r = (f r).bind fun d => opt (truD d) := rfl
@[simp] theorem e_not (p : FQ) (r : Rho) : fNot p r = (p r).bind fun c => .ok (! c) := rfl
@[simp] theorem e_and (p q : FQ) (r : Rho) : fAnd p q r = (p r).bind fun c => if c = true then q r else .ok false := rfl
@[simp] theorem e_or (p q : FQ) (r : Rho) : fOr p q r = (p r).bind fun c => if c = true then .ok true else q r := rfl
@[simp] theorem e_vand (f f' : FE) (r : Rho) : vAnd f f' r = (f r).bind fun d => (opt (asB d)).bind fun c => if c = true then f' r else .ok (.bl false) := rfl
@[simp] theorem e_vor (f f' : FE) (r : Rho) : vOr f f' r = (f r).bind fun d => (opt (asB d)).bind fun c => if c = true then .ok (.bl true) else f' r := rfl
@[simp] theorem e_vnot (f : FE) (r : Rho) : vNot f r = (f r).bind fun d => (opt (asB d)).bind fun c => .ok (.bl (! c)) := rfl
@[simp] theorem e_fIf (p : FQ) (f f' : FE) (r : Rho) : fIf p f f' r = (p r).bind fun c => if c = true then f r else f' r := rfl
@[simp] theorem e_call (fl : Rho→Res (List D)) (dds : List D) (F : List D→Res D) (r : Rho) : zau fl dds F r = (fl r).bind fun ds => noX (F (ds++dds)) := rfl
@[simp] theorem e_asB (b : Bool) : asB (.bl b) = some b := rfl
@[simp] theorem e_truB (b : Bool) : truD (.bl b) = some b := rfl
@[simp] theorem e_truL (ds : List D) : truD (.lst ds) = some (! ds.isEmpty) := rfl
@[simp] theorem e_loop (m : List Md) (fi : FI) (ft : FT) (b : FS) (r : Rho) : zcC m fi ft b r = onE m r (fi r) fun ds => forF ft b ds r := rfl
@[simp] theorem e_fSeq (k : D→Option (List D)) (f : FE) (r : Rho) : fSeq k f r = (f r).bind fun d => opt (k d) := rfl
@[simp] theorem e_asL (ds : List D) : za2 (.lst ds) = some ds := rfl
@[simp] theorem e_asT (ds : List D) : za2 (.tup ds) = some ds := rfl
@[simp] theorem e_mkT (fl : Rho→Res (List D)) (r : Rho) : mkT fl r = (fl r).bind fun ds => (opt (sz ds)).bind fun ds => .ok (.tup ds) := rfl
@[simp] theorem e_mkL (fl : Rho→Res (List D)) (r : Rho) : mkL fl r = (fl r).bind fun ds => (opt (sz ds)).bind fun ds => .ok (.lst ds) := rfl
@[simp] theorem e_sz0 : sz [] = some [] := szOk (by simp)
@[simp] theorem e_sz1 (a : D) : sz [a] = some [a] := szOk (by simp)
@[simp] theorem e_sz2 (a b : D) : sz [a,b] = some [a,b] := szOk (by simp)
@[simp] theorem e_sz3 (a b c : D) : sz [a,b,c] = some [a,b,c] := szOk (by simp)
@[simp] theorem e_lenL (ds : List D) : lenD [.lst ds] = some (.int ds.length) := rfl
@[simp] theorem e_lenT (ds : List D) : lenD [.tup ds] = some (.int ds.length) := rfl
@[simp] theorem e_lenK (ds : List (Key × D)) : lenD [.dic ds] = some (.int ds.length) := rfl
@[simp] theorem e_tupL (ds : List D) : tupD [.lst ds] = some (.tup ds) := rfl
@[simp] theorem e_listL (ds : List D) : zmM [.lst ds] = some (.lst ds) := rfl
@[simp] theorem e_listT (ds : List D) : zmM [.tup ds] = some (.lst ds) := rfl
@[simp] theorem e_isNN : isD .non .non = some (.bl true) := rfl
@[simp] theorem e_isLN (ds : List D) : isD (.lst ds) .non = some (.bl false) := rfl
@[simp] theorem e_isn1 : isnD .non .non = some (.bl false) := rfl
@[simp] theorem e_isn2 (i : Int) : isnD (.int i) .non = some (.bl true) := rfl
@[simp] theorem e_isn3 (ds : List D) : isnD (.tup ds) .non = some (.bl true) := rfl
@[simp] theorem e_valsD (kvs : List (Key × D)) : znu (.dic kvs) = some (.lst (kvs.map (·.2))) := rfl
theorem zmZ {ds : List D} {i : Nat} {d : D} (h : ds[i]? = some d) : ixA (.tup ds) (nD i) = some d := by
  have hl : i < ds.length := (List.getElem?_eq_some_iff.mp h).1
  show atI ds (i : Int) = some d
  unfold atI ixN
  rw [if_pos (Int.natCast_nonneg i),if_pos (by omega)]
  simpa using h
theorem zk8 {ds : List D} {i : Nat} {d : D} (h : ds[i]? = some d) : ixA (.lst ds) (nD i) = some d := by
  have hl : i < ds.length := (List.getElem?_eq_some_iff.mp h).1
  show atI ds (i : Int) = some d
  unfold atI ixN
  rw [if_pos (Int.natCast_nonneg i),if_pos (by omega)]
  simpa using h
@[simp] theorem ixA_L0 (d : D) (ds : List D) : ixA (.lst (d::ds)) (.int 0) = some d := zk8 (i := 0) rfl
@[simp] theorem ixA_T0 (d : D) (ds : List D) : ixA (.tup (d::ds)) (.int 0) = some d := zmZ (i := 0) rfl
end Law
end
section
namespace Law
open PySem L2 DL
theorem zft (k : Nat) : zcx [nD k] = .ok (.bl true) := rfl
theorem zdH (k b : Nat) : za9 [nD k,nD b] = .ok (.bl (decide (k < b))) := by
  refine zaL (B := zcz) (n := 2) ?_
  unfold zcz
  refine zay (zaD ?_)
  rw [zd0 (zak (zaf (d := nD k) rfl zai) (zft k))]
  exact zll rfl rfl (zn7 k) rfl (zh9 k b)
end Law
end
section
namespace Law
open PySem L2 DL
theorem zgE {α : Type} (f : α→D) (l : List α) : lenD [.tup (l.map f)] = some (nD l.length) := by
  show some (D.int ((l.map f).length : Int)) = _
  rw [List.length_map]
theorem zbj {α : Type} (f : α→D) (l : List α) : lenD [.lst (l.map f)] = some (nD l.length) := by
  show some (D.int ((l.map f).length : Int)) = _
  rw [List.length_map]
theorem zfa (n : Nat) : eqD (nD n) (nD n) = some (.bl true) := by
  have e := zjv n n
  rw [decide_eq_true rfl] at e; exact e
theorem zl4 (n : Nat) : rngD 0 n = (List.range n).map nD := by
  unfold rngD
  refine List.map_congr_left fun i _ => ?_
  show D.int (0 + (i : Int)) = D.int (i : Int)
  rw [Int.zero_add]
theorem zkA (j : Int) : rng1 [.int j] = if -(2 ^ 62)≤j∧j < 2 ^ 62 then some (rngD 0 j.toNat) else none := rfl
theorem zhH {n : Nat} (h : n≤1000) : rng1 [nD n] = some ((List.range n).map nD) := by
  rw [zkA,if_pos ⟨by omega,by omega⟩,Int.toNat_natCast,zl4]
theorem zgc {fl : Rho→Res (List D)} {k : List D→Option (List D)} {r : Rho} {ds es : List D} (h1 : fl r = .ok ds) (h2 : k ds = some es) : fRng k fl r = .ok es := by unfold fRng; rw [h1,bind_ok,h2]; rfl
noncomputable def own (owns : List (Option Nat)) (h : Nat) : Option Nat := (owns[h]?).join
end Law
end
section
namespace Law
open PySem L2 DL
theorem zgZ {row : List Nat} {rest : List (List Nat)} : za8 [WD (row::rest)] = .ok (nD row.length) := by
  refine zaL (B := zcb) (n := 1) ?_
  unfold zcb
  exact zay (zaD (zbs (zaf (zao (a := WD (row::rest)) (b := .int 0) rfl rfl (ixA_T0 _ _)) zai) (zgE _ _)))
end Law
end
section
namespace Law
open PySem L2 DL
noncomputable abbrev zbL (pre : List Nat) : D := .dic ((pre.map fun k => (k,D.bl true)).map fun p => (kI p.1,p.2))
theorem zis (b : Nat) (num : D) : ∀ (suf pre : List Nat) (x y : Option D),(pre++suf).Nodup→(∀ k∈suf,k < b)→(pre++suf).length≤1000 →
    ∃ x' y',forF (ftT (zaE (ftN 3) (zaE (ftN 4) zc4))) zbx (enuD pre.length (suf.map nD)) [some num,some (nD b),some (zbL pre),x,y] = .nx [some num,some (nD b),some (zbL (pre++suf)),x',y']
  | [],pre,x,y,_,_,_ => ⟨x,y,by rw [List.append_nil]; exact zbM⟩
  | k::suf,pre,x,y,hn,hb,hl => by
    have hk : k∉pre := fun z => (List.nodup_append.mp hn).2.2 k z k List.mem_cons_self rfl
    obtain ⟨x',y',ih⟩ := zis b num suf (pre++[k]) (some (nD pre.length)) (some (nD k)) (by simpa using hn) (fun j hj => hb j (List.mem_cons_of_mem _ hj)) (by simpa using hl)
    refine ⟨x',y',?_⟩
    rw [show (pre++[k]).length = pre.length + 1 by simp] at ih
    rw [show pre++k::suf = (pre++[k])++suf by simp,← ih]
    show forF _ _ (.tup [.int ((pre.length : Nat) : Int),nD k]::enuD (pre.length + 1) (suf.map nD)) _ = _
    refine zcp (r1 := [some num,some (nD b),some (zbL pre),some (nD pre.length),some (nD k)]) rfl ?_
    have c2 : inD (nD k) (zbL pre) = some (.bl false) := by
      show (some (hasK _ (kI k))).map D.bl = _
      rw [ziq,List.map_map]
      have : decide (k∈pre.map ((fun p : Nat × D => p.1) ∘ fun k => (k,D.bl true))) = false := by
        rw [decide_eq_false_iff_not]
        simpa [Function.comp_def] using hk
      rw [this]; rfl
    have c3 : stoD (zbL pre) (nD k) (.bl true) = some (zbL (pre++[k])) := by
      show (if _ then some (D.dic (putD _ (kI k) (.bl true))) else none) = _
      rw [if_pos (by rw [List.length_map,List.length_map,sizeLine_eq]; simp at hl; omega),zgx _ _ _ (by rw [List.map_map]; simpa [Function.comp_def] using hk)]
      simp
    have c1 : decide (k < b) = true := decide_eq_true (hb k List.mem_cons_self)
    unfold zbx
    have hif : (fOr (fNot (fTru (zau (zac (gv 4) (zac (gv 1) lNil)) [] za9))) (zaR (f2 (gv 4) (gv 2) inD))) [some num,some (nD b),some (zbL pre),some (nD pre.length),some (nD k)] = .ok false := by
      have h0 := zdH k b
      rw [c1] at h0
      rw [or_f (zdI (zbg (b := true) (zak (zaf (d := nD k) rfl (zaf (d := nD b) rfl zai)) h0) rfl))]
      exact zaH (zao (a := nD k) (b := zbL pre) rfl rfl c2)
    refine (zah (zle hif)).trans ?_
    exact zah (zjZ (d := zbL pre) (k := nD k) rfl rfl rfl c3)
theorem zd9 {l : List Nat} {b : Nat} (hn : l.Nodup) (hb : ∀ k∈l,k < b) (hl : l.length≤1000) : zbl [LN l,nD b] = .ok (nD l.length) := by
  obtain ⟨x',y',h⟩ := zis b (LN l) l [] none none hn hb hl
  refine zaL (B := zbn) (n := 5) ?_
  unfold zbn
  refine (zah (r' := [some (LN l),some (nD b),some (zbL []),none,none]) rfl).trans ?_
  refine (zah ((zbr (ds := enuD 0 (l.map nD)) rfl).trans h)).trans ?_
  exact zay (zaD (zbs (zaf (d := LN l) rfl zai) (zbj _ _)))
theorem zgY {l : List Nat} {n : Nat} (hn : l.Nodup) (hb : ∀ k∈l,k < n) (h8 : l.length≤1000) : zbI [LN l,nD n] = .ok (.bl true) := by
  refine zaL (B := zbK) (n := 2) ?_
  unfold zbK
  exact zay (zaD (zao (a := nD l.length) (b := nD l.length) (zak (zaf (d := LN l) rfl (zaf (d := nD n) rfl zai)) (zd9 hn hb h8)) (zbs (zaf (d := LN l) rfl zai) (zbj _ _)) (zfa _)))
theorem zky {l : List Nat} {n : Nat} (hn : l.Nodup) (hb : ∀ k∈l,k < n) (hl : l.length = n) (h8 : n≤1000) : za3 [LN l,nD n] = .ok (.bl true) := by
  refine zaL (B := za4) (n := 2) ?_
  unfold za4
  subst hl
  refine zay (zaD ?_)
  rw [zd0 (zao (a := nD l.length) (b := nD l.length) (zbs (zaf (d := LN l) rfl zai) (zbj _ _)) rfl (zfa _))]
  exact zak (zaf (d := LN l) rfl (zaf (d := nD l.length) rfl zai)) (zgY hn hb h8)
end Law
end
section
namespace Law
open PySem L2 DL
noncomputable def putN (kvs : List (Nat × Nat)) (k v : Nat) : List (Nat × Nat) := if k∈kvs.map (·.1) then kvs.map fun p => if p.1 = k then (p.1,v) else p else kvs++[(k,v)]
theorem zhL (kvs : List (Nat × Nat)) (k v j : Nat) : j∈(putN kvs k v).map (·.1)↔j∈kvs.map (·.1)∨j = k := by
  unfold putN
  by_cases h : k∈kvs.map (·.1)
  · rw [if_pos h,List.map_map]
    have : ((fun p : Nat × Nat => p.1) ∘ fun p => if p.1 = k then (p.1,v) else p) = fun p => p.1 := by
      funext p
      simp only [Function.comp_apply]
      split <;> rfl
    rw [this]
    constructor
    · exact .inl
    · rintro (z | rfl)
      · exact z
      · exact h
  · rw [if_neg h]; simp
theorem zi5 {kvs : List (Nat × Nat)} {k v : Nat} {f : Nat→Nat} (h : ∀ p∈kvs,p.2 = f p.1) (hv : v = f k) : ∀ p∈putN kvs k v,p.2 = f p.1 := by
  intro p hp
  unfold putN at hp
  split at hp
  · obtain ⟨q,h1,rfl⟩ := List.mem_map.mp hp
    split
    · rename_i e; simp only; rw [e]; exact hv
    · exact h q h1
  · rcases List.mem_append.mp hp with z | z
    · exact h p z
    · rw [List.mem_singleton.mp z]; exact hv
structure GI (t : Nat→Nat) (kvs : List (Nat × Nat)) (L : List Nat) : Prop where
  nd : (kvs.map (·.1)).Nodup
  val : ∀ p∈kvs,p.2 = t p.1
  key : ∀ h,h∈kvs.map (·.1)↔h∈L
theorem zkC {kvs : List (Nat × Nat)} {k v : Nat} (h : (kvs.map (·.1)).Nodup) : ((putN kvs k v).map (·.1)).Nodup := by
  unfold putN
  split
  · rw [List.map_map]
    have : ((fun p : Nat × Nat => p.1) ∘ fun p => if p.1 = k then (p.1,v) else p) = fun p => p.1 := by
      funext p
      simp only [Function.comp_apply]
      split <;> rfl
    rw [this]; exact h
  · rename_i hk
    rw [List.map_append]
    refine List.nodup_append.mpr ⟨h,by simp,fun a ha b hb => ?_⟩
    simp at hb
    rintro rfl
    exact hk (hb ▸ ha)
theorem GI.put {t : Nat→Nat} {kvs : List (Nat × Nat)} {L : List Nat} (g : GI t kvs L) (k : Nat) : GI t (putN kvs k (t k)) (L++[k]) :=
  ⟨zkC g.nd,zi5 g.val rfl,fun h => by rw [zhL,g.key]; simp⟩
theorem GI.len {t : Nat→Nat} {kvs : List (Nat × Nat)} {L line : List Nat} (g : GI t kvs L) (hs : ∀ h∈L,h∈line) : kvs.length≤line.length := by
  have := Rg.ze3 (m := line) g.nd fun h hh => hs h ((g.key h).mp hh)
  simpa using this
theorem GI.congr {t t' : Nat→Nat} {kvs : List (Nat × Nat)} {L : List Nat} (g : GI t kvs L) (h : ∀ x∈L,t' x = t x) : GI t' kvs L :=
  ⟨g.nd,fun p hp => by rw [g.val p hp,h p.1 ((g.key _).mp (List.mem_map.mpr ⟨p,hp,rfl⟩))],g.key⟩
theorem GI.mem {t : Nat→Nat} {kvs : List (Nat × Nat)} {L M : List Nat} (g : GI t kvs L) (h : ∀ x,x∈L↔x∈M) : GI t kvs M := ⟨g.nd,g.val,fun x => (g.key x).trans (h x)⟩
theorem GI.nil (t : Nat→Nat) : GI t [] [] := ⟨by simp,fun _ hp => (nomatch hp),fun h => by simp⟩
theorem zaU {α : Type} (l : List α) : l.filter (fun _ => true) = l := List.filter_eq_self.mpr fun _ _ => rfl
end Law
end
section
namespace Law
open PySem L2 DL
theorem zgB {a b : Nat} (h : 0 < b) : modI (nD a) (nD b) = some (nD (a % b)) := by
  rw [zh3 (by omega : (0 : Int) < (b : Int))]
  show some (D.int _) = some (D.int _)
  rw [Int.natCast_emod]
theorem zgb {a b : Nat} (h : 0 < b) (h2 : b < 1000) : zfG (nD a) (nD b) = some (nD (a / b)) := by
  rw [zjs (⟨by omega,by omega⟩ : CDiv (a : Int) (b : Int))]
  show some (D.int _) = some (D.int _)
  rw [Int.natCast_ediv]
theorem zej (a b : Nat) : addA (nD a) (nD b) = some (nD (a + b)) := by
  rw [addA_int]
  show some (D.int _) = some (D.int _)
  rw [Int.natCast_add]
section
variable {f f' : FE} {r : Rho}
theorem zhg {b : Int} (h : ∃ i : Int,f r = .ok (.int i)) (h' : f' r = .ok (.int b)) (hb : 0 < b) : ∃ c : Nat,f2 f f' modI r = .ok (nD c) := by
  obtain ⟨i,hi⟩ := h
  refine ⟨(i % b).toNat,zao hi h' ?_⟩
  rw [zh3 hb]
  show some (D.int _) = some (D.int _)
  rw [Int.toNat_of_nonneg (Int.emod_nonneg _ (by omega))]
theorem exN (h : ∃ c : Nat,f r = .ok (nD c)) : ∃ i : Int,f r = .ok (.int i) := let ⟨c,e⟩ := h; ⟨c,e⟩
theorem zeg {b : Int} (h : ∃ i : Int,f r = .ok (.int i)) (h' : f' r = .ok (.int b)) (hb : -(2 ^ 64) < b∧b < 2 ^ 64) : ∃ i : Int,f2 f f' mulI r = .ok (.int i) := by
  obtain ⟨i,hi⟩ := h
  exact ⟨i * b,zao hi h' (zk2 (.inr hb))⟩
theorem zju (h : ∃ i : Int,f r = .ok (.int i)) (h' : ∃ i : Int,f' r = .ok (.int i)) : ∃ i : Int,f2 f f' addA r = .ok (.int i) := by
  obtain ⟨i,hi⟩ := h
  obtain ⟨j,hj⟩ := h'
  exact ⟨i + j,zao hi hj rfl⟩
end
theorem znh {m : List Md} {i : Nat} {f : FE} {s2 : FS} {r : Rho} (h : ∃ c : Nat,f r = .ok (nD c)) (k : ∀ c : Nat,∃ d : Nat,s2 (r.set i (some (nD c))) = .rt (nD d)) : ∃ d : Nat,seqF (setF m i f) s2 r = .rt (nD d) := by
  obtain ⟨c,hc⟩ := h
  obtain ⟨d,hd⟩ := k c
  exact ⟨d,(zah (zaT hc)).trans hd⟩
noncomputable abbrev IN (ns : List Int) : D := .lst (ns.map .int)
theorem zeW (ns : List Int) (k : Nat) (hk : k≤1000) : ∃ c : Nat,zaQ [IN ns,nD k] = .ok (nD c) := by
  suffices h : ∃ c : Nat,zbC (zal 4 [IN ns,nD k]) = .rt (nD c) by
    obtain ⟨c,hc⟩ := h
    exact ⟨c,zaL (B := zbC) (n := 4) hc⟩
  unfold zbC
  have st : seqF (setF q101 2 (ci 0)) = seqF (setF q101 2 (fun _ => Res.ok (nD 0))) := rfl
  rw [st]
  refine znh ⟨0,rfl⟩ fun c1 => ?_
  show ∃ d : Nat,seqF _ _ [some (IN ns),some (nD k),some (nD c1),none] = _
  have key : ∃ c2 : Nat,(ifF q101 (zaR (f2 (gv 1) (fC (zac (gv 0) lNil) lenD) ltI)) (seqF (setF q101 2 (f2 (f2 (gv 0) (gv 1) ixA) (f2 (ci 10) (ci 60) powI) modI)) zaj) zaj) [some (IN ns),some (nD k),some (nD c1),none] = .nx [some (IN ns),some (nD k),some (nD c2),none] := by
    have t := zaH (zao (f := gv 1) (r := [some (IN ns),some (nD k),some (nD c1),none]) (a := nD k) rfl (zbs (zaf (f := gv 0) (d := IN ns) rfl zai) (zbj _ _)) (zh9 k ns.length))
    by_cases hlt : k < ns.length
    · rw [decide_eq_true hlt] at t
      have hx : (ns.map D.int)[k]? = some (.int ns[k]) := by rw [List.getElem?_map,List.getElem?_eq_getElem hlt]; rfl
      have hp : powI (.int 10) (.int 60) = some (.int (10 ^ 60)) := by
        show zfD CPow _ _ _ = _
        rw [intsC_int,if_pos (by unfold CPow; decide)]
        rfl
      obtain ⟨c2,h2⟩ := zhg (f := f2 (gv 0) (gv 1) ixA) (f' := f2 (ci 10) (ci 60) powI) (r := [some (IN ns),some (nD k),some (nD c1),none]) ⟨ns[k],zao (a := IN ns) (b := nD k) rfl rfl (zk8 hx)⟩ (zao rfl rfl hp) (by decide)
      exact ⟨c2,(if_t t).trans ((zah (zaT h2)).trans rfl)⟩
    · rw [decide_eq_false hlt] at t
      exact ⟨c1,(if_f t).trans rfl⟩
  obtain ⟨c2,h2⟩ := key
  rw [zah h2]
  have kq : ∃ b,(fAnd (zaR (f2 (fC (zac (gv 0) lNil) lenD) (ci 0) gtI)) (zaR (f2 (f2 (f2 (gv 0) (ci 0) ixA) (ci 2) modI) (ci 0) eqD))) [some (IN ns),some (nD k),some (nD c2),none] = .ok b := by
    have t := zaH (zao (f := fC (zac (gv 0) lNil) lenD) (f' := fun _ => Res.ok (D.int 0)) (r := [some (IN ns),some (nD k),some (nD c2),none]) (b := nD 0) (zbs (zaf (d := IN ns) rfl zai) (zbj _ _)) rfl (zlf ns.length 0))
    cases ns with
    | nil => exact ⟨false,zok t⟩
    | cons a ns =>
      rw [decide_eq_true (by simp)] at t
      obtain ⟨c3,h3⟩ := zhg (f := f2 (gv 0) (ci 0) ixA) (f' := fun _ => Res.ok (D.int 2)) (r := [some (IN (a::ns)),some (nD k),some (nD c2),none]) ⟨a,zao (a := IN (a::ns)) (b := .int 0) rfl rfl (ixA_L0 _ _)⟩ rfl (by decide)
      exact ⟨_,(zoj t).trans (zaH (zao h3 (b := nD 0) rfl (zjv c3 0)))⟩
  obtain ⟨b,hb⟩ := kq
  cases b with
  | true => exact ⟨c2,zay ((if_t hb).trans (zay (zaD (d := nD c2) rfl)))⟩
  | false =>
    rw [zah ((if_f (s2 := zaj) hb).trans (e_skip _))]
    refine znh (zhg (zeg (exN (zhg (zeg (zju (zju (zju ⟨(c2 : Int),rfl⟩ (zeg (b := (k : Int)) (zeg (b := (k : Int)) ⟨7,rfl⟩ rfl (by omega)) rfl (by omega))) (zeg (b := (k : Int)) ⟨13,rfl⟩ rfl (by omega))) ⟨5,rfl⟩) rfl (by decide)) rfl (by decide))) rfl (by decide)) rfl (by decide)) fun c3 => ?_
    obtain ⟨c4,h4⟩ := zhg (f := (f2 (f2 (f2 (f2 (gv 3) (ci 1) addA) (ci 40692) mulI) (ci 2147483629) modI) (ci 39373) mulI)) (f' := fun _ => Res.ok (D.int 999999937)) (r := [some (IN ns),some (nD k),some (nD c2),some (nD c3)]) (zeg (exN (zhg (zeg (zju ⟨(c3 : Int),rfl⟩ ⟨1,rfl⟩) rfl (by decide)) rfl (by decide))) rfl (by decide)) rfl (by decide)
    exact ⟨c4,zay (zaD h4)⟩
theorem zjp {row : List Nat} {i : Int} {x : Nat} : insL (row.map nD) i (nD x) = (insL row i x).map nD := by
  unfold insL
  rw [List.length_map,List.map_append,List.map_cons,List.map_take,List.map_drop]
theorem zim {row : List Nat} {i : Int} {x : Nat} : (insL row i x).Perm (x::row) := by
  unfold insL
  refine List.perm_middle.trans ?_
  rw [List.take_append_drop]
theorem zgv (m : Nat) : ∀ (j i c : Nat) (row : List Nat) (x : Option D),row.Perm (List.range i)→i + j≤60 →
    ∃ (c' : Nat) (row' : List Nat) (x' : Option D),row'.Perm (List.range (i + j))∧forF (ftN 3) zdN ((List.range' i j).map nD) [some (nD c),some (nD m),some (LN row),x] = .nx [some (nD c'),some (nD m),some (LN row'),x']
  | 0,i,c,row,x,hp,_ => ⟨c,row,x,hp,zbM⟩
  | j + 1,i,c,row,x,hp,hl => by
    have hlen : row.length = i := by rw [hp.length_eq]; simp
    obtain ⟨c',row',x',h1,h2⟩ := zgv m j (i + 1) (c / (i + 1)) (insL row ((c % (i + 1) : Nat) : Int) i) (some (nD i)) (by
      refine zim.trans ?_
      rw [List.range_succ]
      exact (List.Perm.cons i hp).trans (List.perm_append_singleton i _).symm) (by omega)
    refine ⟨c',row',x',by rw [show i + (j + 1) = i + 1 + j by omega]; exact h1,?_⟩
    rw [← h2]
    have hmod : c % (i + 1) < i + 1 := Nat.mod_lt _ (by omega)
    refine zcp (r1 := [some (nD c),some (nD m),some (LN row),some (nD i)]) rfl ?_
    refine (zah (zfB (d := LN row) (ds := [nD (c % (i + 1)),nD i]) (d' := LN (insL row ((c % (i + 1) : Nat) : Int) i)) rfl rfl (zaf (zao (a := nD c) (b := nD (i + 1)) rfl (zao (a := nD i) (b := nD 1) rfl rfl (zej i 1)) (zgB (by omega))) (zaf (d := nD i) rfl zai)) ?_)).trans ?_
    · show (if _ then some (D.lst (insL _ _ _)) else none) = _
      rw [if_pos ⟨by rw [List.length_map,sizeLine_eq]; omega,by omega,by omega⟩,zjp]
    · exact zah (zaT (d := nD (c / (i + 1))) (zao (a := nD c) (b := nD (i + 1)) rfl (zao (a := nD i) (b := nD 1) rfl rfl (zej i 1)) (zgb (by omega) (by omega))))
theorem zkx (c m : Nat) (hm : m≤60) : ∃ row : List Nat,row.Perm (List.range m)∧zbU [nD c,nD m] = .ok (TN row) := by
  obtain ⟨c',row',x',h1,h2⟩ := zgv m m 0 c [] none (by simp) (by omega)
  rw [Nat.zero_add] at h1
  rw [← List.range_eq_range'] at h2
  refine ⟨row',h1,zaL (B := zcA) (n := 4) ?_⟩
  unfold zcA
  refine (zah (zaT (d := LN []) (zgC zai (by simp)))).trans ?_
  refine (zah ((zbr (ds := (List.range m).map nD) (zgc (zaf (d := nD m) rfl zai) (zhH (by omega)))).trans h2)).trans ?_
  exact zay (zaD (zbs (zaf (d := LN row') rfl zai) rfl))
end Law
end
section
namespace Law
open PySem L2 DL
theorem zgX (ns : List Int) (at' n m : Nat) (ha : at'≤60) (hn : n≤60) (hm : m≤60) : ∃ rows : List (List Nat),rows.length = n∧(∀ row∈rows,row.Perm (List.range m))∧zbm [IN ns,nD at',nD n,nD m] = .ok (WD rows) := by
  have h : ∀ h : Nat,∃ row : List Nat,h≤60→row.Perm (List.range m)∧∃ c : Nat,zaQ [IN ns,nD (at' + h)] = .ok (nD c)∧zbU [nD c,nD m] = .ok (TN row) := by
    intro h
    by_cases hh : h≤60
    · obtain ⟨c,hc⟩ := zeW ns (at' + h) (by omega)
      obtain ⟨row,h1,h2⟩ := zkx c m hm
      exact ⟨row,fun _ => ⟨h1,c,hc,h2⟩⟩
    · exact ⟨[],fun z => absurd z hh⟩
  obtain ⟨g,hg⟩ := Classical.axiomOfChoice h
  refine ⟨(List.range n).map g,by simp,fun row hr => ?_,zaL (B := zbo) (n := 4) ?_⟩
  · obtain ⟨i,hi,rfl⟩ := List.mem_map.mp hr
    exact (hg i (by have := List.mem_range.mp hi; omega)).1
  · unfold zbo
    refine zay (zaD (zbs (zaf (zbu (l := List.range n) nD (fun _ => true) (fun h => TN (g h)) (zgc (zaf (d := nD n) rfl zai) (zhH (by omega))) (by simp; omega) fun h hh => ⟨[some (nD h),some (nD m),some (IN ns),some (nD at')],rfl,rfl,fun _ => ?_⟩) zai) ?_))
    · obtain ⟨_,c,h1,h2⟩ := hg h (by have := List.mem_range.mp hh; omega)
      exact zak (zaf (zak (zaf (d := IN ns) rfl (zaf (zao (a := nD at') (b := nD h) rfl rfl (zej at' h)) zai)) h1) (zaf (d := nD m) rfl zai)) h2
    · rw [zaU,e_tupL]
      show some (D.tup _) = some (D.tup _)
      rw [List.map_map]; rfl
end Law
end
section
namespace Law
open PySem L2 DL
structure Own (owns : List (Option Nat)) (m : Nat) : Prop where
  lt : ∀ x,some x∈owns→x < m
  inj : ∀ h k x,own owns h = some x→own owns k = some x→h = k
theorem zhT {owns : List (Option Nat)} {h x : Nat} (e : own owns h = some x) : some x∈owns∧h < owns.length := by
  unfold own at e
  cases q : owns[h]? with
  | none => rw [q] at e; cases e
  | some o =>
    rw [q] at e
    have : o = some x := e
    subst this
    exact ⟨List.mem_of_getElem? q,(List.getElem?_eq_some_iff.mp q).1⟩
theorem zhU {owns : List (Option Nat)} {o : Option Nat} {h : Nat} : own (owns++[o]) h = if h < owns.length then own owns h else if h = owns.length then o else none := by
  unfold own
  by_cases q : h < owns.length
  · rw [if_pos q,List.getElem?_append_left q]
  · rw [if_neg q,List.getElem?_append_right (by omega)]
    by_cases z : h = owns.length
    · subst z; simp
    · rw [if_neg z,List.getElem?_eq_none (by simp; omega)]; rfl
theorem Own.app_none {owns : List (Option Nat)} {m : Nat} (w : Own owns m) : Own (owns++[none]) m where
  lt := fun x hx => w.lt x (by simpa using hx)
  inj := fun h k x h1 h2 => by
    rw [zhU] at h1 h2
    have f : ∀ h,(if h < owns.length then own owns h else if h = owns.length then none else none) = some x→own owns h = some x := by
      intro h e
      split at e
      · exact e
      · split at e <;> cases e
    exact w.inj h k x (f h h1) (f k h2)
theorem Own.app_some {owns : List (Option Nat)} {m t : Nat} (w : Own owns m) (ht : t < m) (hn : some t∉owns) : Own (owns++[some t]) m where
  lt := fun x hx => by
    rcases List.mem_append.mp hx with z | z
    · exact w.lt x z
    · simp at z; omega
  inj := fun h k x h1 h2 => by
    rw [zhU] at h1 h2
    split at h1 <;> split at h2
    · exact w.inj h k x h1 h2
    · split at h2
      · cases h2; exact absurd (zhT h1).1 hn
      · cases h2
    · split at h1
      · cases h1; exact absurd (zhT h2).1 hn
      · cases h1
    · split at h1
      · split at h2
        · omega
        · cases h2
      · cases h1
theorem anyO (l : List (Option Nat)) (k : Nat) : (l.map oD).any (fun y => eqs y (nD k)) = decide (some k∈l) := by
  rw [List.any_map,Bool.eq_iff_iff,List.any_eq_true,decide_eq_true_iff]
  constructor
  · rintro ⟨x,h1,h2⟩
    cases x with
    | none => cases h2
    | some x =>
      have : (((x : Nat) : Int) == (k : Int)) = true := h2
      have := Int.ofNat_inj.mp (eq_of_beq this)
      subst this; exact h1
  · intro h
    exact ⟨some k,h,by show (((k : Nat) : Int) == (k : Int)) = true; simp⟩
theorem zod (l : List (Option Nat)) : (l.map oD).all zbZ = true := by
  rw [List.all_eq_true]
  intro x hx
  obtain ⟨k,_,rfl⟩ := List.mem_map.mp hx
  cases k <;> rfl
theorem zn8 (l : List (Option Nat)) (k : Nat) : inD (nD k) (.lst (l.map oD)) = some (.bl (decide (some k∈l))) := by
  show (if zbZ (nD k) = true∧(l.map oD).all zbZ = true then some ((l.map oD).any fun y => eqs y (nD k)) else none).map D.bl = _
  rw [if_pos ⟨rfl,zod l⟩,anyO]; rfl
structure Scene (rows : List (List Nat)) (owns : List (Option Nat)) (o : Option (List Nat)) (n m : Nat) : Prop where
  n1 : 1≤n
  n7 : n≤7
  nm : n≤m
  m8 : m≤8
  rl : rows.length = n
  rp : ∀ row∈rows,row.Perm (List.range m)
  ow : Own owns m
  ol : owns.length = n
  op : ∀ l,o = some l→l.Perm (List.range n)
end Law
end
section
namespace Law
open PySem L2 DL
theorem zhV (n m : Nat) (hm : m≤60) : ∀ (l : List Nat) (c : Nat) (owns : List (Option Nat)) (x y : Option D),Own owns m→owns.length + l.length≤60 →
    ∃ (c' : Nat) (owns' : List (Option Nat)) (x' y' : Option D),Own owns' m∧owns'.length = owns.length + l.length∧forF (ftN 4) zb5 (l.map nD) [some (nD c),some (nD n),some (nD m),some (.lst (owns.map oD)),x,y] = .nx [some (nD c'),some (nD n),some (nD m),some (.lst (owns'.map oD)),x',y']
  | [],c,owns,x,y,w,_ => ⟨c,owns,x,y,w,rfl,zbM⟩
  | h::l,c,owns,x,y,w,hl => by
    have hmod : c % (m + 1) < m + 1 := Nat.mod_lt _ (by omega)
    have step : ∃ o,Own (owns++[o]) m∧zb5 [some (nD c),some (nD n),some (nD m),some (.lst (owns.map oD)),some (nD h),y] = .nx [some (nD (c / (m + 1))),some (nD n),some (nD m),some (.lst ((owns++[o]).map oD)),some (nD h),some (nD (c % (m + 1)))] := by
      have t1 := zaH (zao (f := gv 5) (f' := gv 2) (r := [some (nD (c / (m + 1))),some (nD n),some (nD m),some (.lst (owns.map oD)),some (nD h),some (nD (c % (m + 1)))]) (a := nD (c % (m + 1))) (b := nD m) rfl rfl (zjv (c % (m + 1)) m))
      have t2 := zaH (zao (f := gv 5) (f' := gv 3) (r := [some (nD (c / (m + 1))),some (nD n),some (nD m),some (.lst (owns.map oD)),some (nD h),some (nD (c % (m + 1)))]) (a := nD (c % (m + 1))) (b := .lst (owns.map oD)) rfl rfl (zn8 owns (c % (m + 1))))
      have pre : ∀ s2 : FS,seqF (setF q104 5 (f2 (gv 0) (f2 (gv 2) (ci 1) addA) modI)) (seqF (setF q104 0 (f2 (gv 0) (f2 (gv 2) (ci 1) addA) zfG)) s2) [some (nD c),some (nD n),some (nD m),some (.lst (owns.map oD)),some (nD h),y] = s2 [some (nD (c / (m + 1))),some (nD n),some (nD m),some (.lst (owns.map oD)),some (nD h),some (nD (c % (m + 1)))] := by
        intro s2
        refine (zah (zaT (d := nD (c % (m + 1))) (zao (a := nD c) (b := nD (m + 1)) rfl (zao (a := nD m) (b := nD 1) rfl rfl (zej m 1)) (zgB (by omega))))).trans ?_
        exact zah (zaT (d := nD (c / (m + 1))) (zao (a := nD c) (b := nD (m + 1)) rfl (zao (a := nD m) (b := nD 1) rfl rfl (zej m 1)) (zgb (by omega) (by omega))))
      have hlo : (owns.map oD).length≤1000 := by rw [List.length_map]; omega
      by_cases q : c % (m + 1) = m∨some (c % (m + 1))∈owns
      · refine ⟨none,w.app_none,(pre _).trans ((zah ((if_t ?_).trans (zah (zfB (d := .lst (owns.map oD)) (ds := [.non]) rfl rfl (zaf (d := .non) rfl zai) (zfd hlo))))).trans ?_)⟩
        · by_cases z : c % (m + 1) = m
          · rw [decide_eq_true z] at t1; exact or_t t1
          · rw [decide_eq_false z] at t1
            rw [decide_eq_true (q.resolve_left z)] at t2
            exact (or_f t1).trans t2
        · show Out.nx [_,_,_,some (D.lst (owns.map oD++[.non])),_,_] = _
          rw [List.map_append]; rfl
      · have z1 : ¬ c % (m + 1) = m := fun z => q (.inl z)
        have z2 : some (c % (m + 1))∉owns := fun z => q (.inr z)
        rw [decide_eq_false z1] at t1
        rw [decide_eq_false z2] at t2
        refine ⟨some (c % (m + 1)),w.app_some (by omega) z2,(pre _).trans ((zah ((if_f ((or_f t1).trans t2)).trans (zah (zfB (d := .lst (owns.map oD)) (ds := [nD (c % (m + 1))]) rfl rfl (zaf (d := nD (c % (m + 1))) rfl zai) (zfd hlo))))).trans ?_)⟩
        show Out.nx [_,_,_,some (D.lst (owns.map oD++[nD (c % (m + 1))])),_,_] = _
        rw [List.map_append]; rfl
    obtain ⟨o,w',hs⟩ := step
    obtain ⟨c',owns',x',y',h1,h2,h3⟩ := zhV n m hm l (c / (m + 1)) (owns++[o]) (some (nD h)) (some (nD (c % (m + 1)))) w' (by simp at hl ⊢; omega)
    refine ⟨c',owns',x',y',h1,by rw [h2]; simp; omega,?_⟩
    rw [← h3]
    exact zcp (r1 := [some (nD c),some (nD n),some (nD m),some (.lst (owns.map oD)),some (nD h),y]) rfl hs
theorem zi3 (c n m : Nat) (hn : n≤60) (hm : m≤60) : ∃ owns : List (Option Nat),Own owns m∧owns.length = n∧zb8 [nD c,nD n,nD m] = .ok (OD owns) := by
  obtain ⟨c',owns',x',y',h1,h2,h3⟩ := zhV n m hm (List.range n) c [] none none ⟨fun x hx => (nomatch hx),fun h k x e => by unfold own at e; simp at e⟩ (by simp; omega)
  refine ⟨owns',h1,by rw [h2]; simp,zaL (B := zch) (n := 6) ?_⟩
  unfold zch
  refine (zah (zaT (d := .lst []) (zgC zai (by simp)))).trans ?_
  refine (zah ((zbr (ds := (List.range n).map nD) (zgc (zaf (d := nD n) rfl zai) (zhH (by omega)))).trans h3)).trans ?_
  exact zay (zaD (zbs (zaf (d := .lst (owns'.map oD)) rfl zai) rfl))
end Law
end
section
namespace Law
open PySem PyProof.Rows L2 DL
theorem ze9 {T : String} {fo : FE} {fl : Rho→Res (List D)} {k : D→List D→Option D} {r : Rho} {d d' : D} {ds : List D} (h1 : fo r = .ok d) (ht : tyM T d = true) (h2 : fl r = .ok ds) (h3 : k d ds = some d') : fM T fo fl k r = .ok d' := by
  unfold fM; rw [h1,bind_ok,if_pos ht,h2,bind_ok,h3]; rfl
section
variable {a : Nat → Nat} {n : Nat}
end
end Law
end
section
namespace Law
open PySem PyProof.Rows L2 DL
theorem zfJ : ∀ l l' : List Nat,PyData.eqvAll (zbq (l.map nD)) (zbq (l'.map nD)) = decide (l = l')
  | [],[] => by simp [zbq,PyData.eqvAll]
  | [],k::l => by simp [zbq,PyData.eqvAll]
  | k::l,[] => by simp [zbq,PyData.eqvAll]
  | k::l,k'::l' => by
    have ih := zfJ l l'
    simp only [List.map_cons,zbq,toPy,PyData.eqvAll,PyData.eqv,ih]
    rw [Bool.eq_iff_iff]
    simp
    omega
theorem znE {l : List Nat} {k : Nat} : ∀ d∈l.map nD,Shp k d := by
  intro d hd
  obtain ⟨x,_,rfl⟩ := List.mem_map.mp hd
  cases k <;> trivial
theorem zkN {f : FE} {r : Rho} {i : Int} (h : f r = .ok (.int i)) : zjt f r = .ok (some i) := by unfold zjt; rw [h]; rfl
end Law
end
section
namespace Law
open PySem PyProof.Rows L2 DL PySem.Builtin PySem.Builtin.Str
noncomputable def jl (y : List Nat) : List (List Nat)→List Nat
  | [] => []
  | [p] => p
  | p::q::r => p++(y++jl y (q::r))
theorem zkn {c : Nat} : ∀ {p q r s : List Nat},c∉p→c∉q→p++c::r = q++c::s→p = q∧r = s
  | [],[],r,s,_,_,h => ⟨rfl,(List.cons.inj h).2⟩
  | [],b::q,r,s,_,hq,h => absurd (List.cons.inj h).1 (fun e => hq (by rw [e]; exact List.mem_cons_self))
  | a::p,[],r,s,hp,_,h => absurd (List.cons.inj h).1 (fun e => hp (by rw [← e]; exact List.mem_cons_self))
  | a::p,b::q,r,s,hp,hq,h => by
    obtain ⟨h1,h2⟩ := List.cons.inj h
    obtain ⟨e1,e2⟩ := zkn (fun z => hp (List.mem_cons_of_mem _ z)) (fun z => hq (List.mem_cons_of_mem _ z)) h2
    exact ⟨by rw [h1,e1],e2⟩
theorem zkg {c : Nat} {cs : List Nat} : ∀ {ps qs : List (List Nat)},ps≠[]→qs≠[]→(∀ p∈ps,c∉p)→(∀ q∈qs,c∉q)→jl (c::cs) ps = jl (c::cs) qs→ps = qs
  | [],_,h,_,_,_,_ => absurd rfl h
  | _::_,[],_,h,_,_,_ => absurd rfl h
  | [p],[q],_,_,_,_,h => by rw [show p = q from h]
  | [p],q::q'::s,_,_,hp,_,h => by
    have h : p = q++(c::cs++jl (c::cs) (q'::s)) := h
    exact absurd (by rw [h]; simp) (hp p List.mem_cons_self)
  | p::p'::r,[q],_,_,_,hq,h => by
    have h : p++(c::cs++jl (c::cs) (p'::r)) = q := h
    exact absurd (by rw [← h]; simp) (hq q List.mem_cons_self)
  | p::p'::r,q::q'::s,_,_,hp,hq,h => by
    have h : p++c::(cs++jl (c::cs) (p'::r)) = q++c::(cs++jl (c::cs) (q'::s)) := h
    obtain ⟨e1,e2⟩ := zkn (hp p List.mem_cons_self) (hq q List.mem_cons_self) h
    have e3 := List.append_cancel_left e2
    rw [e1,zkg (by simp) (by simp) (fun z hz => hp z (List.mem_cons_of_mem _ hz)) (fun z hz => hq z (List.mem_cons_of_mem _ hz)) e3]
theorem zmT {c : Nat} {cs : List Nat} (hcs : c∉cs) : ∀ {ps : List (List Nat)},(∀ p∈ps,c∉p)→∀ k,(jl (c::cs) ps)[k]? = some c→((jl (c::cs) ps).drop k).take (c::cs).length = c::cs
  | [],_,k,h => by simp [jl] at h
  | [p],hp,k,h => absurd (List.mem_of_getElem? h) (hp p List.mem_cons_self)
  | p::q::r,hp,k,h => by
    have e : jl (c::cs) (p::q::r) = p++((c::cs)++jl (c::cs) (q::r)) := rfl
    rw [e] at h ⊢
    by_cases h1 : k < p.length
    · rw [List.getElem?_append_left h1] at h
      exact absurd (List.mem_of_getElem? h) (hp p List.mem_cons_self)
    · obtain ⟨j,rfl⟩ : ∃ j,k = p.length + j := ⟨k - p.length,by omega⟩
      rw [List.getElem?_append_right (by omega),Nat.add_sub_cancel_left] at h
      rw [← List.drop_drop,List.drop_left]
      by_cases h2 : j < (c::cs).length
      · rw [List.getElem?_append_left h2] at h
        cases j with
        | zero => rw [List.drop_zero,List.take_left]
        | succ j =>
          rw [List.getElem?_cons_succ] at h
          exact absurd (List.mem_of_getElem? h) hcs
      · obtain ⟨i,rfl⟩ : ∃ i,j = (c::cs).length + i := ⟨j - (c::cs).length,by omega⟩
        rw [List.getElem?_append_right (by omega),Nat.add_sub_cancel_left] at h
        rw [← List.drop_drop,List.drop_left]
        exact zmT hcs (fun z hz => hp z (List.mem_cons_of_mem _ hz)) i h
theorem zdv (y : Str) : ∀ ps : List Str,(Str.join y ps).cps.toList = jl y.cps.toList (ps.map fun p => p.cps.toList)
  | [] => rfl
  | [p] => rfl
  | p::q::r => by
    have ih := zdv y (q::r)
    show (p++y++Str.join y (q::r)).cps.toList = p.cps.toList++(y.cps.toList++jl y.cps.toList ((q::r).map fun p => p.cps.toList))
    rw [← ih]
    simp only [Str.cps_append,Array.toList_append,List.append_assoc]
theorem zjn (x : Str) : 1≤Builtin.Str.strKind x := by
  unfold Builtin.Str.strKind
  split
  · exact Nat.le_refl _
  · split <;> decide
section
variable {c : Nat} {x y : Str}
theorem zgn {a b : Nat} (hA : ∀ k,x.cps.toList[k]? = some c→StrLaws.At x y x.length k) (hn : ∀ k,a≤k→k < b→¬ StrLaws.At x y x.length k) : c∉(strSub x a b).cps.toList := by
  intro hm
  rw [StrLaws.strSub_toList] at hm
  obtain ⟨j,hj⟩ := List.getElem?_of_mem hm
  have hlt : j < b - a := by
    have h1 := (List.getElem?_eq_some_iff.mp hj).1
    simp at h1
    omega
  rw [List.getElem?_take_of_lt hlt,List.getElem?_drop] at hj
  exact hn (a + j) (by omega) (by omega) (hA _ hj)
theorem zfF (hA : ∀ k,x.cps.toList[k]? = some c→StrLaws.At x y x.length k) : ∀ (cuts : List Nat) (a f : Nat),StrLaws.ChainG x y x.length a cuts f→(∀ k,f≤k→¬ StrLaws.At x y x.length k)→∀ p∈StrLaws.partsFrom x y.length a cuts,c∉p.cps.toList
  | [],a,f,h,hn,p,hp => by
    have h : f = a := h
    subst h
    rw [List.mem_singleton.mp hp]
    exact zgn hA fun k h1 _ => hn k h1
  | d::r,a,f,h,hn,p,hp => by
    rcases List.mem_cons.mp hp with e | e
    · rw [e]
      exact zgn hA h.2.2.1
    · exact zfF hA r _ f h.2.2.2 hn p e
theorem zeF {cs : List Nat} (hy : y.cps.toList = c::cs) (hk : Builtin.Str.strKind y = 1) (hcs : c∉cs) {ps : List Str} (hne : ps≠[]) (hf : ∀ p∈ps,c∉p.cps.toList) : Txt.split (Str.join y ps) y = ps := by
  have hl : y.length = (c::cs).length := by rw [← hy]; simp [Str.length]
  have hA : ∀ k,(Str.join y ps).cps.toList[k]? = some c→StrLaws.At (Str.join y ps) y (Str.join y ps).length k := by
    intro k h
    rw [zdv,hy] at h
    have h2 := zmT hcs (fun p hp => by obtain ⟨q,hq,rfl⟩ := List.mem_map.mp hp; exact hf q hq) k h
    rw [← hy,← zdv] at h2
    refine ⟨?_,?_⟩
    · have h3 := congrArg List.length h2
      have h4 : (Str.join y ps).cps.toList.length = (Str.join y ps).length := by simp [Str.length]
      rw [List.length_take,List.length_drop,h4,hy,List.length_cons] at h3
      rw [hl,List.length_cons]
      omega
    · rw [StrLaws.subAt_eq,hl,← hy]
      rw [h2]
      exact beq_self_eq_true _
  have free : ∀ q∈Txt.split (Str.join y ps) y,c∉q.cps.toList := by
    generalize Str.join y ps = x at hA
    have hpos : 1≤y.length := by rw [hl,List.length_cons]; omega
    have all : (∀ k,¬ StrLaws.At x y x.length k)→c∉x.cps.toList := fun h z => by
      obtain ⟨j,hj⟩ := List.getElem?_of_mem z
      exact h j (hA j hj)
    obtain ⟨f,g1,g2⟩ := StrLaws.occ_tight x y hpos
    unfold Txt.split
    split
    · rename_i h
      intro q hq
      rw [List.mem_singleton.mp hq]
      refine all fun k hk2 => ?_
      have := hk2.1
      have k1 := zjn x
      simp only [Bool.or_eq_true,decide_eq_true_eq] at h
      omega
    · split
      · rename_i h
        intro q hq
        rw [List.mem_singleton.mp hq]
        rw [List.isEmpty_iff.mp h] at g1
        have g1 : f = 0 := g1
        exact all fun k => g2 k (by omega)
      · rw [StrLaws.partsBetween_eq]
        exact zfF hA _ 0 f g1 g2
  have ne : Txt.split (Str.join y ps) y≠[] := by
    unfold Txt.split
    split
    · simp
    · split
      · simp
      · rw [StrLaws.partsBetween_eq]
        obtain ⟨p,r,e⟩ := StrLaws.partsFrom_ne (Str.join y ps) y.length 0 (occurrences (Str.join y ps) y 0 (Str.join y ps).length ((Str.join y ps).length + 1))
        rw [e]; simp
  have e : (Str.join y (Txt.split (Str.join y ps) y)).cps.toList = (Str.join y ps).cps.toList := by rw [StrLaws.join_split]
  rw [zdv y (Txt.split (Str.join y ps) y),zdv y ps,hy] at e
  have e2 := zkg (by simpa using ne) (by simpa using hne) (fun p hp => by obtain ⟨q,hq,rfl⟩ := List.mem_map.mp hp; exact free q hq) (fun p hp => by obtain ⟨q,hq,rfl⟩ := List.mem_map.mp hp; exact hf q hq) e
  exact (List.map_inj_right fun a b h => Str.ext' (Array.toList_inj.mp h)).mp e2
end
end Law
end
section
namespace Law
open PySem PyProof.Rows L2 DL
noncomputable abbrev letS (x : Nat) : Str := ⟨#[65 + x]⟩
noncomputable def word (x : Nat) (o : Option Nat) : Str := if o = some x then letS x++"*" else letS x
theorem by8 {p : Nat→Prop} (h0 : p 0) (h1 : p 1) (h2 : p 2) (h3 : p 3) (h4 : p 4) (h5 : p 5) (h6 : p 6) (h7 : p 7) {x : Nat} (h : x < 8) : p x := by
  match x,h with
  | 0,_ => exact h0
  | 1,_ => exact h1
  | 2,_ => exact h2
  | 3,_ => exact h3
  | 4,_ => exact h4
  | 5,_ => exact h5
  | 6,_ => exact h6
  | 7,_ => exact h7
theorem zkh {x : Nat} (h : x < 8) : ixA (.str "ABCDEFGH") (nD x) = some (.str (letS x)) :=
  by8 (p := fun x => ixA (.str "ABCDEFGH") (nD x) = some (.str (letS x))) (by kernel_rfl) (by kernel_rfl) (by kernel_rfl) (by kernel_rfl) (by kernel_rfl) (by kernel_rfl) (by kernel_rfl) (by kernel_rfl) h
theorem zgr {x : Nat} (h : x < 8) : zgW (.str "ABCDEFGH") [.str (letS x)] = some (nD x) :=
  by8 (p := fun x => zgW (.str "ABCDEFGH") [.str (letS x)] = some (nD x)) (by kernel_rfl) (by kernel_rfl) (by kernel_rfl) (by kernel_rfl) (by kernel_rfl) (by kernel_rfl) (by kernel_rfl) (by kernel_rfl) h
theorem zm4 {x : Nat} (h : x < 8) : inD (.str (letS x)) (.str "ABCDEFGH") = some (.bl true) :=
  by8 (p := fun x => inD (.str (letS x)) (.str "ABCDEFGH") = some (.bl true)) (by kernel_rfl) (by kernel_rfl) (by kernel_rfl) (by kernel_rfl) (by kernel_rfl) (by kernel_rfl) (by kernel_rfl) (by kernel_rfl) h
theorem zjx {x : Nat} (h : x < 8) : zge (.str (letS x)) [.str "*"] = some (.bl false) :=
  by8 (p := fun x => zge (.str (letS x)) [.str "*"] = some (.bl false)) (by kernel_rfl) (by kernel_rfl) (by kernel_rfl) (by kernel_rfl) (by kernel_rfl) (by kernel_rfl) (by kernel_rfl) (by kernel_rfl) h
theorem ziw {x : Nat} (h : x < 8) : zge (.str (letS x++"*")) [.str "*"] = some (.bl true) :=
  by8 (p := fun x => zge (.str (letS x++"*")) [.str "*"] = some (.bl true)) (by kernel_rfl) (by kernel_rfl) (by kernel_rfl) (by kernel_rfl) (by kernel_rfl) (by kernel_rfl) (by kernel_rfl) (by kernel_rfl) h
theorem zkt {x : Nat} (h : x < 8) : slX (.str (letS x++"*")) none (some (-1)) = some (.str (letS x)) :=
  by8 (p := fun x => slX (.str (letS x++"*")) none (some (-1)) = some (.str (letS x))) (by kernel_rfl) (by kernel_rfl) (by kernel_rfl) (by kernel_rfl) (by kernel_rfl) (by kernel_rfl) (by kernel_rfl) (by kernel_rfl) h
theorem zk4 {x : Nat} (h : x < 8) : lenD [.str (letS x)] = some (nD 1) :=
  by8 (p := fun x => lenD [.str (letS x)] = some (nD 1)) (by kernel_rfl) (by kernel_rfl) (by kernel_rfl) (by kernel_rfl) (by kernel_rfl) (by kernel_rfl) (by kernel_rfl) (by kernel_rfl) h
theorem zeR (x : Nat) (o : Option Nat) : (word x o).length≤2 := by
  unfold word
  split
  · rw [strLen_append]; exact Nat.le_refl 2
  · exact Nat.le_succ 1
theorem word_chr {x c : Nat} {o : Option Nat} (h : c∈(word x o).cps.toList) : c = 42∨65≤c := by
  unfold word at h
  split at h
  · have h : c∈(#[65 + x]++("*" : Str).cps).toList := h
    rw [Array.toList_append] at h
    rcases List.mem_append.mp h with z | z
    · right; have := List.mem_singleton.mp z; omega
    · left; exact List.mem_singleton.mp z
  · right; have := List.mem_singleton.mp (show c∈[65 + x] from h); omega
theorem ziO {a b : Str} (h : a.length + b.length≤1000) : addA (.str a) (.str b) = some (.str (a++b)) := by
  show (if a.length + b.length≤sizeLine then _ else _) = _
  rw [if_pos (by rw [sizeLine_eq]; omega)]
theorem zgp (x : Nat) : (letS x).length + (("*" : Str)).length≤1000 := by
  have h : (("*" : Str)).length = 1 := by decide +kernel
  rw [h]
  show 1 + 1≤1000
  decide
theorem zkm (x : Nat) (o : Option Nat) : eqD (nD x) (oD o) = some (.bl (decide (o = some x))) := by
  cases o with
  | none => rfl
  | some y =>
    rw [show oD (some y) = nD y from rfl,zjv]
    congr 2
    rw [decide_eq_decide]
    exact ⟨fun h => by rw [h],fun h => (Option.some.inj h).symm⟩
theorem zi2 {x : Nat} (o : Option Nat) (h : x < 8) : zby [nD x,oD o] = .ok (.str (word x o)) := by
  refine zaL (B := zb9) (n := 3) ?_
  unfold zb9
  refine (zah (r' := [some (nD x),some (oD o),some (.str (letS x))]) (zaT (zao (a := .str "ABCDEFGH") (b := nD x) rfl rfl (zkh h)))).trans (zay (zaD ?_))
  have t : zaR (f2 (gv 0) (gv 1) eqD) [some (nD x),some (oD o),some (.str (letS x))] = .ok (decide (o = some x)) := zaH (zao (a := nD x) (b := oD o) rfl rfl (zkm x o))
  unfold word
  by_cases c : o = some x
  · rw [decide_eq_true c] at t
    rw [if_pos c,znf t]
    exact zao (a := .str (letS x)) (b := .str "*") rfl rfl (ziO (zgp x))
  · rw [decide_eq_false c] at t
    rw [if_neg c,zng t]
    rfl
theorem zcN {x : Nat} (o : Option Nat) (h : x < 8) : zaw [.str (word x o)] = .ok (.bl (decide (o = some x))) := by
  refine zaL (B := zbJ) (n := 1) ?_
  unfold zbJ
  refine zay (zaD (ze9 (d := .str (word x o)) (ds := [.str "*"]) rfl rfl rfl ?_))
  unfold word
  by_cases c : o = some x
  · rw [if_pos c,decide_eq_true c]; exact ziw h
  · rw [if_neg c,decide_eq_false c]; exact zjx h
theorem zlN {fa : FE} {fl fh : FP} {r : Rho} {d d' : D} {lo hi : Option Int} (h1 : fa r = .ok d) (h2 : fl r = .ok lo) (h3 : fh r = .ok hi) (h4 : slX d lo hi = some d') : fSlX fa fl fh r = .ok d' := by
  unfold fSlX; rw [h1,bind_ok,h2,bind_ok,h3,bind_ok,h4]; rfl
theorem zdr {x : Nat} (o : Option Nat) (h : x < 8) : zaP [.str (word x o)] = .ok (.str (letS x)) := by
  refine zaL (B := zce) (n := 1) ?_
  unfold zce
  refine zay (zaD ?_)
  have t : fTru (zau (zac (gv 0) lNil) [] zaw) [some (.str (word x o))] = .ok (decide (o = some x)) := zbg (d := .bl (decide (o = some x))) (zak (zaf (d := .str (word x o)) rfl zai) (zcN o h)) rfl
  by_cases c : o = some x
  · rw [decide_eq_true c] at t
    refine (znf t).trans (zlN (d := .str (word x o)) (lo := none) (hi := some (-1)) rfl rfl (zkN (i := -1) rfl) ?_)
    unfold word
    rw [if_pos c]; exact zkt h
  · rw [decide_eq_false c] at t
    refine (zng t).trans ?_
    show Res.ok (D.str (word x o)) = _
    unfold word
    rw [if_neg c]
theorem zg0 {x : Nat} (o : Option Nat) (h : x < 8) : zdi [.str (word x o)] = .ok (.bl true) := by
  refine zaL (B := zdm) (n := 2) ?_
  unfold zdm
  refine (zah (r' := [some (.str (word x o)),some (.str (letS x))]) (zaT (zak (zaf (d := .str (word x o)) rfl zai) (zdr o h)))).trans (zay (zaD ?_))
  rw [zd0 (zao (a := nD 1) (b := nD 1) (zbs (zaf (d := .str (letS x)) rfl zai) (zk4 h)) rfl (zfa 1))]
  exact zao (a := .str (letS x)) (b := .str "ABCDEFGH") rfl rfl (zm4 h)
noncomputable def rowS (row : List Nat) (o : Option Nat) : Str := Str.join " " (row.map fun x => word x o)
noncomputable def zbO (rows : List (List Nat)) (owns : List (Option Nat)) : Str := Str.join "; " ((rows.zip owns).map fun p => rowS p.1 p.2)
theorem zeM : ∀ l : List Str,zdK (l.map D.str) = some l
  | [] => rfl
  | x::l => by
    show (zdK (l.map D.str)).map (x::·) = _
    rw [zeM l]; rfl
theorem zgH {sep : Str} {l : List Str} {B : Nat} (hB : ∀ y∈l,y.length≤B) (h : l.length * B + l.length * sep.length≤16777216) : zf8 (.str sep) [.lst (l.map D.str)] = some (.str (Str.join sep l)) := by
  show (match zdK (l.map D.str) with | some xs => if JoinOk sep xs = true then some (D.str (Txt.join sep xs)) else none | none => none) = _
  rw [zeM]
  have : JoinOk sep l = true := by unfold JoinOk; rw [StrLaws.joinFits hB h]; rfl
  simp only [this,if_true]
  show some (D.str (PySem.Builtin.Str.glued sep l)) = _
  rw [StrLaws.glued_eq_join]
theorem zdS {row : List Nat} (o : Option Nat) (hl : row.length≤8) : (rowS row o).length≤24 := by
  have h := StrLaws.join_length_le " " (row.map fun x => word x o)
  have h2 := StrLaws.sumLen_le (B := 2) (row.map fun x => word x o) (fun y hy => by obtain ⟨x,_,rfl⟩ := List.mem_map.mp hy; exact zeR x o)
  have h3 : ((" " : Str)).length = 1 := by decide +kernel
  rw [h3,List.length_map] at h
  rw [List.length_map] at h2
  unfold rowS
  omega
theorem zhG {rows : List (List Nat)} {owns : List (Option Nat)} (hl : ∀ row∈rows,row.length≤8) (hn : rows.length≤7) : (zbO rows owns).length≤1000 := by
  have h := StrLaws.join_length_le "; " ((rows.zip owns).map fun p => rowS p.1 p.2)
  have h2 := StrLaws.sumLen_le (B := 24) ((rows.zip owns).map fun p => rowS p.1 p.2) (fun y hy => by obtain ⟨p,hp,rfl⟩ := List.mem_map.mp hy; exact zdS p.2 (hl p.1 (List.of_mem_zip hp).1))
  have h3 : (("; " : Str)).length = 2 := by decide +kernel
  have h4 : (rows.zip owns).length≤7 := by rw [List.length_zip]; exact Nat.le_trans (Nat.min_le_left _ _) hn
  rw [h3,List.length_map] at h
  rw [List.length_map] at h2
  unfold zbO
  omega
theorem zf3 {row : List Nat} (o : Option Nat) (hb : ∀ x∈row,x < 8) (hl : row.length≤8) : zbT [TN row,oD o] = .ok (.str (rowS row o)) := by
  refine zaL (B := zcy) (n := 2) ?_
  unfold zcy
  have e : zbi 1 [1] (fSeq za2 (gv 0)) (ftN 0) (fun _ => Res.ok true) (zau (zac (gv 0) (zac (gv 1) lNil)) [] zby) (zal 2 [TN row,oD o]) = .ok (.lst ((row.map fun x => word x o).map D.str)) := by
    refine (zbu (l := row) nD (fun _ => true) (fun x => .str (word x o)) (zbF (d := TN row) rfl rfl) (by omega) fun x hx => ⟨[some (nD x),some (oD o)],rfl,rfl,fun _ => zak (zaf (d := nD x) rfl (zaf (d := oD o) rfl zai)) (zi2 o (hb x hx))⟩).trans ?_
    rw [zaU,List.map_map]; rfl
  have h3 : ((" " : Str)).length = 1 := by decide +kernel
  exact zay (zaD (ze9 (d := .str " ") rfl rfl (zaf e zai) (zgH (B := 2) (fun y hy => by obtain ⟨x,_,rfl⟩ := List.mem_map.mp hy; exact zeR x o) (by rw [h3,List.length_map]; omega))))
theorem ziv {fa fb : FE} {r : Rho} {d e : DL.D} {ds es : List DL.D} (h1 : fa r = .ok d) (h2 : fb r = .ok e) (h3 : za2 d = some ds) (h4 : za2 e = some es) : fZip fa fb r = .ok (List.zipWith (fun a b => DL.D.tup [a,b]) ds es) := by
  unfold fZip; rw [h1,bind_ok,h2,bind_ok,h3,opt_some,bind_ok,h4,opt_some,bind_ok]
theorem zlu (rows : List (List Nat)) (owns : List (Option Nat)) : List.zipWith (fun a b => DL.D.tup [a,b]) (rows.map TN) (owns.map oD) = (rows.zip owns).map fun p => .tup [TN p.1,oD p.2] := by
  rw [List.zipWith_map,List.zip,List.map_zipWith]
theorem zfr {rows : List (List Nat)} {owns : List (Option Nat)} (hb : ∀ row∈rows,∀ x∈row,x < 8) (hl : ∀ row∈rows,row.length≤8) (hn : rows.length≤7) : zb7 [WD rows,OD owns] = .ok (.str (zbO rows owns)) := by
  refine zaL (B := zcc) (n := 2) ?_
  unfold zcc
  have h4 : (rows.zip owns).length≤7 := by rw [List.length_zip]; exact Nat.le_trans (Nat.min_le_left _ _) hn
  have e : zbi 2 [] (fZip (gv 0) (gv 1)) (ftT (zaE (ftN 0) (zaE (ftN 1) zc4))) (fun _ => Res.ok true) (zau (zac (gv 0) (zac (gv 1) lNil)) [] zbT) (zal 2 [WD rows,OD owns]) = .ok (.lst (((rows.zip owns).map fun p => rowS p.1 p.2).map D.str)) := by
    refine (zbu (l := rows.zip owns) (fun p => .tup [TN p.1,oD p.2]) (fun _ => true) (fun p => .str (rowS p.1 p.2)) ((ziv (d := WD rows) (e := OD owns) rfl rfl rfl rfl).trans (by rw [zlu])) (by omega) fun p hp => ⟨[some (TN p.1),some (oD p.2)],rfl,rfl,fun _ => zak (zaf (d := TN p.1) rfl (zaf (d := oD p.2) rfl zai)) (zf3 p.2 (hb p.1 (List.of_mem_zip hp).1) (hl p.1 (List.of_mem_zip hp).1))⟩).trans ?_
    rw [zaU,List.map_map]; rfl
  have h3 : (("; " : Str)).length = 2 := by decide +kernel
  exact zay (zaD (ze9 (d := .str "; ") rfl rfl (zaf e zai) (zgH (B := 24) (fun y hy => by obtain ⟨p,hp,rfl⟩ := List.mem_map.mp hy; exact zdS p.2 (hl p.1 (List.of_mem_zip hp).1)) (by rw [h3,List.length_map]; omega))))
end Law
end
section
namespace Law
open PySem PyProof.Rows L2 DL
theorem mem_jl {c : Nat} {y : List Nat} : ∀ {ps : List (List Nat)},c∈jl y ps→c∈y∨∃ p∈ps,c∈p
  | [],h => by cases h
  | [p],h => .inr ⟨p,List.mem_cons_self,h⟩
  | p::q::r,h => by
    rcases List.mem_append.mp (show c∈p++(y++jl y (q::r)) from h) with z | z
    · exact .inr ⟨p,List.mem_cons_self,z⟩
    · rcases List.mem_append.mp z with z | z
      · exact .inl z
      · rcases mem_jl z with z | ⟨p',h1,h2⟩
        · exact .inl z
        · exact .inr ⟨p',List.mem_cons_of_mem _ h1,h2⟩
theorem zjV : ((" " : Str)).cps.toList = [32] := by kernel_rfl
theorem zlP : (("; " : Str)).cps.toList = [59,32] := by kernel_rfl
theorem rowS_chr {row : List Nat} {o : Option Nat} {c : Nat} (h : c∈(rowS row o).cps.toList) : c = 32∨c = 42∨65≤c := by
  unfold rowS at h
  rw [zdv,zjV] at h
  rcases mem_jl h with z | ⟨p,h1,h2⟩
  · exact .inl (List.mem_singleton.mp z)
  · rw [List.map_map] at h1
    obtain ⟨x,_,rfl⟩ := List.mem_map.mp h1
    exact .inr (word_chr h2)
noncomputable abbrev WS (row : List Nat) (o : Option Nat) : D := .lst (row.map fun x => D.str (word x o))
theorem zhu {a b : Str} (h1 : 0 < b.length) (h2 : a.length≤10000) : zd5 (.str a) [.str b] = some (.lst ((Txt.split a b).map D.str)) := by
  show (if 0 < b.length∧a.length≤10000 then some (D.lst ((Txt.split a b).map D.str)) else none) = _
  rw [if_pos ⟨h1,h2⟩]
theorem zfU {row : List Nat} (o : Option Nat) (hne : row≠[]) (hl : row.length≤8) : zd5 (.str (rowS row o)) [.str " "] = some (WS row o) := by
  rw [zhu (by decide +kernel) (by have := zdS (row := row) o hl; omega)]
  unfold rowS
  rw [zeF zjV (by decide +kernel) (by simp) (by simpa using hne) (fun p hp => ?_),List.map_map]
  · rfl
  · obtain ⟨x,_,rfl⟩ := List.mem_map.mp hp
    intro z
    rcases word_chr z with e | e <;> omega
theorem zgU {rows : List (List Nat)} {owns : List (Option Nat)} (hne : rows.zip owns≠[]) (hl : ∀ row∈rows,row.length≤8) (hn : rows.length≤7) : zd5 (.str (zbO rows owns)) [.str "; "] = some (.lst ((rows.zip owns).map fun p => D.str (rowS p.1 p.2))) := by
  rw [zhu (by decide +kernel) (by have := zhG (owns := owns) hl hn; omega)]
  unfold zbO
  rw [zeF zlP (by decide +kernel) (by simp) (by simpa using hne) (fun p hp => ?_),List.map_map]
  · rfl
  · obtain ⟨x,_,rfl⟩ := List.mem_map.mp hp
    intro z
    rcases rowS_chr z with e | e | e <;> omega
section
variable {row : List Nat} {o : Option Nat}
theorem zmH {y : Nat} : ∀ {l : List Nat},l.Nodup→(∀ x∈l,x = y)→l.length < 2
  | [],_,_ => by simp
  | [a],_,_ => by simp
  | a::b::r,hn,h => by
    have h1 := h a List.mem_cons_self
    have h2 := h b (List.mem_cons_of_mem _ List.mem_cons_self)
    rw [List.nodup_cons] at hn
    exact absurd (by rw [h1,← h2]; exact List.mem_cons_self) hn.1
theorem zga (hn : row.Nodup) : (row.filter fun x => decide (o = some x)).length < 2 := by
  cases o with
  | none => rw [List.filter_eq_nil_iff.mpr (fun x _ => by simp)]; simp
  | some y =>
    refine zmH (y := y) (List.Nodup.sublist List.filter_sublist hn) fun x hx => ?_
    have := (List.mem_filter.mp hx).2
    simp at this
    exact this.symm
theorem zjN {f : FE} {fi : FI} {nl : Nat} {cap : List Nat} {ft : FT} {r : Rho} {zs : List D} (h1 : fi r = .ok zs) (hl : zs.length≤1000) (h2 : ∀ d∈zs,∃ r1,ft d (capR nl cap r) = some r1∧f r1 = .ok (.bl true)) : fC (zac (zbi nl cap fi ft (fun _ => Res.ok true) f) lNil) allD r = .ok (.bl true) := by
  have e := zbu (nl := nl) (cap := cap) (fi := fi) (ft := ft) (q := fun _ => Res.ok true) (fe := f) (r := r) (l := zs) id (fun _ => true) (fun _ => .bl true) (by rw [List.map_id]; exact h1) hl (fun d hd => by
    obtain ⟨r1,a,b⟩ := h2 d hd
    exact ⟨r1,a,rfl,fun _ => b⟩)
  refine zbs (zaf e zai) ?_
  rw [zaU]
  show (zc7 _).map (fun bs => D.bl (bs.all id)) = _
  have : ∀ l : List D,zc7 (l.map fun _ => D.bl true) = some (l.map fun _ => true) := by
    intro l
    induction l with
    | nil => rfl
    | cons d l ih => simp [zc7,ih]
  rw [this]
  simp
theorem zfQ {f : FE} {fi : FI} {nl : Nat} {cap : List Nat} {ft : FT} {r : Rho} {zs : List D} (h1 : fi r = .ok zs) (hl : zs.length≤1000) (h2 : ∀ d∈zs,∃ r1,ft d (capR nl cap r) = some r1∧f r1 = .ok (.bl false)) : fC (zac (zbi nl cap fi ft (fun _ => Res.ok true) f) lNil) anyD r = .ok (.bl false) := by
  have e := zbu (nl := nl) (cap := cap) (fi := fi) (ft := ft) (q := fun _ => Res.ok true) (fe := f) (r := r) (l := zs) id (fun _ => true) (fun _ => .bl false) (by rw [List.map_id]; exact h1) hl (fun d hd => by
    obtain ⟨r1,a,b⟩ := h2 d hd
    exact ⟨r1,a,rfl,fun _ => b⟩)
  refine zbs (zaf e zai) ?_
  rw [zaU]
  show (zc7 _).map (fun bs => D.bl (bs.any id)) = _
  have : ∀ l : List D,zc7 (l.map fun _ => D.bl false) = some (l.map fun _ => false) := by
    intro l
    induction l with
    | nil => rfl
    | cons d l ih => simp [zc7,ih]
  rw [this]
  simp
theorem zg1 (hn : row.Nodup) (hb : ∀ x∈row,x < 8) (hl : row.length≤8) : zdj [WS row o] = .ok (.bl true) := by
  refine zaL (B := zdn) (n := 2) ?_
  unfold zdn
  refine (zah (r' := [some (WS row o),some (.lst ((row.filter fun x => decide (o = some x)).map fun x => D.str (word x o)))]) (zaT (zbu (l := row) (fun x => D.str (word x o)) (fun x => decide (o = some x)) (fun x => D.str (word x o)) (zbF (d := WS row o) rfl rfl) (by omega) fun x hx => ⟨[some (.str (word x o))],rfl,zbg (d := .bl (decide (o = some x))) (zak (zaf (d := .str (word x o)) rfl zai) (zcN o (hb x hx))) rfl,fun _ => rfl⟩))).trans (zay (zaD ?_))
  have hf := zga (row := row) (o := o) hn
  rw [zd0 (zao (a := nD (row.filter fun x => decide (o = some x)).length) (b := nD 2) (zbs (zaf (d := .lst ((row.filter fun x => decide (o = some x)).map fun x => D.str (word x o))) rfl zai) (zbj _ _)) rfl (by rw [zh9,decide_eq_true hf]))]
  refine zjN (zs := row.map fun x => D.str (word x o)) (zbF (d := WS row o) rfl rfl) (by rw [List.length_map]; omega) fun d hd => ?_
  obtain ⟨x,hx,rfl⟩ := List.mem_map.mp hd
  exact ⟨[some (.str (word x o))],rfl,zak (zaf (d := .str (word x o)) rfl zai) (zg0 o (hb x hx))⟩
theorem zhD (hb : ∀ x∈row,x < 8) (hl : row.length≤8) : zdf [WS row o] = .ok (LN row) := by
  refine zaL (B := zdY) (n := 1) ?_
  unfold zdY
  refine zay (zaD ((zbu (l := row) (fun x => D.str (word x o)) (fun _ => true) nD (zbF (d := WS row o) rfl rfl) (by omega) fun x hx => ⟨[some (.str (word x o))],rfl,rfl,fun _ => ?_⟩).trans (by rw [zaU])))
  exact ze9 (d := .str "ABCDEFGH") rfl rfl (zaf (d := .str (letS x)) (zak (zaf (d := .str (word x o)) rfl zai) (zdr o (hb x hx))) zai) (zgr (hb x hx))
theorem zhZ {W : D} : ∀ (l : List Nat) (x1 : Option D),(∀ x∈l,x < 8) →
    (∀ y,o = some y→y∈l→forF (ftN 1) zbS (l.map fun x => D.str (word x o)) [some W,x1] = .rt (nD y)) ∧
    ((∀ y,o = some y→y∉l)→∃ y1,forF (ftN 1) zbS (l.map fun x => D.str (word x o)) [some W,x1] = .nx [some W,y1])
  | [],x1,_ => ⟨fun y _ h => (nomatch h),fun _ => ⟨x1,zbM⟩⟩
  | x::l,x1,hb => by
    have hx := hb x List.mem_cons_self
    obtain ⟨i1,i2⟩ := zhZ (W := W) l (some (.str (word x o))) fun z hz => hb z (List.mem_cons_of_mem _ hz)
    have t : fTru (zau (zac (gv 1) lNil) [] zaw) [some W,some (.str (word x o))] = .ok (decide (o = some x)) := zbg (d := .bl (decide (o = some x))) (zak (zaf (d := .str (word x o)) rfl zai) (zcN o hx)) rfl
    by_cases c : o = some x
    · rw [decide_eq_true c] at t
      refine ⟨fun y ey _ => ?_,fun h => absurd List.mem_cons_self (h x c)⟩
      have : y = x := by rw [c] at ey; exact (Option.some.inj ey).symm
      subst this
      refine zne (r1 := [some W,some (.str (word y o))]) rfl (zay ((if_t t).trans (zay (zaD ?_))))
      exact ze9 (d := .str "ABCDEFGH") rfl rfl (zaf (d := .str (letS y)) (zak (zaf (d := .str (word y o)) rfl zai) (zdr o hx)) zai) (zgr hx)
    · rw [decide_eq_false c] at t
      have st : forF (ftN 1) zbS ((x::l).map fun x => D.str (word x o)) [some W,x1] = forF (ftN 1) zbS (l.map fun x => D.str (word x o)) [some W,some (.str (word x o))] :=
        zcp (r1 := [some W,some (.str (word x o))]) rfl (zah ((if_f t).trans (e_skip _)))
      rw [st]
      refine ⟨fun y ey hy => i1 y ey ?_,fun h => i2 fun y ey hy => h y ey (List.mem_cons_of_mem _ hy)⟩
      rcases List.mem_cons.mp hy with z | z
      · exact absurd (by rw [← z]; exact ey) c
      · exact z
theorem zhE (hb : ∀ x∈row,x < 8) (ho : ∀ y,o = some y→y∈row) : zdh [WS row o] = .ok (oD o) := by
  obtain ⟨i1,i2⟩ := zhZ (o := o) (W := WS row o) row none hb
  refine zaL (B := zdZ) (n := 2) ?_
  unfold zdZ
  cases o with
  | none =>
    obtain ⟨y1,h⟩ := i2 fun y ey => nomatch ey
    exact (zah ((zbr (zbF (d := WS row none) rfl rfl)).trans h)).trans (zay (zaD rfl))
  | some y => exact zay ((zbr (zbF (d := WS row (some y)) rfl rfl)).trans (i1 y rfl (ho y rfl)))
end
end Law
end
section
namespace Law
open PySem PyProof.Rows L2 DL
structure Txs (rows : List (List Nat)) (owns : List (Option Nat)) (n m : Nat) : Prop where
  n1 : 1≤n
  n7 : n≤7
  nm : n≤m
  m8 : m≤8
  rl : rows.length = n
  rp : ∀ row∈rows,row.Perm (List.range m)
  ow : Own owns m
  ol : owns.length = n
section
variable {rows : List (List Nat)} {owns : List (Option Nat)} {n m : Nat}
theorem Txs.bd (S : Txs rows owns n m) : ∀ row∈rows,∀ x∈row,x < m := fun row hr x hx => List.mem_range.mp ((S.rp row hr).mem_iff.mp hx)
theorem Txs.b8 (S : Txs rows owns n m) : ∀ row∈rows,∀ x∈row,x < 8 := fun row hr x hx => Nat.lt_of_lt_of_le (S.bd row hr x hx) S.m8
theorem Txs.len (S : Txs rows owns n m) : ∀ row∈rows,row.length = m := fun row hr => by rw [(S.rp row hr).length_eq]; simp
theorem Txs.l8 (S : Txs rows owns n m) : ∀ row∈rows,row.length≤8 := fun row hr => by rw [S.len row hr]; exact S.m8
theorem Txs.nd (S : Txs rows owns n m) : ∀ row∈rows,row.Nodup := fun row hr => (S.rp row hr).nodup_iff.mpr List.nodup_range
theorem Txs.zl (S : Txs rows owns n m) : (rows.zip owns).length = n := by rw [List.length_zip,S.rl,S.ol,Nat.min_self]
theorem Txs.zr (S : Txs rows owns n m) {p : List Nat × Option Nat} (h : p∈rows.zip owns) : p.1∈rows∧p.2∈owns := List.of_mem_zip h
theorem zho {W : D} : ∀ (l : List (List Nat)) (k : Nat) (x y : Option D),(∀ row∈l,row.Nodup∧(∀ z∈row,z < m)∧row.length = m)→m≤8→∃ x' y',forF (ftT (zaE (ftN 2) (zaE (ftN 3) zc4))) zda (enuD k (l.map LN)) [some W,some (nD m),x,y] = .nx [some W,some (nD m),x',y']
  | [],k,x,y,_,_ => ⟨x,y,zbM⟩
  | row::l,k,x,y,h,hm => by
    obtain ⟨x',y',ih⟩ := zho (W := W) l (k + 1) (some (nD k)) (some (LN row)) (fun r hr => h r (List.mem_cons_of_mem _ hr)) hm
    obtain ⟨h1,h2,h3⟩ := h row List.mem_cons_self
    refine ⟨x',y',?_⟩
    rw [← ih]
    refine zcp (r1 := [some W,some (nD m),some (nD k),some (LN row)]) rfl (zah ((if_f ?_).trans (e_skip _)))
    exact zdI (b := true) (zbg (d := .bl true) (zak (zaf (d := LN row) rfl (zaf (d := nD m) rfl zai)) (zky h1 h2 h3 (by omega))) rfl)
theorem zlj {m : List Md} {f : FE} {r : Rho} {d : D} (h : f r = .ok d) : zjz m f r = .nx r := by unfold zjz; rw [h]; rfl
theorem zkz {zs : List D} (h1 : 1≤zs.length) (h7 : zs.length≤7) : zax [.lst zs] = .ok .non := by
  show outR false (zaq (zal 1 [.lst zs])) = _
  have ln : fC (zac (gv 0) lNil) lenD (zal 1 [.lst zs]) = .ok (nD zs.length) := zbs (zaf (d := .lst zs) rfl zai) rfl
  have : zaq (zal 1 [.lst zs]) = .nx [some (.lst zs)] := by
    unfold zaq
    refine zah ((if_f ?_).trans (e_skip _))
    refine (or_f (zaH (zao (a := nD zs.length) (b := nD 1) ln rfl (by rw [zh9,decide_eq_false (by omega)])))).trans (zaH (zao (a := nD zs.length) (b := nD 7) ln rfl (by rw [zlf,decide_eq_false (by omega)])))
  rw [this]; rfl
theorem zl1 (S : Txs rows owns n m) : zb6 [.lst (rows.map LN)] = .ok (WD rows) := by
  have hn := S.rl
  have hn1 := S.n1
  have hn7 := S.n7
  have hm8 := S.m8
  have hnm := S.nm
  obtain ⟨x',y',hl⟩ := zho (W := .lst (rows.map LN)) (m := m) rows 0 none none (fun row hr => ⟨S.nd row hr,S.bd row hr,S.len row hr⟩) S.m8
  obtain ⟨r0,e0,h0⟩ : ∃ r0,(rows.map LN)[0]? = some (LN r0)∧r0.length = m := by
    cases rows with
    | nil => simp at hn; omega
    | cons r t => exact ⟨r,rfl,S.len r List.mem_cons_self⟩
  refine zaL (B := zca) (n := 4) ?_
  unfold zca
  refine (zah (zlj (zak (zaf (d := .lst (rows.map LN)) rfl zai) (zkz (by rw [List.length_map]; omega) (by rw [List.length_map]; omega))))).trans ?_
  refine (zah (r' := [some (.lst (rows.map LN)),some (nD m),none,none]) (zaT (zbs (zaf (d := LN r0) (zao (a := .lst (rows.map LN)) (b := nD 0) rfl rfl (zk8 e0)) zai) (by rw [zbj,h0])))).trans ?_
  refine (zah ((if_f ?_).trans (e_skip _))).trans ?_
  · refine (or_f (zaH (zao (a := nD m) (b := nD n) rfl (zbs (zaf (d := .lst (rows.map LN)) rfl zai) (by rw [zbj,hn])) (by rw [zh9,decide_eq_false (by omega)])))).trans (zaH (zao (a := nD m) (b := nD 8) rfl rfl (by rw [zlf,decide_eq_false (by omega)])))
  refine (zah ((zbr (ds := enuD 0 (rows.map LN)) rfl).trans hl)).trans (zay (zaD ?_))
  refine zbs (zaf (d := .lst (rows.map TN)) ((zbu (l := rows) LN (fun _ => true) TN (zbF (d := .lst (rows.map LN)) rfl rfl) (by omega) fun row hr => ⟨[some (LN row)],rfl,rfl,fun _ => zbs (zaf (d := LN row) rfl zai) rfl⟩).trans (by rw [zaU])) zai) rfl
theorem zlc (pre : List Nat) (k : Nat) : inD (nD k) (zbL pre) = some (.bl (decide (k∈pre))) := by
  show (some (hasK _ (kI k))).map D.bl = _
  rw [ziq,List.map_map]
  have : decide (k∈pre.map ((fun p : Nat × D => p.1) ∘ fun k => (k,D.bl true))) = decide (k∈pre) := by
    rw [decide_eq_decide]; simp [Function.comp_def]
  rw [this]; rfl
theorem ziX {pre : List Nat} {k : Nat} (hk : k∉pre) (hl : pre.length≤60) : stoD (zbL pre) (nD k) (.bl true) = some (zbL (pre++[k])) := by
  show (if _ then some (D.dic (putD _ (kI k) (.bl true))) else none) = _
  rw [if_pos (by rw [List.length_map,List.length_map,sizeLine_eq]; omega),zgx _ _ _ (by rw [List.map_map]; simpa [Function.comp_def] using hk)]
  simp
theorem zeY {W T : D} (hW : za8 [W] = .ok (nD m)) : ∀ (l : List (Option Nat)) (pre : List Nat) (k : Nat) (x y : Option D),(∀ z,some z∈l→z < m∧z∉pre)→(∀ (i j : Nat) z,l[i]? = some (some z)→l[j]? = some (some z)→i = j)→pre.length + l.length≤60→∃ pre' x' y',forF (ftT (zaE (ftN 3) (zaE (ftN 4) zc4))) zeu (enuD k (l.map oD)) [some W,some T,some (zbL pre),x,y] = .nx [some W,some T,some (zbL pre'),x',y']
  | [],pre,k,x,y,_,_,_ => ⟨pre,x,y,zbM⟩
  | none::l,pre,k,x,y,h,hi,hl => by
    simp only [List.length_cons] at hl
    obtain ⟨pre',x',y',ih⟩ := zeY (T := T) hW l pre (k + 1) (some (nD k)) (some .non) (fun z hz => h z (List.mem_cons_of_mem _ hz)) (fun i j z h1 h2 => by have := hi (i + 1) (j + 1) z h1 h2; omega) (by omega)
    refine ⟨pre',x',y',?_⟩
    rw [← ih]
    exact zcp (r1 := [some W,some T,some (zbL pre),some (nD k),some .non]) rfl (zah ((if_f (zaH (zao (a := .non) (b := .non) (d := .bl false) rfl rfl rfl))).trans (e_skip _)))
  | some a::l,pre,k,x,y,h,hi,hl => by
    simp only [List.length_cons] at hl
    obtain ⟨ha,hap⟩ := h a List.mem_cons_self
    obtain ⟨pre',x',y',ih⟩ := zeY (T := T) hW l (pre++[a]) (k + 1) (some (nD k)) (some (nD a)) (fun z hz => by
      refine ⟨(h z (List.mem_cons_of_mem _ hz)).1,fun hm => ?_⟩
      rcases List.mem_append.mp hm with e | e
      · exact (h z (List.mem_cons_of_mem _ hz)).2 e
      · obtain ⟨j,hj⟩ := List.getElem?_of_mem hz
        have e := List.mem_singleton.mp e
        subst e
        have := hi 0 (j + 1) z rfl hj
        omega) (fun i j z h1 h2 => by have := hi (i + 1) (j + 1) z h1 h2; omega) (by simp; omega)
    refine ⟨pre',x',y',?_⟩
    rw [← ih]
    refine zcp (r1 := [some W,some T,some (zbL pre),some (nD k),some (nD a)]) rfl (zah ((if_t (zaH (zao (a := nD a) (b := .non) (d := .bl true) rfl rfl rfl))).trans ?_))
    refine (zah ((if_f ?_).trans (e_skip _))).trans (zah (zjZ (d := zbL pre) (k := nD a) (v := .bl true) (d' := zbL (pre++[a])) rfl rfl rfl (ziX hap (by omega))))
    have hb := zdH a m
    rw [decide_eq_true ha] at hb
    refine (or_f (zdI (b := true) (zbg (d := .bl true) (zak (zaf (d := nD a) rfl (zaf (d := nD m) (zak (zaf (d := W) rfl zai) hW) zai)) hb) rfl))).trans (zaH (zao (a := nD a) (b := zbL pre) rfl rfl ?_))
    rw [zlc,decide_eq_false hap]
theorem zf2 (S : Txs rows owns n m) : za8 [WD rows] = .ok (nD m) := by
  have hn := S.rl
  have hn1 := S.n1
  cases rows with
  | nil => simp at hn; omega
  | cons r t => rw [zgZ,S.len r List.mem_cons_self]
theorem zl2 (S : Txs rows owns n m) : zdg [WD rows,.lst (owns.map oD)] = .ok (OD owns) := by
  have ho := S.ol
  have hn7 := S.n7
  obtain ⟨pre',x',y',hl⟩ := zeY (T := .lst (owns.map oD)) (zf2 S) owns [] 0 none none (fun z hz => ⟨S.ow.lt z hz,by simp⟩) (fun i j z h1 h2 => S.ow.inj i j z (by unfold own; rw [h1]; rfl) (by unfold own; rw [h2]; rfl)) (by simp; omega)
  refine zaL (B := zdl) (n := 5) ?_
  unfold zdl
  refine (zah ((if_f (zaH (zao (a := nD n) (b := nD n) (d := .bl false) (zbs (zaf (d := .lst (owns.map oD)) rfl zai) (by rw [zbj,ho])) (zbs (zaf (d := WD rows) rfl zai) (by rw [zgE,S.rl])) ?_))).trans (e_skip _))).trans ?_
  · show some (D.bl (!(((n : Nat) : Int) == ((n : Nat) : Int)))) = _
    simp
  refine (zah (r' := [some (WD rows),some (.lst (owns.map oD)),some (zbL []),none,none]) rfl).trans ?_
  refine (zah ((zbr (ds := enuD 0 (owns.map oD)) rfl).trans hl)).trans (zay (zaD (zbs (zaf (d := .lst (owns.map oD)) rfl zai) rfl)))
theorem zhF {W P : D} {x4 : Option D} (S : Txs rows owns n m) : ∀ (l : List (List Nat × Option Nat)) (k : Nat) (x y : Option D),(∀ p∈l,p∈rows.zip owns)→∃ x' y',forF (ftT (zaE (ftN 2) (zaE (ftN 3) zc4))) zdb (enuD k (l.map fun p => WS p.1 p.2)) [some W,some P,x,y,x4] = .nx [some W,some P,x',y',x4]
  | [],k,x,y,_ => ⟨x,y,zbM⟩
  | p::l,k,x,y,h => by
    obtain ⟨x',y',ih⟩ := zhF (W := W) (P := P) (x4 := x4) S l (k + 1) (some (nD k)) (some (WS p.1 p.2)) (fun r hr => h r (List.mem_cons_of_mem _ hr))
    have hr := (S.zr (h p List.mem_cons_self)).1
    refine ⟨x',y',?_⟩
    rw [← ih]
    refine zcp (r1 := [some W,some P,some (nD k),some (WS p.1 p.2),x4]) rfl (zah ((if_f ?_).trans (e_skip _)))
    exact zdI (b := true) (zbg (d := .bl true) (zak (zaf (d := WS p.1 p.2) rfl zai) (zg1 (S.nd _ hr) (S.b8 _ hr) (S.l8 _ hr))) rfl)
theorem zgu (S : Txs rows owns n m) : zbz [.str (zbO rows owns)] = .ok (.tup [WD rows,OD owns]) := by
  have hz := S.zl
  have hn1 := S.n1
  have hn7 := S.n7
  have hm := Nat.le_trans S.n1 S.nm
  obtain ⟨x',y',hl⟩ := zhF (W := .str (zbO rows owns)) (P := .lst ((rows.zip owns).map fun p => WS p.1 p.2)) (x4 := none) S (rows.zip owns) 0 none none (fun p hp => hp)
  refine zaL (B := zcd) (n := 5) ?_
  unfold zcd
  refine (zah ((if_f (zdI (b := true) (zbg (d := .bl true) (zgd (a := .str (zbO rows owns)) rfl rfl) rfl))).trans (e_skip _))).trans ?_
  refine (zah (r' := [some (.str (zbO rows owns)),some (.lst ((rows.zip owns).map fun p => WS p.1 p.2)),none,none,none]) (zaT ((zbu (l := rows.zip owns) (fun p => D.str (rowS p.1 p.2)) (fun _ => true) (fun p => WS p.1 p.2) (zbF (d := .lst ((rows.zip owns).map fun p => D.str (rowS p.1 p.2))) (ze9 (d := .str (zbO rows owns)) rfl rfl (zaf (d := .str "; ") rfl zai) (zgU (by intro z; rw [z] at hz; simp at hz; omega) S.l8 (by rw [S.rl]; omega))) rfl) (by omega) fun p hp => ⟨[some (.str (rowS p.1 p.2))],rfl,rfl,fun _ => ze9 (d := .str (rowS p.1 p.2)) rfl rfl (zaf (d := .str " ") rfl zai) (zfU p.2 (by intro z; have := S.len p.1 (S.zr hp).1; rw [z] at this; simp at this; omega) (S.l8 _ (S.zr hp).1))⟩).trans (by rw [zaU])))).trans ?_
  refine (zah ((zbr (ds := enuD 0 ((rows.zip owns).map fun p => WS p.1 p.2)) rfl).trans hl)).trans ?_
  have c1 : zbi 1 [] (fSeq za2 (gv 1)) (ftN 0) (fun _ => Res.ok true) (zau (zac (gv 0) lNil) [] zdf) [some (.str (zbO rows owns)),some (.lst ((rows.zip owns).map fun p => WS p.1 p.2)),x',y',none] = .ok (.lst (rows.map LN)) := by
    refine (zbu (l := rows.zip owns) (fun p => WS p.1 p.2) (fun _ => true) (fun p => LN p.1) (zbF (d := .lst ((rows.zip owns).map fun p => WS p.1 p.2)) rfl rfl) (by omega) fun p hp => ⟨[some (WS p.1 p.2)],rfl,rfl,fun _ => zak (zaf (d := WS p.1 p.2) rfl zai) (zhD (S.b8 _ (S.zr hp).1) (S.l8 _ (S.zr hp).1))⟩).trans ?_
    rw [zaU]
    congr 2
    have := List.map_fst_zip (l₁ := rows) (l₂ := owns) (by rw [S.rl,S.ol]; exact Nat.le_refl _)
    conv => rhs; rw [← this]
    rw [List.map_map]; rfl
  have c2 : ∀ x4 : Option D,zbi 1 [] (fSeq za2 (gv 1)) (ftN 0) (fun _ => Res.ok true) (zau (zac (gv 0) lNil) [] zdh) [some (.str (zbO rows owns)),some (.lst ((rows.zip owns).map fun p => WS p.1 p.2)),x',y',x4] = .ok (.lst (owns.map oD)) := by
    intro x4
    refine (zbu (l := rows.zip owns) (fun p => WS p.1 p.2) (fun _ => true) (fun p => oD p.2) (zbF (d := .lst ((rows.zip owns).map fun p => WS p.1 p.2)) rfl rfl) (by omega) fun p hp => ⟨[some (WS p.1 p.2)],rfl,rfl,fun _ => zak (zaf (d := WS p.1 p.2) rfl zai) (zhE (S.b8 _ (S.zr hp).1) fun y ey => ?_)⟩).trans ?_
    · rw [(S.rp _ (S.zr hp).1).mem_iff,List.mem_range]
      exact S.ow.lt y (by rw [← ey]; exact (S.zr hp).2)
    · rw [zaU]
      congr 2
      have := List.map_snd_zip (l₁ := rows) (l₂ := owns) (by rw [S.rl,S.ol]; exact Nat.le_refl _)
      conv => rhs; rw [← this]
      rw [List.map_map]; rfl
  refine (zah (r' := [some (.str (zbO rows owns)),some (.lst ((rows.zip owns).map fun p => WS p.1 p.2)),x',y',some (WD rows)]) (zaT (zak (zaf (d := .lst (rows.map LN)) c1 zai) (zl1 S)))).trans (zay (zaD ?_))
  exact zke (zaf (d := WD rows) rfl (zaf (d := OD owns) (zak (zaf (d := WD rows) rfl (zaf (d := .lst (owns.map oD)) (c2 _) zai)) (zl2 S)) zai)) (by simp)
end
end Law
end
section
namespace Law
open PySem PyProof.Rows L2 DL
theorem zlK : zhv (.str "*") (.int 1) = some (.str "*") := by kernel_rfl
theorem zlL : zhv (.str "*") (.int 0) = some (.str Str.empty) := by kernel_rfl
section
variable {rows : List (List Nat)} {owns : List (Option Nat)} {n m : Nat} {o : Option Nat} {a0 a1 a2 a3 : Option D}
theorem zh8 : ∀ (l : List Nat) (ws : List Str) (x6 : Option D),(∀ x∈l,x < 8)→ws.length + l.length≤60→∃ y6,forF (ftN 6) zdd (l.map nD) [a0,a1,a2,a3,some (oD o),some (.lst (ws.map D.str)),x6] = .nx [a0,a1,a2,a3,some (oD o),some (.lst ((ws++l.map fun x => word x o).map D.str)),y6]
  | [],ws,x6,_,_ => ⟨x6,by rw [List.map_nil,List.map_nil,List.append_nil]; exact zbM⟩
  | x::l,ws,x6,hb,hl => by
    simp only [List.length_cons] at hl
    have hx := hb x List.mem_cons_self
    obtain ⟨y6,ih⟩ := zh8 l (ws++[word x o]) (some (nD x)) (fun z hz => hb z (List.mem_cons_of_mem _ hz)) (by simp; omega)
    refine ⟨y6,?_⟩
    rw [List.map_cons,List.map_cons,show ws++(word x o::l.map fun x => word x o) = ws++[word x o]++l.map fun x => word x o by simp,← ih]
    refine zcp (r1 := [a0,a1,a2,a3,some (oD o),some (.lst (ws.map D.str)),some (nD x)]) rfl (zah ?_)
    refine (zfB (d := .lst (ws.map D.str)) (ds := [.str (word x o)]) (d' := .lst (ws.map D.str++[.str (word x o)])) rfl rfl (zaf ?_ zai) (zfd (by simp; omega))).trans (by rw [List.map_append]; rfl)
    have e1 : f2 (fun _ => Res.ok (D.str "ABCDEFGH")) (gv 6) ixA [a0,a1,a2,a3,some (oD o),some (.lst (ws.map D.str)),some (nD x)] = .ok (.str (letS x)) := zao (a := .str "ABCDEFGH") (b := nD x) rfl rfl (zkh hx)
    have e2 : fC (zac (f2 (gv 6) (gv 4) eqD) lNil) zil [a0,a1,a2,a3,some (oD o),some (.lst (ws.map D.str)),some (nD x)] = .ok (.int (if decide (o = some x) = true then 1 else 0)) := zbs (zaf (d := .bl (decide (o = some x))) (zao (a := nD x) (b := oD o) rfl rfl (zkm x o)) zai) rfl
    unfold word
    by_cases c : o = some x
    · rw [decide_eq_true c,if_pos rfl] at e2
      rw [if_pos c]
      exact zao (a := .str (letS x)) (b := .str "*") e1 (zao (a := .str "*") (b := .int 1) rfl e2 zlK) (ziO (zgp x))
    · rw [decide_eq_false c,if_neg Bool.false_ne_true] at e2
      rw [if_neg c]
      refine zao (a := .str (letS x)) (b := .str Str.empty) e1 (zao (a := .str "*") (b := .int 0) rfl e2 zlL) ?_
      rw [ziO (by show 1 + 0≤1000; decide),Str.append_empty]
theorem zia (S : Txs rows owns n m) {W O : D} : ∀ (l : List (List Nat × Option Nat)) (ps : List Str) (x3 x4 x5 x6 : Option D),(∀ p∈l,p∈rows.zip owns)→ps.length + l.length≤60→∃ y3 y4 y5 y6,forF (ftT (zaE (ftN 3) (zaE (ftN 4) zc4))) zdc (l.map fun p => .tup [TN p.1,oD p.2]) [some W,some O,some (.lst (ps.map D.str)),x3,x4,x5,x6] = .nx [some W,some O,some (.lst ((ps++l.map fun p => rowS p.1 p.2).map D.str)),y3,y4,y5,y6]
  | [],ps,x3,x4,x5,x6,_,_ => ⟨x3,x4,x5,x6,by rw [List.map_nil,List.map_nil,List.append_nil]; exact zbM⟩
  | p::l,ps,x3,x4,x5,x6,hp,hl => by
    simp only [List.length_cons] at hl
    have hr := (S.zr (hp p List.mem_cons_self)).1
    have h8 := S.l8 _ hr
    obtain ⟨z6,hw⟩ := zh8 (a0 := some W) (a1 := some O) (a2 := some (.lst (ps.map D.str))) (a3 := some (TN p.1)) (o := p.2) p.1 [] x6 (S.b8 _ hr) (by simp; omega)
    rw [List.nil_append,List.map_nil] at hw
    obtain ⟨y3,y4,y5,y6,ih⟩ := zia S (W := W) (O := O) l (ps++[rowS p.1 p.2]) (some (TN p.1)) (some (oD p.2)) (some (.lst ((p.1.map fun x => word x p.2).map D.str))) z6 (fun q hq => hp q (List.mem_cons_of_mem _ hq)) (by simp; omega)
    refine ⟨y3,y4,y5,y6,?_⟩
    rw [List.map_cons,List.map_cons,show ps++(rowS p.1 p.2::l.map fun p => rowS p.1 p.2) = ps++[rowS p.1 p.2]++l.map fun p => rowS p.1 p.2 by simp,← ih]
    refine zcp (r1 := [some W,some O,some (.lst (ps.map D.str)),some (TN p.1),some (oD p.2),x5,x6]) rfl ?_
    refine (zah (r' := [some W,some O,some (.lst (ps.map D.str)),some (TN p.1),some (oD p.2),some (.lst []),x6]) (zaT (zgC zai (by simp)))).trans ?_
    refine (zah ((zbr (zbF (d := TN p.1) rfl rfl)).trans hw)).trans (zah ?_)
    have h3 : ((" " : Str)).length = 1 := by decide +kernel
    refine (zfB (d := .lst (ps.map D.str)) (ds := [.str (rowS p.1 p.2)]) (d' := .lst (ps.map D.str++[.str (rowS p.1 p.2)])) rfl rfl (zaf (ze9 (d := .str " ") rfl rfl (zaf (d := .lst ((p.1.map fun x => word x p.2).map D.str)) rfl zai) (zgH (B := 2) (fun y hy => by obtain ⟨x,_,rfl⟩ := List.mem_map.mp hy; exact zeR x _) (by rw [h3,List.length_map]; omega))) zai) (zfd (by simp; omega))).trans (by rw [List.map_append]; rfl)
theorem zfs (S : Txs rows owns n m) : zbA [WD rows,OD owns] = .ok (.str (zbO rows owns)) := by
  have hz := S.zl
  have hn7 := S.n7
  obtain ⟨y3,y4,y5,y6,hl⟩ := zia S (W := WD rows) (O := OD owns) (rows.zip owns) [] none none none none (fun p hp => hp) (by rw [List.length_nil]; omega)
  refine zaL (B := zcf) (n := 7) ?_
  unfold zcf
  refine (zah (r' := [some (WD rows),some (OD owns),some (.lst []),none,none,none,none]) (zaT (zgC zai (by simp)))).trans ?_
  refine (zah ((zbr ((ziv (d := WD rows) (e := OD owns) rfl rfl rfl rfl).trans (by rw [zlu]))).trans hl)).trans (zay (zaD ?_))
  have h3 : (("; " : Str)).length = 2 := by decide +kernel
  exact ze9 (d := .str "; ") rfl rfl (zaf (d := .lst (((rows.zip owns).map fun p => rowS p.1 p.2).map D.str)) rfl zai) (zgH (B := 24) (fun y hy => by obtain ⟨p,hp,rfl⟩ := List.mem_map.mp hy; exact zdS p.2 (S.l8 _ (S.zr hp).1)) (by rw [h3,List.length_map]; omega))
theorem zgK : ∀ l : List (List Nat),PyData.eqvAll (zbq (l.map TN)) (zbq (l.map TN)) = true
  | [] => by simp [zbq,PyData.eqvAll]
  | r::l => by
    have ih := zgK l
    simp only [List.map_cons,zbq,toPy,PyData.eqvAll,PyData.eqv,ih,zfJ,decide_true]
    rfl
theorem zgL : ∀ l : List (Option Nat),PyData.eqvAll (zbq (l.map oD)) (zbq (l.map oD)) = true
  | [] => by simp [zbq,PyData.eqvAll]
  | o::l => by
    have ih := zgL l
    simp only [List.map_cons,zbq,PyData.eqvAll,ih]
    cases o with
    | none => simp [oD,toPy,PyData.eqv]
    | some x => simp [oD,toPy,PyData.eqv]
theorem zk0 : neD (.tup [WD rows,OD owns]) (.tup [WD rows,OD owns]) = some (.bl false) := by
  have s1 : Shp 59 (WD rows) := zdo.mpr fun d hd => by obtain ⟨r,_,rfl⟩ := List.mem_map.mp hd; exact zdo.mpr znE
  have s2 : Shp 59 (OD owns) := zdo.mpr fun d hd => by obtain ⟨o,_,rfl⟩ := List.mem_map.mp hd; cases o <;> trivial
  have sh : Shp 60 (.tup [WD rows,OD owns]) := zdo.mpr fun d hd => by
    rcases List.mem_cons.mp hd with z | z
    · rw [z]; exact s1
    · rw [List.mem_singleton.mp z]; exact s2
  unfold neD
  rw [zjw rfl sh sh]
  unfold eqb
  have e1 : PyData.eqv (toPy (WD rows)) (toPy (WD rows)) = true := by simp only [toPy,PyData.eqv,zgK]
  have e2 : PyData.eqv (toPy (OD owns)) (toPy (OD owns)) = true := by simp only [toPy,PyData.eqv,zgL]
  rw [show toPy (.tup [WD rows,OD owns]) = .tuple [toPy (WD rows),toPy (OD owns)] by simp only [toPy,zbq]]
  generalize toPy (WD rows) = p at e1
  generalize toPy (OD owns) = q at e2
  simp only [PyData.eqv,PyData.eqvAll,e1,e2]
  rfl
theorem zhw {a1 a2 : Option D} {F : D} : ∀ (l : List (List Nat)) (x : Option D),(∀ r∈l,r.length≤8)→∃ y,forF (ftN 3) zde (l.map TN) [some F,a1,a2,x] = .nx [some F,a1,a2,y]
  | [],x,_ => ⟨x,zbM⟩
  | r::l,x,h => by
    obtain ⟨y,ih⟩ := zhw (a1 := a1) (a2 := a2) (F := F) l (some (TN r)) fun z hz => h z (List.mem_cons_of_mem _ hz)
    have h8 := h r List.mem_cons_self
    refine ⟨y,?_⟩
    rw [← ih]
    refine zcp (r1 := [some F,a1,a2,some (TN r)]) rfl (zah ((if_f ?_).trans (e_skip _)))
    refine (or_f (zdI (b := true) (zbg (d := .bl true) (zgd (a := TN r) rfl rfl) rfl))).trans ?_
    refine zbg (d := .bl false) (zfQ (zs := r.map nD) (zbF (d := TN r) rfl rfl) (by rw [List.length_map]; omega) fun d hd => ?_) rfl
    obtain ⟨x,_,rfl⟩ := List.mem_map.mp hd
    exact ⟨[some (nD x)],rfl,zgd (a := nD x) rfl rfl⟩
theorem zgt (S : Txs rows owns n m) : zbB [.tup [WD rows,OD owns],WD rows,OD owns] = .ok (.bl true) := by
  have hn7 := S.n7
  have ho := S.ol
  obtain ⟨y,hl⟩ := zhw (a1 := some (WD rows)) (a2 := some (OD owns)) (F := .tup [WD rows,OD owns]) rows none S.l8
  have g : ∀ (k : Nat) (d : D) (x : Option D),([WD rows,OD owns] : List D)[k]? = some d→f2 (gv 0) (fun _ => Res.ok (D.int (k : Int))) ixA [some (.tup [WD rows,OD owns]),some (WD rows),some (OD owns),x] = .ok d := fun k d x h => zao (a := .tup [WD rows,OD owns]) (b := nD k) rfl rfl (zmZ h)
  refine zaL (B := zcg) (n := 4) ?_
  unfold zcg
  refine (zah ((if_f ?_).trans (e_skip _))).trans ?_
  · refine (or_f (zdI (b := true) (zbg (d := .bl true) (zgd (a := .tup [WD rows,OD owns]) rfl rfl) rfl))).trans ?_
    refine (or_f (zaH (zao (a := nD 2) (b := nD 2) (d := .bl false) (zbs (zaf (d := .tup [WD rows,OD owns]) rfl zai) rfl) rfl rfl))).trans ?_
    exact zaH (zao (a := .tup [WD rows,OD owns]) (b := .tup [WD rows,OD owns]) rfl (zke (zaf (d := WD rows) rfl (zaf (d := OD owns) rfl zai)) (by simp)) zk0)
  refine (zah ((zbr (zbF (d := WD rows) (g 0 _ _ rfl) rfl)).trans hl)).trans (zay (zaD ?_))
  refine (zd0 (zgd (a := WD rows) (g 0 _ _ rfl) rfl)).trans ?_
  refine (zd0 (zgd (a := OD owns) (g 1 _ _ rfl) rfl)).trans ?_
  have an : fC (zac (zbi 1 [] (fSeq za2 (f2 (gv 0) (ci 1) ixA)) (ftN 0) (fun _ => Res.ok true) (f2 (gv 0) (fun _ => Res.ok (D.bl true)) istD)) lNil) anyD [some (.tup [WD rows,OD owns]),some (WD rows),some (OD owns),y] = .ok (.bl false) := by
    refine zfQ (zs := owns.map oD) (zbF (d := OD owns) (g 1 _ _ rfl) rfl) (by rw [List.length_map]; omega) fun d hd => ?_
    obtain ⟨x,_,rfl⟩ := List.mem_map.mp hd
    refine ⟨[some (oD x)],rfl,zao (a := oD x) (b := .bl true) rfl rfl ?_⟩
    cases x <;> rfl
  unfold vNot
  rw [an]; rfl
end
theorem zk1 (a : Str) : neD (.str a) (.str a) = some (.bl false) := by
  unfold neD
  rw [eqB_str]
  simp
theorem zn5 (ns : List Int) : zlq [IN ns] = .ok (.bl true) := by
  obtain ⟨c1,h1⟩ := zeW ns 1 (by decide)
  obtain ⟨c2,h2⟩ := zeW ns 2 (by decide)
  have hn : c1 % 7 < 7 := Nat.mod_lt _ (by decide)
  have hq : c1 / 7 % (9 - (1 + c1 % 7)) < 9 - (1 + c1 % 7) := Nat.mod_lt _ (by omega)
  obtain ⟨rows,r1,r2,r3⟩ := zgX ns 4 (1 + c1 % 7) (1 + c1 % 7 + c1 / 7 % (9 - (1 + c1 % 7))) (by omega) (by omega) (by omega)
  have hsub : subI (.int 9) (nD (1 + c1 % 7)) = some (nD (9 - (1 + c1 % 7))) := by
    have e : (9 : Int) - ((1 + c1 % 7 : Nat) : Int) = ((9 - (1 + c1 % 7) : Nat) : Int) := by omega
    show some (D.int ((9 : Int) - ((1 + c1 % 7 : Nat) : Int))) = some (D.int _)
    rw [e]
  generalize en : 1 + c1 % 7 = n at r1 r2 r3 hsub hq
  generalize em : n + c1 / 7 % (9 - n) = m at r2 r3
  have hn1 : 1≤n := by omega
  have hn7 : n≤7 := by omega
  have hnm : n≤m := by omega
  have hm8 : m≤8 := by omega
  obtain ⟨owns,w1,w2,w3⟩ := zi3 c2 n m (by omega) (by omega)
  have S : Txs rows owns n m := ⟨hn1,hn7,hnm,hm8,r1,r2,w1,w2⟩
  refine zaL (B := zjQ) (n := 7) ?_
  unfold zjQ
  refine (zah (zaT (zak (zaf (d := IN ns) rfl (zaf (d := nD 1) rfl zai)) h1))).trans ?_
  refine (zah (zaT (d := nD n) (zao (a := nD 1) (b := nD (c1 % 7)) rfl (zao (a := nD c1) (b := nD 7) rfl rfl (zgB (by decide))) (by rw [zej,en])))).trans ?_
  refine (zah (zaT (d := nD m) (zao (a := nD n) (b := nD (c1 / 7 % (9 - n))) rfl (zao (a := nD (c1 / 7)) (b := nD (9 - n)) (zao (a := nD c1) (b := nD 7) rfl rfl (zgb (by decide) (by decide))) (zao (a := .int 9) (b := nD n) rfl rfl hsub) (zgB (by omega))) (by rw [zej,em])))).trans ?_
  refine (zah (zaT (zak (zaf (d := IN ns) rfl (zaf (d := nD 4) rfl (zaf (d := nD n) rfl (zaf (d := nD m) rfl zai)))) r3))).trans ?_
  refine (zah (zaT (d := OD owns) (zak (zaf (zak (zaf (d := IN ns) rfl (zaf (d := nD 2) rfl zai)) h2) (zaf (d := nD n) rfl (zaf (d := nD m) rfl zai))) w3))).trans ?_
  refine (zah (zaT (d := .str (zbO rows owns)) (zak (zaf (d := WD rows) rfl (zaf (d := OD owns) rfl zai)) (zfr S.b8 S.l8 (by rw [r1]; exact hn7))))).trans ?_
  refine (zah ((if_f ?_).trans (e_skip _))).trans (zay (zaD ?_))
  · refine (or_f (zdI (b := true) (zbg (d := .bl true) (zgd (a := .str (zbO rows owns)) rfl rfl) rfl))).trans ?_
    exact zaH (zao (a := .str (zbO rows owns)) (b := .str (zbO rows owns)) rfl (zak (zaf (d := WD rows) rfl (zaf (d := OD owns) rfl zai)) (zfs S)) (zk1 _))
  · rw [zd0 (zak (zaf (d := .tup [WD rows,OD owns]) (zak (zaf (d := .str (zbO rows owns)) rfl zai) (zgu S)) (zaf (d := WD rows) rfl (zaf (d := OD owns) rfl zai))) (zgt S))]
    exact zak (zaf (d := .tup [WD rows,OD owns]) (zak (zaf (d := .str (zbO rows owns)) (zak (zaf (d := WD rows) rfl (zaf (d := OD owns) rfl zai)) (zfs S)) zai) (zgu S)) (zaf (d := WD rows) rfl (zaf (d := OD owns) rfl zai))) (zgt S)
theorem main (ns : List Int) (_ : ns.length≤63) : zlq [.lst (ns.map .int)] = .ok (.bl true) := zn5 ns
end Law
end
open PySem PySem.W PyProof.Rows
set_option maxRecDepth 100000 in
set_option maxHeartbeats 0 in
theorem PySem.Challenge.cw_ringtrade_k04_texts_there_and_back_holds : PySem.Challenge.rw_ringtrade_k04_texts_there_and_back.Holds := by
  w_on; o_law; k_head; (case hw => w_witness2)
  k_fill
  refine DL.zor (l := PySem.Challenge.rw_ringtrade_k04_texts_there_and_back) (k := 8) (x := "_law_script") (F := Law.zlq) rfl rfl ⟨rfl,by decide,by decide,rfl⟩ (fun w h Y => PySem.W.kIn_of Y) Law.main ?C
  intro w mg fa h KX G hmg
  have T : Law.Txt (L2.KOf KX) mg := by
    dsimp only [L2.KOf]
    refine ⟨?b_len,?b_range,?b_tuple,?b_zip,?b_isinstance,?b_bool,?b_any,?b_int,?b_enumerate,?b_all,?b_str,?k_MOST_HANDS,?k_MOST_THINGS,?k_LETTERS⟩
    case b_len => (refine' PySem.W.mg_none_of KX G ?z_b_len; k_is)
    case b_range => (refine' PySem.W.mg_none_of KX G ?z_b_range; k_is)
    case b_tuple => (refine' PySem.W.mg_none_of KX G ?z_b_tuple; k_is)
    case b_zip => (refine' PySem.W.mg_none_of KX G ?z_b_zip; k_is)
    case b_isinstance => (refine' PySem.W.mg_none_of KX G ?z_b_isinstance; k_is)
    case b_bool => (refine' PySem.W.mg_none_of KX G ?z_b_bool; k_is)
    case b_any => (refine' PySem.W.mg_none_of KX G ?z_b_any; k_is)
    case b_int => (refine' PySem.W.mg_none_of KX G ?z_b_int; k_is)
    case b_enumerate => (refine' PySem.W.mg_none_of KX G ?z_b_enumerate; k_is)
    case b_all => (refine' PySem.W.mg_none_of KX G ?z_b_all; k_is)
    case b_str => (refine' PySem.W.mg_none_of KX G ?z_b_str; k_is)
    case k_MOST_HANDS => (refine' DL.zop KX G ?z_k_MOST_HANDS; (case z_k_MOST_HANDS => k_is))
    case k_MOST_THINGS => (refine' DL.zop KX G ?z_k_MOST_THINGS; (case z_k_MOST_THINGS => k_is))
    case k_LETTERS => (refine' DL.zoo KX G ?z_k_LETTERS; (case z_k_LETTERS => k_is))
  have A__law_cell : DL.DefAt (L2.KOf KX) mg "_law_cell" Law.zdE := by
    dsimp only [L2.KOf]
    refine' DL.zoq KX G ?a ?l ?c ?k
    (case a => k_is)
    (case l => k_is)
    (case c => k_is)
    (case k => k_is)
  have A__law_row : DL.DefAt (L2.KOf KX) mg "_law_row" Law.zd4 := by
    dsimp only [L2.KOf]
    refine' DL.zoq KX G ?a ?l ?c ?k
    (case a => k_is)
    (case l => k_is)
    (case c => k_is)
    (case k => k_is)
  have A__law_wishes : DL.DefAt (L2.KOf KX) mg "_law_wishes" Law.zba := by
    dsimp only [L2.KOf]
    refine' DL.zoq KX G ?a ?l ?c ?k
    (case a => k_is)
    (case l => k_is)
    (case c => k_is)
    (case k => k_is)
  have A__law_owns : DL.DefAt (L2.KOf KX) mg "_law_owns" Law.zdD := by
    dsimp only [L2.KOf]
    refine' DL.zoq KX G ?a ?l ?c ?k
    (case a => k_is)
    (case l => k_is)
    (case c => k_is)
    (case k => k_is)
  have A_word_text : DL.DefAt (L2.KOf KX) mg "word_text" Law.zdz := by
    dsimp only [L2.KOf]
    refine' DL.zoq KX G ?a ?l ?c ?k
    (case a => k_is)
    (case l => k_is)
    (case c => k_is)
    (case k => k_is)
  have A_row_text : DL.DefAt (L2.KOf KX) mg "row_text" Law.zbV := by
    dsimp only [L2.KOf]
    refine' DL.zoq KX G ?a ?l ?c ?k
    (case a => k_is)
    (case l => k_is)
    (case c => k_is)
    (case k => k_is)
  have A_rows_text : DL.DefAt (L2.KOf KX) mg "rows_text" Law.zbE := by
    dsimp only [L2.KOf]
    refine' DL.zoq KX G ?a ?l ?c ?k
    (case a => k_is)
    (case l => k_is)
    (case c => k_is)
    (case k => k_is)
  have A__law_same : DL.DefAt (L2.KOf KX) mg "_law_same" Law.zaX := by
    dsimp only [L2.KOf]
    refine' DL.zoq KX G ?a ?l ?c ?k
    (case a => k_is)
    (case l => k_is)
    (case c => k_is)
    (case k => k_is)
  have A__law_text : DL.DefAt (L2.KOf KX) mg "_law_text" Law.zdC := by
    dsimp only [L2.KOf]
    refine' DL.zoq KX G ?a ?l ?c ?k
    (case a => k_is)
    (case l => k_is)
    (case c => k_is)
    (case k => k_is)
  have A_refuse_too_many_rows : DL.DefAt (L2.KOf KX) mg "refuse_too_many_rows" Law.zaZ := by
    dsimp only [L2.KOf]
    refine' DL.zoq KX G ?a ?l ?c ?k
    (case a => k_is)
    (case l => k_is)
    (case c => k_is)
    (case k => k_is)
  have A_is_whole : DL.DefAt (L2.KOf KX) mg "is_whole" Law.zd2 := by
    dsimp only [L2.KOf]
    refine' DL.zoq KX G ?a ?l ?c ?k
    (case a => k_is)
    (case l => k_is)
    (case c => k_is)
    (case k => k_is)
  have A_is_below : DL.DefAt (L2.KOf KX) mg "is_below" Law.zd3 := by
    dsimp only [L2.KOf]
    refine' DL.zoq KX G ?a ?l ?c ?k
    (case a => k_is)
    (case l => k_is)
    (case c => k_is)
    (case k => k_is)
  have A_first_wrong : DL.DefAt (L2.KOf KX) mg "first_wrong" Law.zcE := by
    dsimp only [L2.KOf]
    refine' DL.zoq KX G ?a ?l ?c ?k
    (case a => k_is)
    (case l => k_is)
    (case c => k_is)
    (case k => k_is)
  have A_are_unlike : DL.DefAt (L2.KOf KX) mg "are_unlike" Law.zc1 := by
    dsimp only [L2.KOf]
    refine' DL.zoq KX G ?a ?l ?c ?k
    (case a => k_is)
    (case l => k_is)
    (case c => k_is)
    (case k => k_is)
  have A_has_each_once : DL.DefAt (L2.KOf KX) mg "has_each_once" Law.zci := by
    dsimp only [L2.KOf]
    refine' DL.zoq KX G ?a ?l ?c ?k
    (case a => k_is)
    (case l => k_is)
    (case c => k_is)
    (case k => k_is)
  have A_wishes_of : DL.DefAt (L2.KOf KX) mg "wishes_of" Law.zbD := by
    dsimp only [L2.KOf]
    refine' DL.zoq KX G ?a ?l ?c ?k
    (case a => k_is)
    (case l => k_is)
    (case c => k_is)
    (case k => k_is)
  have A_things_in : DL.DefAt (L2.KOf KX) mg "things_in" Law.zdA := by
    dsimp only [L2.KOf]
    refine' DL.zoq KX G ?a ?l ?c ?k
    (case a => k_is)
    (case l => k_is)
    (case c => k_is)
    (case k => k_is)
  have A_owns_of : DL.DefAt (L2.KOf KX) mg "owns_of" Law.zeD := by
    dsimp only [L2.KOf]
    refine' DL.zoq KX G ?a ?l ?c ?k
    (case a => k_is)
    (case l => k_is)
    (case c => k_is)
    (case k => k_is)
  have A_is_starred : DL.DefAt (L2.KOf KX) mg "is_starred" Law.zc0 := by
    dsimp only [L2.KOf]
    refine' DL.zoq KX G ?a ?l ?c ?k
    (case a => k_is)
    (case l => k_is)
    (case c => k_is)
    (case k => k_is)
  have A_letter_in : DL.DefAt (L2.KOf KX) mg "letter_in" Law.zdB := by
    dsimp only [L2.KOf]
    refine' DL.zoq KX G ?a ?l ?c ?k
    (case a => k_is)
    (case l => k_is)
    (case c => k_is)
    (case k => k_is)
  have A_is_word : DL.DefAt (L2.KOf KX) mg "is_word" Law.zeE := by
    dsimp only [L2.KOf]
    refine' DL.zoq KX G ?a ?l ?c ?k
    (case a => k_is)
    (case l => k_is)
    (case c => k_is)
    (case k => k_is)
  have A_is_part : DL.DefAt (L2.KOf KX) mg "is_part" Law.zbp := by
    dsimp only [L2.KOf]
    refine' DL.zoq KX G ?a ?l ?c ?k
    (case a => k_is)
    (case l => k_is)
    (case c => k_is)
    (case k => k_is)
  have A_row_in : DL.DefAt (L2.KOf KX) mg "row_in" Law.zcZ := by
    dsimp only [L2.KOf]
    refine' DL.zoq KX G ?a ?l ?c ?k
    (case a => k_is)
    (case l => k_is)
    (case c => k_is)
    (case k => k_is)
  have A_own_in : DL.DefAt (L2.KOf KX) mg "own_in" Law.zfj := by
    dsimp only [L2.KOf]
    refine' DL.zoq KX G ?a ?l ?c ?k
    (case a => k_is)
    (case l => k_is)
    (case c => k_is)
    (case k => k_is)
  have A_rows_read : DL.DefAt (L2.KOf KX) mg "rows_read" Law.zaC := by
    dsimp only [L2.KOf]
    refine' DL.zoq KX G ?a ?l ?c ?k
    (case a => k_is)
    (case l => k_is)
    (case c => k_is)
    (case k => k_is)
  have A_law : DL.DefAt (L2.KOf KX) mg "law" Law.zjU := by
    dsimp only [L2.KOf]
    refine' DL.zoq KX G ?a ?l ?c ?k
    (case a => k_is)
    (case l => k_is)
    (case c => k_is)
    (case k => k_is)
  refine DL.zon hmg A_law (fun _ _ _ _ _ _ us hl => match us,hl with | [_],_ => rfl) fun f fd Fn base => ?_
  have C__law_cell := Law.zkc (P := PySem.Challenge.rw_ringtrade_k04_texts_there_and_back.prog) (w := w) (base := base) T A__law_cell
  have C__law_row := Law.zkY (P := PySem.Challenge.rw_ringtrade_k04_texts_there_and_back.prog) (w := w) (base := base) T A__law_row
  have C__law_wishes := Law.ziT (P := PySem.Challenge.rw_ringtrade_k04_texts_there_and_back.prog) (w := w) (base := base) T A__law_wishes C__law_cell C__law_row
  have C__law_owns := Law.zkb (P := PySem.Challenge.rw_ringtrade_k04_texts_there_and_back.prog) (w := w) (base := base) T A__law_owns
  have C_word_text := Law.zj3 (P := PySem.Challenge.rw_ringtrade_k04_texts_there_and_back.prog) (w := w) (base := base) T A_word_text
  have C_row_text := Law.zkV (P := PySem.Challenge.rw_ringtrade_k04_texts_there_and_back.prog) (w := w) (base := base) T A_row_text C_word_text
  have C_rows_text := Law.zj6 (P := PySem.Challenge.rw_ringtrade_k04_texts_there_and_back.prog) (w := w) (base := base) T A_rows_text C_row_text
  have C__law_same := Law.zka (P := PySem.Challenge.rw_ringtrade_k04_texts_there_and_back.prog) (w := w) (base := base) T A__law_same
  have C__law_text := Law.zj9 (P := PySem.Challenge.rw_ringtrade_k04_texts_there_and_back.prog) (w := w) (base := base) T A__law_text
  have C_refuse_too_many_rows := Law.zeZ (P := PySem.Challenge.rw_ringtrade_k04_texts_there_and_back.prog) (w := w) (base := base) T A_refuse_too_many_rows
  have C_is_whole := Law.zkW (P := PySem.Challenge.rw_ringtrade_k04_texts_there_and_back.prog) (w := w) (base := base) T A_is_whole
  have C_is_below := Law.zkX (P := PySem.Challenge.rw_ringtrade_k04_texts_there_and_back.prog) (w := w) (base := base) T A_is_below C_is_whole
  have C_first_wrong := Law.ziS (P := PySem.Challenge.rw_ringtrade_k04_texts_there_and_back.prog) (w := w) (base := base) T A_first_wrong C_is_below
  have C_are_unlike := Law.zjh (P := PySem.Challenge.rw_ringtrade_k04_texts_there_and_back.prog) (w := w) (base := base) T A_are_unlike C_first_wrong
  have C_has_each_once := Law.zhk (P := PySem.Challenge.rw_ringtrade_k04_texts_there_and_back.prog) (w := w) (base := base) T A_has_each_once C_are_unlike
  have C_wishes_of := Law.zj4 (P := PySem.Challenge.rw_ringtrade_k04_texts_there_and_back.prog) (w := w) (base := base) T A_wishes_of C_refuse_too_many_rows C_has_each_once
  have C_things_in := Law.zj5 (P := PySem.Challenge.rw_ringtrade_k04_texts_there_and_back.prog) (w := w) (base := base) T A_things_in
  have C_owns_of := Law.zlr (P := PySem.Challenge.rw_ringtrade_k04_texts_there_and_back.prog) (w := w) (base := base) T A_owns_of C_things_in C_is_below
  have C_is_starred := Law.zjg (P := PySem.Challenge.rw_ringtrade_k04_texts_there_and_back.prog) (w := w) (base := base) T A_is_starred
  have C_letter_in := Law.zj8 (P := PySem.Challenge.rw_ringtrade_k04_texts_there_and_back.prog) (w := w) (base := base) T A_letter_in C_is_starred
  have C_is_word := Law.zls (P := PySem.Challenge.rw_ringtrade_k04_texts_there_and_back.prog) (w := w) (base := base) T A_is_word C_letter_in
  have C_is_part := Law.zlt (P := PySem.Challenge.rw_ringtrade_k04_texts_there_and_back.prog) (w := w) (base := base) T A_is_part C_is_starred C_is_word
  have C_row_in := Law.zmI (P := PySem.Challenge.rw_ringtrade_k04_texts_there_and_back.prog) (w := w) (base := base) T A_row_in C_letter_in
  have C_own_in := Law.zmJ (P := PySem.Challenge.rw_ringtrade_k04_texts_there_and_back.prog) (w := w) (base := base) T A_own_in C_is_starred C_letter_in
  have C_rows_read := Law.zj7 (P := PySem.Challenge.rw_ringtrade_k04_texts_there_and_back.prog) (w := w) (base := base) T A_rows_read C_is_part C_row_in C_wishes_of C_own_in C_owns_of
  exact Law.zom T Fn C__law_cell C__law_wishes C__law_owns C_rows_text C__law_text C_rows_read C__law_same
