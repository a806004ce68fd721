import PyProof.Rows.All
import Wide.All
import OpenK.AllK
import Wide.FinOn
import Lean
import PyProof.EqAt
import PyProof.EqKinds
import PyProof.TupleCall
import PyProof.Rows.SetFrom
import KE.KSortTup
import PyProof.Draws
import PyProof.EnumMake
import PyProof.ListRange
import PyProof.Rows.EnumRows
import PyProof.SetRoads
import PyProof.Rows.MinMaxN
import PyProof.Rows.MaxTwoN
import PyProof.ZipIter
import PySem.Challenge.RW_ringtrade_k10_asked_one_by_one
set_option Elab.async false
set_option linter.all false
set_option maxRecDepth 100000
set_option maxHeartbeats 4000000
section
namespace L2
open PySem PySem.Spec PyProof.Rows
noncomputable abbrev Key := Sum Int Str
noncomputable def zjb : Key→Value→Bool
  | .inl k,v => Value.isInt k v
  | .inr x,v => Value.isStrOf x v
noncomputable def keyH (w : World) : Key→Int
  | .inl k => hashInt k
  | .inr x => hashStr w x
theorem keyIs_shape : ∀ {k : Key} {v : Value},zjb k v = true→(∃ i t,k = Sum.inl i∧v = Value.int i t)∨(∃ x t,k = Sum.inr x∧v = Value.str x t)
  | .inl i,v,h => by
    obtain ⟨t,e⟩ := Value.isInt_shape (k := i) (v := v) h
    exact .inl ⟨i,t,rfl,e⟩
  | .inr x,v,h => by
    obtain ⟨t,e⟩ := Value.isStrOf_shape (x := x) (v := v) h
    exact .inr ⟨x,t,rfl,e⟩
theorem zkC (i : Int) (t : Tok) : zjb (.inl i) (.int i t) = true := by simp [zjb,Value.isInt]
theorem zkB (x : Str) (t : Tok) : zjb (.inr x) (.str x t) = true := by simp [zjb,Value.isStrOf]
theorem zpR (a b : Int) : decide ((Sum.inl a : Key) = Sum.inl b) = (a == b) := by
  by_cases e : a = b
  · subst e; simp
  · have h : ¬ (Sum.inl a : Key) = Sum.inl b := fun q => e (Sum.inl.inj q)
    rw [decide_eq_false h]
    exact (beq_eq_false_iff_ne.mpr e).symm
theorem zpO (a b : Str) : decide ((Sum.inr a : Key) = Sum.inr b) = decide (a = b) := by
  by_cases e : a = b
  · subst e; simp
  · have h : ¬ (Sum.inr a : Key) = Sum.inr b := fun q => e (Sum.inr.inj q)
    rw [decide_eq_false h,decide_eq_false e]
theorem zpQ (a : Int) (b : Str) : decide ((Sum.inl a : Key) = Sum.inr b) = false := decide_eq_false (fun q => nomatch q)
theorem zpP (a : Str) (b : Int) : decide ((Sum.inr a : Key) = Sum.inl b) = false := decide_eq_false (fun q => nomatch q)
noncomputable def za3 (prog : Program) (w : World) : PySem.KeyKind prog w Key where
  is := zjb
  hash := keyH w
  inj := fun v a b ha hb => by
    rcases keyIs_shape ha with ⟨i,t,rfl,rfl⟩ | ⟨x,t,rfl,rfl⟩
    · rcases keyIs_shape hb with ⟨j,u,rfl,e⟩ | ⟨y,u,rfl,e⟩
      · injection e with e1 _; rw [e1]
      · exact nomatch e
    · rcases keyIs_shape hb with ⟨j,u,rfl,e⟩ | ⟨y,u,rfl,e⟩
      · exact nomatch e
      · injection e with e1 _; rw [e1]
  byValue := fun k v h => by
    rcases keyIs_shape h with ⟨i,t,rfl,rfl⟩ | ⟨x,t,rfl,rfl⟩ <;> rfl
  pyHash := fun hv h => by
    rcases keyIs_shape hv with ⟨i,t,rfl,rfl⟩ | ⟨x,t,rfl,rfl⟩
    · exact wpAny_pyHash_int h
    · exact wpAny_pyHash_str h
  eqBool := fun hu hv h => by
    rcases keyIs_shape hu with ⟨i,t,rfl,rfl⟩ | ⟨x,t,rfl,rfl⟩
    · rcases keyIs_shape hv with ⟨j,u,rfl,rfl⟩ | ⟨y,u,rfl,rfl⟩
      · rw [zpR] at h; exact wpAny_eqBool_int h
      · rw [zpQ] at h; exact SeqAt.EqAt.int_str i t y u _ _ _ _ h
    · rcases keyIs_shape hv with ⟨j,u,rfl,rfl⟩ | ⟨y,u,rfl,rfl⟩
      · rw [zpP] at h; exact SeqAt.EqAt.str_int x t j u _ _ _ _ h
      · rw [zpO] at h; exact wpAny_eqBool_str h
  «strs» := fun k x t v h => by
    rcases keyIs_shape h with ⟨i,u,rfl,e⟩ | ⟨y,u,rfl,e⟩
    · exact nomatch e
    · injection e with e1 _
      subst e1
      cases v <;> rfl
theorem zhY (prog : Program) (w : World) (i : Int) (t : Tok) : (za3 prog w).is (.inl i) (.int i t) = true := zkC i t
theorem zhX (prog : Program) (w : World) (x : Str) (t : Tok) : (za3 prog w).is (.inr x) (.str x t) = true := zkB x t
end L2
namespace L2
open PySem PySem.Spec PyProof.Rows
inductive V where
  | non | bl (b : Bool) | int (i : Int) | str (x : Str) | byt (b : Array UInt8) | flt (b : UInt64) | ref (a : Addr) | ty (n : String)
  deriving DecidableEq
noncomputable def RelV : V→Value→Prop
  | .non,u => u = Value.none
  | .bl b,u => u = Value.bool b
  | .int i,u => ∃ t,u = Value.int i t
  | .str x,u => ∃ t,u = Value.str x t
  | .byt b,u => ∃ t,u = Value.bytes b t
  | .flt b,u => ∃ t,u = Value.float b t
  | .ref a,u => u = Value.ref a
  | .ty n,u => u = Value.type n
noncomputable abbrev Vals : List V→List Value→Prop := Paired RelV
theorem Vals.length {xs : List V} {us : List Value} (r : Vals xs us) : xs.length = us.length := Paired.length r
theorem Vals.get : ∀ {xs : List V} {us : List Value} {i : Nat} {x : V},Vals xs us→xs[i]? = some x→∃ u,us[i]? = some u∧RelV x u
  | _,_,_,_,.nil,e => by simp at e
  | _,_,0,_,.cons r _,e => by simp at e; subst e; exact ⟨_,rfl,r⟩
  | _,_,i + 1,x,.cons _ t,e => by
    obtain ⟨u,h1,h2⟩ := Vals.get (i := i) (x := x) t (by simpa using e)
    exact ⟨u,by simpa using h1,h2⟩
theorem Vals.set {x : V} {u : Value} (r : RelV x u) : ∀ {xs : List V} {us : List Value} (i : Nat),Vals xs us→Vals (xs.set i x) (us.set i u)
  | _,_,_,.nil => .nil
  | _,_,0,.cons _ t => .cons r t
  | _,_,i + 1,.cons q t => .cons q (Vals.set r i t)
theorem Vals.append {xs ys : List V} {us ws : List Value} (h : Vals xs us) (h' : Vals ys ws) : Vals (xs++ys) (us++ws) := by
  induction h with
  | nil => exact h'
  | cons r _ ih => exact .cons r ih
theorem Vals.take : ∀ {xs : List V} {us : List Value} (n : Nat),Vals xs us→Vals (xs.take n) (us.take n)
  | _,_,0,_ => .nil
  | _,_,_ + 1,.nil => .nil
  | _,_,n + 1,.cons r t => .cons r (Vals.take n t)
theorem Vals.drop : ∀ {xs : List V} {us : List Value} (n : Nat),Vals xs us→Vals (xs.drop n) (us.drop n)
  | _,_,0,r => r
  | _,_,_ + 1,.nil => .nil
  | _,_,n + 1,.cons _ t => Vals.drop n t
noncomputable def RelO : Option V→Option Value→Prop
  | some v,some u => RelV v u
  | none,none => True
  | _,_ => False
noncomputable def KV {κ : Type} : List (κ × V)→List (κ × Value)→Prop := Paired fun (p : κ × V) (q : κ × Value) => p.1 = q.1∧RelV p.2 q.2
noncomputable def kV : Key→V
  | .inl i => .int i
  | .inr x => .str x
inductive HO where
  | lst (xs : List V)
  | tup (xs : List V)
  | dK (kvs : List (Key × V)) | dT (kvs : List (List Key × V))
  | set (S : Int→Bool) (n : Nat)
  | ins (C dx : Addr) (fs : List (Str × V))
  | own (x : Addr)
  | xd (fs : List (Str × V))
  | met (f x : Addr)
  | rng (lo hi : Int)
  | frz (o : Obj) (u : HO)
  | tbl (ps : Array Value)
  | ext (φ : Heap→Prop)
noncomputable abbrev Hp := Addr→Option HO
noncomputable def upd (H : Hp) (a : Addr) (o : HO) : Hp := fun b => if b = a then some o else H b
theorem zam {H : Hp} {a : Addr} {o : HO} : upd H a o a = some o := by unfold upd; rw [if_pos rfl]
theorem zay {H : Hp} {a b : Addr} {o : HO} (h : b≠a) : upd H a o b = H b := by unfold upd; rw [if_neg h]
theorem zrd {H : Hp} {a b : Addr} {o u : HO} (h : H a = some o) (h' : H b = some u) (d : o≠u) : a≠b := by
  intro e; subst e; rw [h] at h'; exact d (Option.some.inj h')
theorem zbp {H : Hp} {a b : Addr} {o : HO} (h : H a = some o) (h' : H b = none) : a≠b := by
  intro e; subst e; rw [h] at h'; cases h'
section
variable (P : Program) (w : World)
noncomputable def zaU (H : Hp) (h : Heap) (a : Addr) : HO→Prop
  | .lst xs => xs.length≤sizeLine∧∃ (its : List Value) (n : Nat),Vals xs its∧h.get? a = some { cls := .type "list",data := .seq its.toArray n }
  | .tup xs => xs.length≤sizeLine∧∃ its : List Value,Vals xs its∧IsTup h a its.toArray∧∃ o,h.get? a = some o∧o.dict = none
  | .dK kvs => kvs.length≤sizeLine∧(a == sysModules) = false∧∃ vs,KV kvs vs∧h.DictOf (za3 P w) a vs
  | .dT kvs => kvs.length≤sizeLine∧(a == sysModules) = false∧∃ xs : List (List Key × Addr × Value),
      Paired (fun (p : List Key × V) (q : List Key × Addr × Value) => p.1 = q.1∧H q.2.1 = some (.tup (p.1.map kV))∧RelV p.2 q.2.2) kvs xs ∧
      ∃ o es ep,h.get? a = some o∧o.ExactDict∧o.data = .dict es ep∧es.toList = xs.map (entryOfKey (tupleKind (za3 P w)))∧(xs.map (·.1)).Nodup
  | .set S n => h.SetOf (intKind P w) a S n
  | .ins C dx fs => H dx = some (.own a)∧fs.length≤1000∧dx≠a∧h.get? a = some (PySem.W.instObj C dx) ∧
      ∃ mA,h.Ns1 dx mA∧(∀ f,RelO (fs.lookup f) (mA f))∧PySem.Within mA (fs.map (·.1))
  | .own _ => ∃ o,h.get? a = some o
  | .xd fs => ∃ mA,h.Ns1 a mA∧∀ f,RelO (fs.lookup f) (mA f)
  | .rng lo hi => ∃ t u v,h.get? a = some { cls := .type "range",data := .fields #[.int lo t,.int hi u,.int 1 v] }
  | .frz o u => h.get? a = some o∧zaU H h a u
  | .tbl ps => h.get? a = some { cls := .none,data := .fields ps }
  | .met f x => h.get? a = some (PySem.W.methodObj (.ref f) (.ref x))
  | .ext φ => φ h∧(∃ o,h.get? a = some o)∧∀ h1 h2 : Heap,φ h1→(∀ o,h1.get? a = some o→h2.get? a = some o)→φ h2
noncomputable def HOk (H : Hp) (h : Heap) : Prop := ∀ a o,H a = some o→zaU P w H h a o
end
section
variable {P : Program} {w : World} {H H' : Hp} {h h' : Heap} {a : Addr} {o : HO}
theorem zaU.lt (x : zaU P w H h a o) : a < h.objs.size := by
  cases o with
  | lst xs => obtain ⟨_,_,_,_,e⟩ := x; exact Heap.lt_size e
  | tup xs => obtain ⟨_,_,_,p,_⟩ := x; exact p.lt
  | dK kvs => obtain ⟨_,_,_,_,o,_,_,e,_⟩ := x; exact Heap.lt_size e
  | dT kvs => obtain ⟨_,_,_,_,o,_,_,e,_⟩ := x; exact Heap.lt_size e
  | set S n => obtain ⟨o,_,_,_,e,_⟩ := x; exact Heap.lt_size e
  | ins C dx fs => obtain ⟨_,_,_,e,_⟩ := x; exact Heap.lt_size e
  | own y => obtain ⟨_,e⟩ := x; exact Heap.lt_size e
  | xd fs => obtain ⟨_,⟨_,_,_,e,_⟩,_⟩ := x; exact Heap.lt_size e
  | rng lo hi => obtain ⟨_,_,_,e⟩ := x; exact Heap.lt_size e
  | frz ob u => obtain ⟨e,_⟩ := x; exact Heap.lt_size e
  | tbl ps => exact Heap.lt_size (show h.get? a = some _ from x)
  | met f y => exact Heap.lt_size (show h.get? a = some _ from x)
  | ext φ => obtain ⟨_,⟨_,e⟩,_⟩ := x; exact Heap.lt_size e
theorem Paired.mapP {α β : Type} {F G : α→β→Prop} {l₁ : List α} {l₂ : List β} (h : Paired F l₁ l₂) (f : ∀ a b,F a b→G a b) : Paired G l₁ l₂ := by
  induction h with
  | nil => exact .nil
  | cons r _ ih => exact .cons (f _ _ r) ih
theorem zaU.stay (x : zaU P w H h a o) (k : ∀ b u,(b = a∨H b = some (.own a))→h.get? b = some u→h'.get? b = some u)
    (ho : ∀ b,H b = some (.own a)→H' b = some (.own a)) (ht : ∀ b xs,H b = some (.tup xs)→H' b = some (.tup xs)) : zaU P w H' h' a o := by
  induction o with
  | lst xs => obtain ⟨z,its,n,r,e⟩ := x; exact ⟨z,its,n,r,k _ _ (.inl rfl) e⟩
  | tup xs => obtain ⟨z,its,r,⟨ob,e,c⟩,ob2,e2,c2⟩ := x; exact ⟨z,its,r,⟨ob,k _ _ (.inl rfl) e,c⟩,ob2,k _ _ (.inl rfl) e2,c2⟩
  | dK kvs => obtain ⟨z,y,vs,r,ob,es,ep,e,c⟩ := x; exact ⟨z,y,vs,r,ob,es,ep,k _ _ (.inl rfl) e,c⟩
  | dT kvs =>
    obtain ⟨z,y,xs,r,ob,es,ep,e,c⟩ := x
    exact ⟨z,y,xs,Paired.mapP r fun p q z => ⟨z.1,ht _ _ z.2.1,z.2.2⟩,ob,es,ep,k _ _ (.inl rfl) e,c⟩
  | set S n => obtain ⟨ob,es,ep,t,e,c⟩ := x; exact ⟨ob,es,ep,t,k _ _ (.inl rfl) e,c⟩
  | ins C dx fs =>
    obtain ⟨d,z,ne,e,mA,⟨od,es,ep,e2,c⟩,r⟩ := x
    exact ⟨ho _ d,z,ne,k _ _ (.inl rfl) e,mA,⟨od,es,ep,k _ _ (.inr d) e2,c⟩,r⟩
  | own y => obtain ⟨ob,e⟩ := x; exact ⟨ob,k _ _ (.inl rfl) e⟩
  | xd fs => obtain ⟨mA,⟨od,es,ep,e,c⟩,r⟩ := x; exact ⟨mA,⟨od,es,ep,k _ _ (.inl rfl) e,c⟩,r⟩
  | rng lo hi => obtain ⟨t,u,v,e⟩ := x; exact ⟨t,u,v,k _ _ (.inl rfl) e⟩
  | frz ob u ih => obtain ⟨e,q⟩ := x; exact ⟨k _ _ (.inl rfl) e,ih q⟩
  | tbl ps =>
    have e : h.get? a = some { cls := .none,data := .fields ps } := x
    show h'.get? a = some { cls := .none,data := .fields ps }
    exact k a _ (.inl rfl) e
  | met f y =>
    have e : h.get? a = some (PySem.W.methodObj (.ref f) (.ref y)) := x
    show h'.get? a = some (PySem.W.methodObj (.ref f) (.ref y))
    exact k a _ (.inl rfl) e
  | ext φ => obtain ⟨p,⟨o,e⟩,st⟩ := x; exact ⟨st _ _ p fun o q => k _ _ (.inl rfl) q,⟨o,k _ _ (.inl rfl) e⟩,st⟩
theorem HOk.lt (x : HOk P w H h) (e : H a = some o) : a < h.objs.size := (x a o e).lt
theorem HOk.fresh (x : HOk P w H h) (e : h.objs.size≤a) : H a = none := by
  cases q : H a with
  | none => rfl
  | some u => exact absurd (Nat.lt_of_lt_of_le (x.lt q) e) (Nat.lt_irrefl _)
theorem HOk.kept (x : HOk P w H h) (k : ∀ b u,h.get? b = some u→h'.get? b = some u) : HOk P w H h' := fun a o e =>
  (x a o e).stay (fun b u _ q => k b u q) (fun _ q => q) fun _ _ q => q
theorem HOk.laid (x : HOk P w H h) (k : ∀ b u,h.get? b = some u→h'.get? b = some u) (hp : h.objs.size≤a) (new : zaU P w (upd H a o) h' a o) : HOk P w (upd H a o) h' := fun b u e => by
  have hn := x.fresh hp
  by_cases hb : b = a
  · subst hb; rw [zam] at e; cases e; exact new
  · rw [zay hb] at e
    exact (x b u e).stay (fun c v _ q => k c v q) (fun c q => by rw [zay (zbp q hn)]; exact q) fun c xs q => by rw [zay (zbp q hn)]; exact q
end
noncomputable def Rd (H : Hp) (a : Addr) (u : HO) : Prop := H a = some u∨∃ o,H a = some (.frz o u)
theorem Rd.ok {P : Program} {w : World} {H : Hp} {h : Heap} {a : Addr} {u : HO} (r : Rd H a u) (x : HOk P w H h) : zaU P w H h a u := by
  rcases r with r | ⟨o,r⟩
  · exact x a u r
  · obtain ⟨_,q⟩ := x a _ r
    exact q
noncomputable def Mut : Option HO→Prop
  | some (.lst _) => True
  | some (.dK _) => True
  | some (.dT _) => True
  | some (.set _ _) => True
  | some (.ins _ _ _) => True
  | some (.ext _) => True
  | _ => False
section
variable {P : Program} {w : World} {H : Hp} {h h' : Heap} {x e : Addr} {o' : HO}
theorem HOk.write (ok : HOk P w H h) (mu : Mut (H x)) (he : e = x∨H e = some (.own x)) (k : ∀ b u,b≠e→h.get? b = some u→h'.get? b = some u) (heo : ∃ u,h'.get? e = some u)
    (new : zaU P w (upd H x o') h' x o') : HOk P w (upd H x o') h' := fun b u q => by
  have nown : ∀ c y,H c = some (.own y)→c≠x := fun c y r z => by subst z; rw [r] at mu; exact mu
  have ntup : ∀ c xs,H c = some (.tup xs)→c≠x := fun c xs r z => by subst z; rw [r] at mu; exact mu
  by_cases hb : b = x
  · subst hb; rw [zam] at q; cases q; exact new
  · rw [zay hb] at q
    by_cases hbe : b = e
    · have q' : H b = some (.own x) := by
        rcases he with z | z
        · exact absurd (hbe.trans z) hb
        · rw [hbe]; exact z
      rw [q] at q'; cases q'
      obtain ⟨v,hv⟩ := heo
      exact ⟨v,by rw [hbe]; exact hv⟩
    · refine (ok b u q).stay (fun c v hc r => k c v ?_ r) (fun c r => by rw [zay (nown c b r)]; exact r) fun c xs r => by rw [zay (ntup c xs r)]; exact r
      rcases hc with rfl | hc
      · exact hbe
      · rintro rfl
        rcases he with z | z
        · exact nown c b hc z
        · rw [hc] at z; cases z; exact hb rfl
end
structure Un (fs ex : List Addr) (H H' : Hp) (h h' : Heap) : Prop where
  keep : ∀ b o,h.get? b = some o→H b = none→b∉fs→b∉ex→h'.get? b = some o
  slot : ∀ b o,h.get? b = some o→H b = none→b∈fs→b∉ex→∃ sl,h'.get? b = some { o with slots := sl }
  free : ∀ b o,h.get? b = some o→H b = none→b∉ex→H' b = none
  there : ∀ b o,h.get? b = some o→b∉ex→∃ o',h'.get? b = some o'
  tups : ∀ b xs,H b = some (.tup xs)→H' b = some (.tup xs)
  frzs : ∀ b o u,H b = some (.frz o u)→H' b = some (.frz o u)
  tbls : ∀ b ps,H b = some (.tbl ps)→∃ more,H' b = some (.tbl (ps++more))
section
variable {fs fs' ex ex' : List Addr} {H H1 H2 : Hp} {h h1 h2 h' : Heap} {a x e : Addr} {o : HO}
theorem Un.any (u : Un fs ex H H1 h h1) {b : Addr} {ob : Obj} (q : h.get? b = some ob) (n : H b = none) (hx : b∉ex) : ∃ sl,h1.get? b = some { ob with slots := sl } := by
  by_cases hb : b∈fs
  · exact u.slot b ob q n hb hx
  · exact ⟨ob.slots,u.keep b ob q n hb hx⟩
theorem Un.trans (a : Un fs ex H H1 h h1) (b : Un fs ex H1 H2 h1 h2) : Un fs ex H H2 h h2 where
  keep := fun c ob q n hc hx => b.keep c ob (a.keep c ob q n hc hx) (a.free c ob q n hx) hc hx
  slot := fun c ob q n hc hx => by
    obtain ⟨sl,e1⟩ := a.slot c ob q n hc hx
    obtain ⟨sl',e2⟩ := b.slot c _ e1 (a.free c ob q n hx) hc hx
    exact ⟨sl',e2⟩
  free := fun c ob q n hx => by
    obtain ⟨o',e1⟩ := a.there c ob q hx
    exact b.free c o' e1 (a.free c ob q n hx) hx
  there := fun c ob q hx => by
    obtain ⟨o',e1⟩ := a.there c ob q hx
    exact b.there c o' e1 hx
  tups := fun c xs q => b.tups c xs (a.tups c xs q)
  frzs := fun c ob xs q => b.frzs c ob xs (a.frzs c ob xs q)
  tbls := fun c ps q => by
    obtain ⟨m1,e1⟩ := a.tbls c ps q
    obtain ⟨m2,e2⟩ := b.tbls c _ e1
    exact ⟨m1++m2,by rw [e2,Array.append_assoc]⟩
theorem Un.kept (k : ∀ b u,h.get? b = some u→h'.get? b = some u) : Un fs ex H H h h' :=
  ⟨fun b ob q _ _ _ => k b ob q,fun b ob q _ _ _ => ⟨ob.slots,k b ob q⟩,fun _ _ _ n _ => n,fun b ob q _ => ⟨ob,k b ob q⟩,fun _ _ q => q,fun _ _ _ q => q,fun _ ps q => ⟨#[],by rw [q]; simp⟩⟩
theorem Un.refl : Un fs ex H H h h := Un.kept fun _ _ q => q
theorem Un.laid (k : ∀ b u,h.get? b = some u→h'.get? b = some u) (hp : h.objs.size≤a) (hn : H a = none) : Un fs ex H (upd H a o) h h' where
  keep := fun b u q _ _ _ => k b u q
  slot := fun b u q _ _ _ => ⟨u.slots,k b u q⟩
  free := fun b u q n _ => by rw [zay (Nat.ne_of_lt (Nat.lt_of_lt_of_le (Heap.lt_size q) hp))]; exact n
  there := fun b u q _ => ⟨u,k b u q⟩
  tups := fun b xs q => by rw [zay (zbp q hn)]; exact q
  frzs := fun b u xs q => by rw [zay (zbp q hn)]; exact q
  tbls := fun b ps q => ⟨#[],by rw [zay (zbp q hn),q]; simp⟩
theorem Un.write (mu : Mut (H x)) (he : e = x∨H e = some (.own x)) (k : ∀ b u,b≠e→h.get? b = some u→h'.get? b = some u) (heo : ∃ u,h'.get? e = some u) : Un fs ex H (upd H x o) h h' := by
  have hx : ∀ b,H b = none→b≠x := fun b n z => by subst z; rw [n] at mu; exact mu
  have hb : ∀ b,H b = none→b≠e := fun b n z => by
    subst z
    rcases he with r | r
    · exact hx b n r
    · rw [n] at r; cases r
  have hm : ∀ b u,H b = some u→¬ Mut (some u)→b≠x := fun b u q nm z => by subst z; rw [q] at mu; exact nm mu
  refine ⟨fun b u q n _ _ => k b u (hb b n) q,fun b u q n _ _ => ⟨u.slots,k b u (hb b n) q⟩,fun b u q n _ => by rw [zay (hx b n)]; exact n,fun b u q _ => ?_,
    fun b xs q => by rw [zay (hm b _ q fun z => z)]; exact q,fun b u xs q => by rw [zay (hm b _ q fun z => z)]; exact q,fun b ps q => ⟨#[],by rw [zay (hm b _ q fun z => z),q]; simp⟩⟩
  by_cases hbe : b = e
  · subst hbe; exact heo
  · exact ⟨u,k b u hbe q⟩
theorem Un.mono (u : Un fs ex H H1 h h1) (hs : ∀ b∈fs,b∈fs') (hx : ∀ b∈ex,b∈ex') : Un fs' ex' H H1 h h1 :=
  ⟨fun b ob q n hb he => u.keep b ob q n (fun z => hb (hs b z)) fun z => he (hx b z),fun _ _ q n _ he => u.any q n fun z => he (hx _ z),fun b ob q n he => u.free b ob q n fun z => he (hx b z),fun b ob q he => u.there b ob q fun z => he (hx b z),u.tups,u.frzs,u.tbls⟩
end
noncomputable def trk (h : Heap) (H : Hp) : List Addr := (List.range h.objs.size).filter fun a => (H a).isSome
noncomputable def hidT (h : Heap) (H : Hp) : Heap := PySem.W.hideAll h (trk h H)
theorem zkP (h : Heap) (H : Hp) : (hidT h H).objs.size = h.objs.size := PySem.W.hideAll_size _ _
theorem zl3 {h : Heap} {H : Hp} {b : Addr} {o : Obj} (e : h.get? b = some o) (n : H b = none) : (hidT h H).get? b = some o :=
  PySem.W.hideAll_get _ e fun hm => by
    have q : (H b).isSome = true := (List.mem_filter.mp hm).2
    rw [n] at q; simp at q
theorem znU {h : Heap} {H : Hp} {b : Addr} {o : Obj} (e : (hidT h H).get? b = some o) : h.get? b = some o∧H b = none := by
  have e' : h.get? b = some o := PySem.W.of_hideAll (trk h H) e
  refine ⟨e',?_⟩
  cases q : H b with
  | none => rfl
  | some x =>
    have hm : b∈trk h H := List.mem_filter.mpr ⟨List.mem_range.mpr (Heap.lt_size e'),by simp [q]⟩
    have z : (hidT h H).get? b = none := PySem.W.hideAll_none (trk h H) hm
    rw [z] at e; cases e
noncomputable def zoq (g h : Heap) (L : Addr) : List (Addr × Obj) := (List.range h.objs.size).filterMap fun a => if a = L∨(g.get? a).isSome = true then none else (h.get? a).map fun o => (a,o)
noncomputable def rest (g h : Heap) (L d : Addr) : List (Addr × Obj) := (zoq g h L).filter fun p => decide (p.1≠d)
end L2
namespace L2
open PySem PySem.Spec PyProof.Rows
structure Mod (K : PySem.W.Frag) (mg : Str→Option Value) (base : Heap) : Prop where
  kin : K.In base
  glob : base.Ns mainGlobals mg
  blt : ∃ mb,base.Ns builtinsNs mb∧∀ x : Str,x≠"__name__"→mb x = bootBuiltins x
  nolimit : base.NoLimit
structure Cx where
  prog : Program
  w : World
  K : PySem.W.Frag
  mg : Str→Option Value
  base : Heap
  A : Around
  N : List Str
  s₀ : Shared
  H₀ : Hp
  env : Env
  outer : List Env
  stack : List Env
  ex : List Addr
  fn : Str→Bool
  calm : Bool
  pn : List (Addr × Obj)
  xe : Value→Shared→Prop
noncomputable def frs (l : List Env) : List Addr := l.filterMap (·.frame)
noncomputable abbrev Cx.fs (X : Cx) : List Addr := frs X.outer
noncomputable def Vis (sc : Scope) (x : Str) : Prop := sc.names.lookup x = some .local∨sc.names.lookup x = some .cell∨sc.names.lookup x = some .free
noncomputable def Loc (sc : Scope) (x : Str) : Prop := sc.names.lookup x = some .local∨sc.names.lookup x = some .cell
noncomputable def Look (env : Env) (h : Heap) (m : Str→Option Value) (x : Str) (u : Value) : Prop :=
  (env.kindOf x = some .local∧m x = some u)∨((env.kindOf x = some .cell∨env.kindOf x = some .free)∧∃ c,env.cells.lookup x = some c∧h.IsCell c (some u))
structure Cx.Ok (X : Cx) : Prop where
  mod : Mod X.K X.mg X.base
  kind : X.env.scope.kind = .function
  glob : X.env.globals = mainGlobals
  blt : X.env.builtins = builtinsNs
  above : X.s₀.heap.objs.size≤X.env.locals
  inj : ∀ x y c,X.env.cells.lookup x = some c→X.env.cells.lookup y = some c→x = y
  has : ∀ x,(X.env.kindOf x = some .cell∨X.env.kindOf x = some .free)→∃ c,X.env.cells.lookup x = some c
  cab : ∀ x c,X.fn x = true→X.env.cells.lookup x = some c→X.s₀.heap.objs.size≤c
  hd : X.calm = true→X.A.handled = none
  frames : X.A.frames = some X.stack
  stk : X.stack = X.outer∨(X.stack = X.env::X.outer∧X.env.frame = some X.env.locals)
  exf : ∀ b∈X.ex,b≠X.env.locals∧∀ x c,X.env.cells.lookup x = some c→c≠b
  bs : ∀ b o,X.base.get? b = some o→X.s₀.heap.get? b = some o∧X.H₀ b = none
  bsz : X.base.objs.size≤X.s₀.heap.objs.size
  noex : ∀ b o,X.base.get? b = some o→b∉X.ex
  exfs : ∀ b∈X.ex,b∉X.fs
  funs : X.s₀.heap.FunFrames X.base X.outer
  frf : ∀ b∈X.fs,X.H₀ b = none
structure Inv (X : Cx) (pins : List (Addr × Obj)) (σ : List (Option V)) (H : Hp) (s : Shared) : Prop where
  ok : X.Ok
  os : s.os = X.s₀.os
  bare : AllBare s.gens
  base : Un X.fs X.ex X.H₀ H X.s₀.heap s.heap
  loc : ∃ m,s.heap.Ns X.env.locals m∧∀ (i : Nat) (x : Str) (v : V),X.N[i]? = some x→σ[i]? = some (some v)→Vis X.env.scope x→∃ u,RelV v u∧Look X.env s.heap m x u
  cell : ∀ x c,X.env.cells.lookup x = some c→∃ v,s.heap.IsCell c v
  free : H X.env.locals = none
  freeC : ∀ x c,X.env.cells.lookup x = some c→H c = none
  pin : ∀ p∈X.pn++pins,s.heap.get? p.1 = some p.2∧H p.1 = none∧p.1≠X.env.locals∧p.1∉X.fs∧∀ v,p.2.data≠.cell v
  hok : HOk X.prog X.w H s.heap
  len : σ.length = X.N.length
section
variable {X : Cx} {pins : List (Addr × Obj)} {σ : List (Option V)} {H H' : Hp} {s : Shared} {h' : Heap}
theorem Cx.Ok.nofr (ok : X.Ok) {b : Addr} {o : Obj} (e : X.base.get? b = some o) : b∉X.fs := fun hb => by
  have := (ok.funs.mem hb).1
  rw [e] at this; cases this
theorem Inv.bs (I : Inv X pins σ H s) : ∀ b o,X.base.get? b = some o→s.heap.get? b = some o∧H b = none := fun b o e =>
  ⟨I.base.keep b o (I.ok.bs b o e).1 (I.ok.bs b o e).2 (I.ok.nofr e) (I.ok.noex b o e),I.base.free b o (I.ok.bs b o e).1 (I.ok.bs b o e).2 (I.ok.noex b o e)⟩
theorem Inv.bk (I : Inv X pins σ H s) : ∀ b o,X.base.get? b = some o→s.heap.get? b = some o := fun b o e => (I.bs b o e).1
theorem Inv.mod (I : Inv X pins σ H s) : Mod X.K X.mg X.base := I.ok.mod
theorem Inv.kIn (I : Inv X pins σ H s) : X.K.In s.heap := I.ok.mod.kin.keeps I.bk
theorem Inv.nolimit (I : Inv X pins σ H s) : s.heap.NoLimit := I.ok.mod.nolimit.keeps I.bk
theorem Inv.fr (I : Inv X pins σ H s) : ∃ m,Fr X.base X.env.locals s.heap m :=
  let ⟨m,hn,_⟩ := I.loc
  ⟨m,hn,I.bk,Nat.le_trans I.ok.bsz I.ok.above⟩
theorem Inv.lt (I : Inv X pins σ H s) : X.env.locals < s.heap.objs.size := let ⟨_,hn,_⟩ := I.loc; hn.lt
theorem Inv.sz (I : Inv X pins σ H s) : X.s₀.heap.objs.size≤s.heap.objs.size := Nat.le_trans I.ok.above (Nat.le_of_lt I.lt)
theorem Inv.nofs (I : Inv X pins σ H s) {a : Addr} (h : s.heap.objs.size≤a) : a∉X.fs := fun hb => by
  obtain ⟨_,o,ho,_⟩ := I.ok.funs.mem hb
  exact absurd (Nat.lt_of_lt_of_le (Heap.lt_size ho) (Nat.le_trans I.sz h)) (Nat.lt_irrefl _)
theorem Inv.cne (I : Inv X pins σ H s) : ∀ x c,X.env.cells.lookup x = some c→c≠X.env.locals := fun x c e z => by
  obtain ⟨v,o,ho,hd⟩ := I.cell x c e
  obtain ⟨m,⟨o',es,ep,ho',hd',_⟩,_⟩ := I.loc
  rw [z,ho'] at ho; cases ho; rw [hd'] at hd; cases hd
theorem Inv.funs (I : Inv X pins σ H s) : s.heap.FunFrames X.base X.outer := by
  have all : ∀ (l : List Env),(∀ b∈frs l,b∈X.fs)→X.s₀.heap.FunFrames X.base l→s.heap.FunFrames X.base l := by
    intro l
    induction l with
    | nil => intro _ _; trivial
    | cons env r ih =>
      intro hs hl
      obtain ⟨hk,⟨L,o,hf,hn,ho,hd⟩,hr⟩ := hl
      have hL : L∈X.fs := hs L (by unfold frs; rw [List.filterMap_cons,hf]; exact List.mem_cons_self)
      obtain ⟨sl,e⟩ := I.base.slot L o ho (I.ok.frf L hL) hL fun z => I.ok.exfs L z hL
      exact ⟨hk,⟨L,_,hf,hn,e,hd⟩,ih (fun b hb => hs b (by unfold frs; rw [List.filterMap_cons,hf]; exact List.mem_cons_of_mem _ hb)) hr⟩
  exact all X.outer (fun _ hb => hb) I.ok.funs
theorem Inv.stack (I : Inv X pins σ H s) : s.heap.FunFrames X.base X.stack := by
  rcases I.ok.stk with e | ⟨e,hf⟩
  · rw [e]; exact I.funs
  · rw [e]
    obtain ⟨m,hn,_⟩ := I.loc
    refine .cons (by rw [I.ok.kind]; decide) hf hn ?_ I.funs
    exact Heap.get?_none_of_le (Nat.le_trans I.ok.bsz I.ok.above)
theorem Inv.stkSub (I : Inv X pins σ H s) : ∀ b∈frs X.stack,b∈X.env.locals::X.fs := fun b hb => by
  rcases I.ok.stk with e | ⟨e,hf⟩
  · rw [e] at hb; exact List.mem_cons_of_mem _ hb
  · rw [e] at hb
    unfold frs at hb
    rw [List.filterMap_cons,hf] at hb
    exact hb
theorem Inv.stkFree (I : Inv X pins σ H s) : ∀ b∈frs X.stack,H b = none := fun b hb => by
  rcases List.mem_cons.mp (I.stkSub b hb) with e | hb
  · rw [e]; exact I.free
  · obtain ⟨_,o,ho,_⟩ := I.ok.funs.mem hb
    exact I.base.free b o ho (I.ok.frf b hb) fun z => I.ok.exfs b z hb
theorem Inv.step {g' : Array GenState} {t' : Nat} {d' : Drawn} {ch : List Addr} (I : Inv X pins σ H s)
    (hch : ∀ b∈ch,(b∈X.ex∨X.s₀.heap.objs.size≤b)∧b≠X.env.locals∧(∀ x c,X.env.cells.lookup x = some c→c≠b)∧∀ p∈X.pn++pins,p.1≠b)
    (keep : ∀ b o,b≠X.env.locals→b∉X.fs→b∉ch→s.heap.get? b = some o→H b = none→h'.get? b = some o)
    (slot : ∀ b o,b≠X.env.locals→b∈X.fs→b∉ch→s.heap.get? b = some o→H b = none→∃ sl,h'.get? b = some { o with slots := sl }) (free : ∀ b o,b∉ch→s.heap.get? b = some o→H b = none→H' b = none)
    (there : ∀ b o,b∉ch→s.heap.get? b = some o→∃ o',h'.get? b = some o')
    (tups : ∀ b xs,H b = some (.tup xs)→H' b = some (.tup xs)) (frzs : ∀ b o u,H b = some (.frz o u)→H' b = some (.frz o u)) (tbls : ∀ b ps,H b = some (.tbl ps)→∃ more,H' b = some (.tbl (ps++more)))
    (ns : ∀ m,s.heap.Ns X.env.locals m→h'.Ns X.env.locals m) (hok : HOk X.prog X.w H' h') (hg : AllBare g') :
    Inv X pins σ H' { s with heap := h',gens := g',drawn := d',toks := t' } := by
  have neL : ∀ b o,X.s₀.heap.get? b = some o→b≠X.env.locals := fun b o e => Nat.ne_of_lt (Nat.lt_of_lt_of_le (Heap.lt_size e) I.ok.above)
  have neC : ∀ b o,X.s₀.heap.get? b = some o→b∉X.ex→b∉ch := fun b o e hx hb => by
    rcases (hch b hb).1 with z | z
    · exact hx z
    · exact absurd (Nat.lt_of_lt_of_le (Heap.lt_size e) z) (Nat.lt_irrefl _)
  have cellK : ∀ x c,X.env.cells.lookup x = some c→∀ v,s.heap.IsCell c v→h'.IsCell c v := fun x c e v ⟨o,ho,hd⟩ => by
    have nch : c∉ch := fun z => (hch c z).2.2.1 x c e rfl
    by_cases hc : c∈X.fs
    · obtain ⟨sl,q⟩ := slot c o (I.cne x c e) hc nch ho (I.freeC x c e)
      exact ⟨_,q,hd⟩
    · exact ⟨o,keep c o (I.cne x c e) hc nch ho (I.freeC x c e),hd⟩
  refine ⟨I.ok,I.os,hg,⟨fun b o e n hb hx => ?_,fun b o e n hb hx => ?_,fun b o e n hx => ?_,fun b o e hx => ?_,fun b xs e => tups b xs (I.base.tups b xs e),fun b o xs e => frzs b o xs (I.base.frzs b o xs e),fun b ps e => ?_⟩,?_,fun x c e => ?_,?_,fun x c e => ?_,fun p hp => ?_,hok,I.len⟩
  · exact keep b o (neL b o e) hb (neC b o e hx) (I.base.keep b o e n hb hx) (I.base.free b o e n hx)
  · obtain ⟨sl,e1⟩ := I.base.slot b o e n hb hx
    obtain ⟨sl',e2⟩ := slot b _ (neL b o e) hb (neC b o e hx) e1 (I.base.free b o e n hx)
    exact ⟨sl',e2⟩
  · obtain ⟨o',e1⟩ := I.base.there b o e hx
    exact free b o' (neC b o e hx) e1 (I.base.free b o e n hx)
  · obtain ⟨o',e1⟩ := I.base.there b o e hx
    exact there b o' (neC b o e hx) e1
  · obtain ⟨m1,e1⟩ := I.base.tbls b ps e
    obtain ⟨m2,e2⟩ := tbls b _ e1
    exact ⟨m1++m2,by rw [e2,Array.append_assoc]⟩
  · obtain ⟨m,hn,hl⟩ := I.loc
    refine ⟨m,ns m hn,fun i x v e1 e2 e3 => ?_⟩
    obtain ⟨u,r,l⟩ := hl i x v e1 e2 e3
    refine ⟨u,r,?_⟩
    rcases l with l | ⟨k,c,e,z⟩
    · exact .inl l
    · exact .inr ⟨k,c,e,cellK x c e _ z⟩
  · obtain ⟨v,z⟩ := I.cell x c e
    exact ⟨v,cellK x c e v z⟩
  · obtain ⟨m,⟨o,_,_,ho,_⟩,_⟩ := I.loc
    exact free _ o (fun z => (hch _ z).2.1 rfl) ho I.free
  · obtain ⟨v,o,ho,hd⟩ := I.cell x c e
    exact free c o (fun z => (hch c z).2.2.1 x c e rfl) ho (I.freeC x c e)
  · obtain ⟨e,n,ne,nf,d⟩ := I.pin p hp
    have nch : p.1∉ch := fun z => (hch p.1 z).2.2.2 p hp rfl
    exact ⟨keep p.1 p.2 ne nf nch e n,free p.1 p.2 nch e n,ne,nf,d⟩
theorem Inv.un {t' : Nat} (I : Inv X pins σ H s) (u : Un X.fs [] H H' s.heap h') (hok : HOk X.prog X.w H' h') : Inv X pins σ H' { s with heap := h',toks := t' } := by
  obtain ⟨m,⟨o,es,ep,ho,r⟩,_⟩ := id I.loc
  obtain ⟨sl,hL⟩ := u.any ho I.free (by simp)
  exact I.step (g' := s.gens) (d' := s.drawn) (ch := []) (fun _ z => nomatch z) (fun b o _ hb _ e n => u.keep b o e n hb (by simp)) (fun b o _ hb _ e n => u.slot b o e n hb (by simp)) (fun b o _ e n => u.free b o e n (by simp)) (fun b o _ e => u.there b o e (by simp)) u.tups u.frzs u.tbls (fun m' hm => by
    obtain ⟨o',es',ep',ho',r'⟩ := hm
    rw [ho] at ho'; cases ho'
    exact ⟨_,es',ep',hL,r'⟩) hok I.bare
theorem Inv.call {g' : Array GenState} {t' : Nat} {d' : Drawn} {ch : List Addr} (I : Inv X pins σ H s) (u : Un (frs X.stack) ch H H' s.heap h') (hok : HOk X.prog X.w H' h') (hg : AllBare g')
    (hch : ∀ b∈ch,(b∈X.ex∨X.s₀.heap.objs.size≤b)∧b≠X.env.locals∧(∀ x c,X.env.cells.lookup x = some c→c≠b)∧∀ p∈X.pn++pins,p.1≠b) :
    Inv X pins σ H' { s with heap := h',gens := g',drawn := d',toks := t' } := by
  obtain ⟨m,⟨o,es,ep,ho,r⟩,_⟩ := id I.loc
  obtain ⟨sl,hL⟩ := u.any ho I.free fun z => (hch _ z).2.1 rfl
  exact I.step (ch := ch) hch (fun b o hL hb hc e n => u.keep b o e n (fun z => (List.mem_cons.mp (I.stkSub b z)).elim hL hb) hc) (fun b o _ _ hc e n => u.any e n hc) (fun b o hc e n => u.free b o e n hc) (fun b o hc e => u.there b o e hc) u.tups u.frzs u.tbls (fun m' hm => by
    obtain ⟨o',es',ep',ho',r'⟩ := hm
    rw [ho] at ho'; cases ho'
    exact ⟨_,es',ep',hL,r'⟩) hok hg
theorem Inv.turned {t' : Nat} {it : Addr} (I : Inv X pins σ H s) (k : ∀ b o,b≠it→s.heap.get? b = some o→h'.get? b = some o) (hn : H it = none) (hL : it≠X.env.locals)
    (h1 : it∈X.ex∨X.s₀.heap.objs.size≤it) (h2 : ∀ x c,X.env.cells.lookup x = some c→c≠it) (h3 : ∀ p∈X.pn++pins,p.1≠it) : Inv X pins σ H { s with heap := h',toks := t' } := by
  have nit : ∀ b u,H b = some u→b≠it := fun b u e z => by rw [z,hn] at e; cases e
  refine I.step (g' := s.gens) (d' := s.drawn) (ch := [it]) (fun b hb => ?_) (fun b o _ _ hc e _ => k b o (fun z => hc (by simp [z])) e) (fun b o _ _ hc e _ => ⟨o.slots,k b o (fun z => hc (by simp [z])) e⟩) (fun _ _ _ _ n => n)
    (fun b o hc e => ⟨o,k b o (fun z => hc (by simp [z])) e⟩) (fun _ _ e => e) (fun _ _ _ e => e) (fun b ps e => ⟨#[],by rw [e]; simp⟩) (fun m hm => ?_) (fun b u e => ?_) I.bare
  · have e : b = it := by simpa using hb
    subst e
    exact ⟨h1,hL,h2,h3⟩
  · obtain ⟨o,es,ep,ho,r⟩ := hm
    exact ⟨o,es,ep,k _ o (Ne.symm hL) ho,r⟩
  · refine (I.hok b u e).stay (fun c v hc q => k c v ?_ q) (fun _ q => q) fun _ _ q => q
    rcases hc with z | z
    · rw [z]; exact nit b u e
    · exact nit c _ z
theorem Inv.tok (I : Inv X pins σ H s) (t : Nat) : Inv X pins σ H { s with toks := t } := I.un (h' := s.heap) (t' := t) Un.refl I.hok
theorem Inv.kept {t' : Nat} (I : Inv X pins σ H s) (k : ∀ b u,s.heap.get? b = some u→h'.get? b = some u) : Inv X pins σ H { s with heap := h',toks := t' } := I.un (Un.kept k) (I.hok.kept k)
theorem Inv.laid {a : Addr} {o : HO} {t' : Nat} (I : Inv X pins σ H s) (k : ∀ b u,s.heap.get? b = some u→h'.get? b = some u) (hp : s.heap.objs.size≤a) (new : zaU X.prog X.w (upd H a o) h' a o) :
    Inv X pins σ (upd H a o) { s with heap := h',toks := t' } := I.un (Un.laid k hp (I.hok.fresh hp)) (I.hok.laid k hp new)
theorem Inv.write {x e : Addr} {o : HO} {t' : Nat} (I : Inv X pins σ H s) (mu : Mut (H x)) (he : e = x∨H e = some (.own x)) (k : ∀ b u,b≠e→s.heap.get? b = some u→h'.get? b = some u) (heo : ∃ u,h'.get? e = some u)
    (new : zaU X.prog X.w (upd H x o) h' x o) : Inv X pins σ (upd H x o) { s with heap := h',toks := t' } := I.un (Un.write mu he k heo) (I.hok.write mu he k heo new)
theorem Inv.pins_of {pins' : List (Addr × Obj)} (I : Inv X pins σ H s) (h : ∀ p∈pins',s.heap.get? p.1 = some p.2∧H p.1 = none∧p.1≠X.env.locals∧p.1∉X.fs∧∀ v,p.2.data≠.cell v) : Inv X pins' σ H s :=
  ⟨I.ok,I.os,I.bare,I.base,I.loc,I.cell,I.free,I.freeC,fun p hp => (List.mem_append.mp hp).elim (fun z => I.pin p (List.mem_append_left _ z)) (h p),I.hok,I.len⟩
theorem zis {N : List Str} (hN : N.Nodup) {i j : Nat} {x : Str} (a : N[i]? = some x) (b : N[j]? = some x) : i = j := by
  obtain ⟨h1,e1⟩ := List.getElem?_eq_some_iff.mp a
  obtain ⟨h2,e2⟩ := List.getElem?_eq_some_iff.mp b
  exact (List.getElem_inj hN).mp (e1.trans e2.symm)
theorem zgU {M : Model} {A : Around} {E : Value→Shared→Prop} {i : Nat} {x : Str} {v : V} {u : Value} {Q : Unit→Shared→Prop} (I : Inv X pins σ H s) (hN : X.N.Nodup) (hi : X.N[i]? = some x) (hx : Loc X.env.scope x) (r : RelV v u)
    (h : ∀ s',Inv X pins (σ.set i (some v)) H s'→(∃ a,Heap.SameBut a s.heap s'.heap∧(a = X.env.locals∨X.env.cells.lookup x = some a))→Q () s') (hf : X.fn x = true∨X.env.scope.names.lookup x = some .local := by first | exact .inl rfl | exact .inr rfl | assumption) : wpAny M A (storeName X.env x u) Q E s := by
  obtain ⟨m,hn,hl⟩ := id I.loc
  have hcls : (X.env.scope.kind == .class || (X.env.scope.kind == .module && X.env.locals != X.env.globals)) = false := by rw [I.ok.kind]; rfl
  have hiσ : i < σ.length := by rw [I.len]; exact (List.getElem?_eq_some_iff.mp hi).1
  have cne := I.cne
  have tracked : ∀ {a : Addr} {h' : Heap},(∃ o,s.heap.get? a = some o∧H a = none)→Heap.SameBut a s.heap h'→HOk X.prog X.w H h' := fun {a h'} ha hs b ob e => by
    obtain ⟨_,_,hfree⟩ := ha
    refine (I.hok b ob e).stay (fun c w' hc q => (hs.2 c ?_).trans q) (fun _ q => q) fun _ _ q => q
    rintro rfl
    rcases hc with rfl | hc
    · rw [hfree] at e; cases e
    · rw [hfree] at hc; cases hc
  rcases hx with hk | hk
  · refine wpAny_storeName_local hk hn (fun h' hn' hs => ?_) hcls
    obtain ⟨oL,_,_,hoL,_⟩ := id hn
    refine h _ ⟨I.ok,I.os,I.bare,⟨fun b o e n hb hx => ?_,fun b o e n hb hx => ?_,I.base.free,fun b o e hx => ?_,I.base.tups,I.base.frzs,I.base.tbls⟩,⟨_,hn',fun j y v' e1 e2 e3 => ?_⟩,fun y c e => ?_,I.free,I.freeC,fun p hp => ?_,tracked ⟨oL,hoL,I.free⟩ hs,by simpa using I.len⟩ ⟨_,hs,.inl rfl⟩
    · exact (hs.2 b (Nat.ne_of_lt (Nat.lt_of_lt_of_le (Heap.lt_size e) I.ok.above))).trans (I.base.keep b o e n hb hx)
    · obtain ⟨sl,e1⟩ := I.base.slot b o e n hb hx
      exact ⟨sl,(hs.2 b (Nat.ne_of_lt (Nat.lt_of_lt_of_le (Heap.lt_size e) I.ok.above))).trans e1⟩
    · obtain ⟨o',e1⟩ := I.base.there b o e hx
      exact ⟨o',(hs.2 b (Nat.ne_of_lt (Nat.lt_of_lt_of_le (Heap.lt_size e) I.ok.above))).trans e1⟩
    · by_cases hj : j = i
      · subst hj
        rw [hi] at e1; cases e1
        rw [List.getElem?_set_self hiσ] at e2
        cases e2
        exact ⟨u,r,.inl ⟨hk,by simp⟩⟩
      · rw [List.getElem?_set_ne (Ne.symm hj)] at e2
        obtain ⟨u',r',q⟩ := hl j y v' e1 e2 e3
        refine ⟨u',r',?_⟩
        rcases q with ⟨k,e⟩ | ⟨k,c,e,z⟩
        · refine .inl ⟨k,?_⟩
          have : y≠x := fun e => hj (zis hN e1 (e ▸ hi))
          simp [this,e]
        · exact .inr ⟨k,c,e,z.sameBut hs (cne y c e)⟩
    · obtain ⟨w',z⟩ := I.cell y c e
      exact ⟨w',z.sameBut hs (cne y c e)⟩
    · obtain ⟨e,n,ne,nf,d⟩ := I.pin p hp
      exact ⟨(hs.2 p.1 ne).trans e,n,ne,nf,d⟩
  · have hfn : X.fn x = true := by
      rcases hf with z | z
      · exact z
      · rw [z] at hk; cases hk
    obtain ⟨c,hc⟩ := I.ok.has x (.inl hk)
    obtain ⟨w',z⟩ := I.cell x c hc
    refine wpAny_storeName_cell I.ok.kind hk hc z (fun h' hc' hs => ?_)
    obtain ⟨oc,hoc,hocd⟩ := id z
    refine h { s with heap := h' } ⟨I.ok,I.os,I.bare,⟨fun b o e n hb hx => ?_,fun b o e n hb hx => ?_,I.base.free,fun b o e hx => ?_,I.base.tups,I.base.frzs,I.base.tbls⟩,⟨m,hn.sameBut hs (Ne.symm (cne x c hc)),fun j y v' e1 e2 e3 => ?_⟩,fun y c' e => ?_,I.free,I.freeC,fun p hp => ?_,tracked ⟨oc,hoc,I.freeC x c hc⟩ hs,by simpa using I.len⟩ ⟨c,hs,.inr hc⟩
    · exact (hs.2 b (Nat.ne_of_lt (Nat.lt_of_lt_of_le (Heap.lt_size e) (I.ok.cab x c hfn hc)))).trans (I.base.keep b o e n hb hx)
    · obtain ⟨sl,e1⟩ := I.base.slot b o e n hb hx
      exact ⟨sl,(hs.2 b (Nat.ne_of_lt (Nat.lt_of_lt_of_le (Heap.lt_size e) (I.ok.cab x c hfn hc)))).trans e1⟩
    · obtain ⟨o',e1⟩ := I.base.there b o e hx
      exact ⟨o',(hs.2 b (Nat.ne_of_lt (Nat.lt_of_lt_of_le (Heap.lt_size e) (I.ok.cab x c hfn hc)))).trans e1⟩
    · by_cases hj : j = i
      · subst hj
        rw [hi] at e1; cases e1
        rw [List.getElem?_set_self hiσ] at e2
        cases e2
        exact ⟨u,r,.inr ⟨.inl hk,c,hc,hc'⟩⟩
      · rw [List.getElem?_set_ne (Ne.symm hj)] at e2
        obtain ⟨u',r',q⟩ := hl j y v' e1 e2 e3
        refine ⟨u',r',?_⟩
        rcases q with q | ⟨k,c',e,z'⟩
        · exact .inl q
        · refine .inr ⟨k,c',e,z'.sameBut hs ?_⟩
          rintro rfl
          exact hj (zis hN e1 (I.ok.inj _ _ _ e hc ▸ hi))
    · by_cases hcc : c' = c
      · subst hcc; exact ⟨_,hc'⟩
      · obtain ⟨w2,z2⟩ := I.cell y c' e
        exact ⟨w2,z2.sameBut hs hcc⟩
    · obtain ⟨e,n,ne,nf,d⟩ := I.pin p hp
      refine ⟨(hs.2 p.1 ?_).trans e,n,ne,nf,d⟩
      intro q
      rw [q,hoc] at e
      have q' : oc = p.2 := Option.some.inj e
      exact d w' (by rw [← q']; exact hocd)
theorem zic {M : Model} {A : Around} {E : Value→Shared→Prop} {i : Nat} {x : Str} {v : V} {u : Value} {Q : Unit→Shared→Prop} (I : Inv X pins σ H s) (hN : X.N.Nodup) (hi : X.N[i]? = some x) (hx : Loc X.env.scope x) (r : RelV v u)
    (h : ∀ s',Inv X pins (σ.set i (some v)) H s'→Q () s') (hf : X.fn x = true∨X.env.scope.names.lookup x = some .local := by first | exact .inl rfl | exact .inr rfl | assumption) : wpAny M A (storeName X.env x u) Q E s :=
  zgU I hN hi hx r (fun s' I' _ => h s' I') hf
theorem Inv.call' {s' : Shared} {ch : List Addr} (I : Inv X pins σ H s) (ho : s'.os = s.os) (u : Un (frs X.stack) ch H H' s.heap s'.heap) (hok : HOk X.prog X.w H' s'.heap) (hg : AllBare s'.gens)
    (hch : ∀ b∈ch,(b∈X.ex∨X.s₀.heap.objs.size≤b)∧b≠X.env.locals∧(∀ x c,X.env.cells.lookup x = some c→c≠b)∧∀ p∈X.pn++pins,p.1≠b) : Inv X pins σ H' s' := by
  obtain ⟨h',g',d',t',o'⟩ := s'
  have e : o' = s.os := ho
  subst e
  exact I.call (g' := g') (t' := t') (d' := d') u hok hg hch
end
noncomputable abbrev XK := Value→Option Addr→Hp→Prop
noncomputable abbrev St := List (Option V)
noncomputable abbrev VK := V→Hp→Prop
noncomputable abbrev TE := St→Hp→VK→Prop
noncomputable abbrev TT := St→Hp→(Bool→Hp→Prop)→Prop
noncomputable abbrev TA := St→Hp→(List V→Hp→Prop)→Prop
structure Ends where
  nx : St→Hp→Prop
  rt : VK
  bk : St→Hp→Prop := fun _ _ => False
  ct : St→Hp→Prop := fun _ _ => False
noncomputable abbrev TS := Ends→St→Hp→Prop
noncomputable def EP (X : Cx) (pins : List (Addr × Obj)) (σ : St) (Q : VK) (u : Value) (s' : Shared) : Prop := ∃ v H',Inv X pins σ H' s'∧RelV v u∧Q v H'
noncomputable def TP (X : Cx) (pins : List (Addr × Obj)) (σ : St) (Q : Bool→Hp→Prop) (b : Bool) (s' : Shared) : Prop := ∃ H',Inv X pins σ H' s'∧Q b H'
noncomputable def AP (X : Cx) (pins : List (Addr × Obj)) (σ : St) (Q : List V→Hp→Prop) (us : List Value) (s' : Shared) : Prop := ∃ vs H',Inv X pins σ H' s'∧Vals vs us∧Q vs H'
noncomputable def SP (X : Cx) (pins : List (Addr × Obj)) (D : Ends) (f : Flow) (s' : Shared) : Prop :=
  match f with
  | .next => ∃ σ' H',Inv X pins σ' H' s'∧D.nx σ' H'
  | .brk => ∃ σ' H',Inv X pins σ' H' s'∧D.bk σ' H'
  | .cont => ∃ σ' H',Inv X pins σ' H' s'∧D.ct σ' H'
  | .ret u => ∃ v σ' H',Inv X pins σ' H' s'∧RelV v u∧D.rt v H'
noncomputable def PE (X : Cx) (e : Expr) (t : TE) : Prop :=
  ∀ (pins : List (Addr × Obj)) (s : Shared) (σ : St) (H : Hp) (Q : VK),Inv X pins σ H s→t σ H Q→wpAny (model X.prog X.w) X.A (eval e X.env) (EP X pins σ Q) X.xe s
noncomputable def PT (X : Cx) (e : Expr) (t : TT) : Prop :=
  ∀ (pins : List (Addr × Obj)) (s : Shared) (σ : St) (H : Hp) (Q : Bool→Hp→Prop),Inv X pins σ H s→t σ H Q→wpAny (model X.prog X.w) X.A (isTrue e X.env (eval e X.env)) (TP X pins σ Q) X.xe s
noncomputable def PW (X : Cx) (e : Expr) (t : TT) : Prop :=
  ∀ (whole : Sem Value) (pins : List (Addr × Obj)) (s : Shared) (σ : St) (H : Hp) (Q : Bool→Hp→Prop),Inv X pins σ H s→t σ H Q→wpAny (model X.prog X.w) X.A (isTrue e X.env whole) (TP X pins σ Q) X.xe s
theorem PW.pt {X : Cx} {e : Expr} {t : TT} (h : PW X e t) : PT X e t := h _
noncomputable def PA (X : Cx) (es : List Expr) (t : TA) : Prop :=
  ∀ (pos : Pos) (pins : List (Addr × Obj)) (s : Shared) (σ : St) (H : Hp) (Q : List V→Hp→Prop),Inv X pins σ H s→t σ H Q→wpAny (model X.prog X.w) X.A (spliced (backTo pos (starEach es X.env))) (AP X pins σ Q) X.xe s
noncomputable def PS (X : Cx) (st : Stmt) (t : TS) : Prop :=
  ∀ (pins : List (Addr × Obj)) (s : Shared) (σ : St) (H : Hp) (D : Ends),Inv X pins σ H s→t D σ H→wpAny (model X.prog X.w) X.A (exec st X.env) (SP X pins D) X.xe s
noncomputable def PSs (X : Cx) (st : List Stmt) (t : TS) : Prop :=
  ∀ (pins : List (Addr × Obj)) (s : Shared) (σ : St) (H : Hp) (D : Ends),Inv X pins σ H s→t D σ H→wpAny (model X.prog X.w) X.A (execs st X.env) (SP X pins D) X.xe s
theorem thn {α : Type} {t : Sem α} {Q Q' : α→Shared→Prop} {M : Model} {A : Around} {E : Value→Shared→Prop} {s : Shared} (h : wpAny M A t Q E s) (hQ : ∀ a s,Q a s→Q' a s) : wpAny M A t Q' E s := wpAny_mono h hQ fun _ _ x => x
end L2
namespace L2
open PySem PySem.Spec PyProof.Rows
section
variable {X : Cx}
noncomputable def tVar (i : Nat) : TE := fun σ H Q => ∃ v,σ[i]? = some (some v)∧Q v H
noncomputable def tC (v : V) : TE := fun _ H Q => Q v H
theorem zfd {i : Nat} {x : Str} {pos : Pos} (hN : X.N[i]? = some x) (hv : Vis X.env.scope x) (hd : (x == ("__debug__" : Str)) = false := by decide) (hcd : (x == ("__classdict__" : Str)) = false := by decide) : PE X (.Name x pos) (tVar i) := by
  intro pins s σ H Q I h
  obtain ⟨v,e,h⟩ := h
  obtain ⟨m,hn,hl⟩ := I.loc
  obtain ⟨u,r,l⟩ := hl i x v hN e hv
  have fin : EP X pins σ Q u s := ⟨v,H,I,r,h⟩
  rcases l with ⟨hk,hm⟩ | ⟨hk,c,hc,hcell⟩
  · exact wpAny_Name (wpAny_loadName_local I.ok.kind hk hn hm fin) hd
  · rcases hk with hk | hk
    · exact wpAny_Name (wpAny_loadName_cell I.ok.kind hk hc hcell fin) hd
    · exact wpAny_Name (wpAny_loadName_free I.ok.kind hk hc hcell fin hcd) hd
theorem zpu {i j pos} : PE X (.Constant (.int i) j pos) (tC (.int i)) := fun _ _ _ H _ I h => wpAny_Constant_int ⟨.int i,H,I.tok _,⟨_,rfl⟩,h⟩
theorem zq5 {b j pos} : PE X (.Constant (.bool b) j pos) (tC (.bl b)) := fun _ _ _ H _ I h => Constant_bool ⟨.bl b,H,I,rfl,h⟩
theorem zps {j pos} : PE X (.Constant .none j pos) (tC .non) := fun _ _ _ H _ I h => Constant_none ⟨.non,H,I,rfl,h⟩
theorem zpp {x j pos} : PE X (.Constant (.str x) j pos) (tC (.str x)) := fun _ _ _ H _ I h => Calls.Constant_str ⟨.str x,H,I.tok _,⟨_,rfl⟩,h⟩
noncomputable def Gl (X : Cx) (x : Str) : Prop := X.env.kindOf x = some .globalImplicit
theorem zn4 {E : Value→Shared→Prop} {pins : List (Addr × Obj)} {s : Shared} {σ : St} {H : Hp} {x : Str} {u : Value} {pos : Pos} {Q : Value→Shared→Prop} (I : Inv X pins σ H s) (hg : Gl X x) (hm : X.mg x = some u) (h : Q u s)
    (hd : (x == ("__debug__" : Str)) = false := by decide) : wpAny (model X.prog X.w) X.A (eval (.Name x pos) X.env) Q E s :=
  Calls.Name_function_global I.ok.kind hg (Calls.loadGlobal_global (by rw [I.ok.glob]; exact I.mod.glob.keeps I.bk) hm h) hd
theorem zf9 {E : Value→Shared→Prop} {pins : List (Addr × Obj)} {s : Shared} {σ : St} {H : Hp} {x : Str} {u : Value} {pos : Pos} {Q : Value→Shared→Prop} (I : Inv X pins σ H s) (hg : Gl X x) (hm : X.mg x = none) (hv : bootBuiltins x = some u) (h : Q u s)
    (hn : x≠"__name__" := by decide) (hd : (x == ("__debug__" : Str)) = false := by decide) : wpAny (model X.prog X.w) X.A (eval (.Name x pos) X.env) Q E s := by
  obtain ⟨mb,h1,h2⟩ := I.mod.blt
  exact Calls.Name_function_global I.ok.kind hg (Calls.loadGlobal_builtin (by rw [I.ok.glob]; exact I.mod.glob.keeps I.bk) hm (by rw [I.ok.blt]; exact h1.keeps I.bk) ((h2 x hn).trans hv) h) hd
theorem znJ {x : Str} {v : V} {u : Value} {pos : Pos} (hg : Gl X x) (hm : X.mg x = none) (hv : bootBuiltins x = some u) (r : RelV v u) (hn : x≠"__name__" := by decide) (hd : (x == ("__debug__" : Str)) = false := by decide) : PE X (.Name x pos) (tC v) :=
  fun _ _ _ H _ I h => zf9 I hg hm hv ⟨v,H,I,r,h⟩ hn hd
variable {a b : Expr} {ta tb : TE} {pos : Pos}
variable {tA tB' : TT} {rest : List Expr}
noncomputable def tAnd (t u : TT) : TT := fun σ H Q => t σ H fun c H1 => if c = true then u σ H1 Q else Q false H1
noncomputable def tOr (t u : TT) : TT := fun σ H Q => t σ H fun c H1 => if c = true then Q true H1 else u σ H1 Q
noncomputable def tNot (t : TT) : TT := fun σ H Q => t σ H fun c H1 => Q (! c) H1
theorem zny (ha : PT X a tA) : PW X (.BoolOp .And [a] pos) tA := by
  intro wh pins s σ H Q I h
  refine isTrue_and (thn (ha pins s σ H Q I h) fun c s1 e => ?_)
  cases c with
  | true => exact isTrue_and_nil e
  | false => exact e
theorem zph (ha : PT X a tA) : PW X (.BoolOp .Or [a] pos) tA := by
  intro wh pins s σ H Q I h
  refine isTrue_or (thn (ha pins s σ H Q I h) fun c s1 e => ?_)
  cases c with
  | false => exact isTrue_or_nil e
  | true => exact e
theorem zpi (ha : PT X a tA) (hb : PW X (.BoolOp .And (b::rest) pos) tB') : PW X (.BoolOp .And (a::b::rest) pos) (tAnd tA tB') := by
  intro wh pins s σ H Q I h
  refine isTrue_and (thn (ha pins s σ H _ I h) fun c s1 ⟨H1,I1,q1⟩ => ?_)
  cases c with
  | true => exact hb wh pins s1 σ H1 Q I1 q1
  | false => exact ⟨H1,I1,q1⟩
theorem zqY (ha : PT X a tA) (hb : PW X (.BoolOp .Or (b::rest) pos) tB') : PW X (.BoolOp .Or (a::b::rest) pos) (tOr tA tB') := by
  intro wh pins s σ H Q I h
  refine isTrue_or (thn (ha pins s σ H _ I h) fun c s1 ⟨H1,I1,q1⟩ => ?_)
  cases c with
  | true => exact ⟨H1,I1,q1⟩
  | false => exact hb wh pins s1 σ H1 Q I1 q1
theorem zpk (ha : PT X a tA) : PT X (.UnaryOp .Not a pos) (tNot tA) := by
  intro pins s σ H Q I h
  exact isTrue_not (ha pins s σ H (fun c H1 => Q (! c) H1) I h)
noncomputable def zqN (ta tb : TE) : TE := fun σ H Q => ta σ H fun x H1 => ∃ c,x = .bl c∧if c = true then tb σ H1 Q else Q (.bl false) H1
noncomputable def tOrV (ta tb : TE) : TE := fun σ H Q => ta σ H fun x H1 => ∃ c,x = .bl c∧if c = true then Q (.bl true) H1 else tb σ H1 Q
noncomputable def zqH (ta : TE) : TE := fun σ H Q => ta σ H fun x H1 => ∃ c,x = .bl c∧Q (.bl (! c)) H1
theorem zpq {op} {t : TE} (h : PE X a t) : PE X (.BoolOp op [a] pos) t := fun pins s σ H Q I hw => BoolOp_one (h pins s σ H Q I hw)
theorem zpw (ha : PE X a ta) (hb : PE X (.BoolOp .And (b::rest) pos) tb) : PE X (.BoolOp .And (a::b::rest) pos) (zqN ta tb) := by
  intro pins s σ H Q I h
  refine BoolOp_and (thn (ha pins s σ H _ I h) fun v s1 ⟨x,H1,I1,r1,q1⟩ => ?_)
  obtain ⟨c,rfl,q1⟩ := q1
  cases r1
  refine wpAny_truthy_bool ?_
  cases c with
  | true => exact hb pins s1 σ H1 Q I1 q1
  | false => exact ⟨.bl false,H1,I1,rfl,q1⟩
theorem zq2 (ha : PE X a ta) (hb : PE X (.BoolOp .Or (b::rest) pos) tb) : PE X (.BoolOp .Or (a::b::rest) pos) (tOrV ta tb) := by
  intro pins s σ H Q I h
  refine BoolOp_or (thn (ha pins s σ H _ I h) fun v s1 ⟨x,H1,I1,r1,q1⟩ => ?_)
  obtain ⟨c,rfl,q1⟩ := q1
  cases r1
  refine wpAny_truthy_bool ?_
  cases c with
  | false => exact hb pins s1 σ H1 Q I1 q1
  | true => exact ⟨.bl true,H1,I1,rfl,q1⟩
theorem zpr (ha : PE X a ta) : PE X (.UnaryOp .Not a pos) (zqH ta) := by
  intro pins s σ H Q I h
  refine UnaryOp_ (thn (ha pins s σ H _ I h) fun v s1 ⟨x,H1,I1,r1,q1⟩ => ?_)
  obtain ⟨c,rfl,q1⟩ := q1
  cases r1
  exact not_of (wpAny_truthy_bool ⟨.bl (! c),H1,I1,rfl,q1⟩)
noncomputable def tIf (t : TT) (ta tb : TE) : TE := fun σ H Q => t σ H fun c H1 => if c = true then ta σ H1 Q else tb σ H1 Q
theorem zlM {c : Expr} (hc : PT X c tA) (ha : PE X a ta) (hb : PE X b tb) : PE X (.IfExp c a b pos) (tIf tA ta tb) := by
  intro pins s σ H Q I h
  refine wpAny_IfExp (thn (hc pins s σ H _ I h) fun d s1 ⟨H1,I1,q1⟩ => ?_)
  cases d with
  | true => exact ha pins s1 σ H1 Q I1 q1
  | false => exact hb pins s1 σ H1 Q I1 q1
end
end L2
namespace L2
open PySem PySem.Spec PyProof.Rows
noncomputable def SqL (K : PySem.W.Frag) (H : Hp) (a : Addr) (xs : List V) : Prop :=
  Rd H a (.lst xs) ∨
    ∃ (o : Obj) (its : Array Value) (n : Nat),K.lookup a = some o∧o.cls = .type "list"∧o.dict = none∧o.data = .seq its n∧its.size≤sizeLine∧Vals xs its.toList
noncomputable def SqT (K : PySem.W.Frag) (H : Hp) (a : Addr) (xs : List V) : Prop :=
  Rd H a (.tup xs) ∨
    ∃ (o : Obj) (its : Array Value) (n : Nat),K.lookup a = some o∧o.cls = .type "tuple"∧o.data = .seq its n∧its.size≤sizeLine∧Vals xs its.toList
noncomputable def absV : Value→Option V
  | .none => some .non
  | .bool b => some (.bl b)
  | .int i _ => some (.int i)
  | .str x _ => some (.str x)
  | .bytes b _ => some (.byt b)
  | .float b _ => some (.flt b)
  | .ref a => some (.ref a)
  | .type n => some (.ty n)
  | _ => none
theorem RelV.abs {x : V} {u : Value} (r : RelV x u) : absV u = some x := by
  cases x with
  | non => cases r; rfl
  | bl _ => cases r; rfl
  | int _ => obtain ⟨t,rfl⟩ := r; rfl
  | str _ => obtain ⟨t,rfl⟩ := r; rfl
  | byt _ => obtain ⟨t,rfl⟩ := r; rfl
  | flt _ => obtain ⟨t,rfl⟩ := r; rfl
  | ref _ => cases r; rfl
  | ty _ => cases r; rfl
theorem RelV.inj {x y : V} {u : Value} (r : RelV x u) (q : RelV y u) : x = y := Option.some.inj (r.abs.symm.trans q.abs)
theorem Vals.inj {xs ys : List V} {us : List Value} (h : Vals xs us) (h' : Vals ys us) : xs = ys := by
  induction h generalizing ys with
  | nil => cases h'; rfl
  | cons r t ih =>
    cases h' with
    | cons r' t' => rw [r.inj r',ih t']
section
variable {X : Cx} {pins : List (Addr × Obj)} {σ : St} {H : Hp} {s : Shared} {a : Addr} {xs ys : List V}
theorem SqL.of {K : PySem.W.Frag} (h : H a = some (.lst xs)) : SqL K H a xs := .inl (.inl h)
theorem Inv.list (I : Inv X pins σ H s) (h : SqL X.K H a xs) : ∃ its : List Value,Vals xs its∧PlainL s.heap a its.toArray∧xs.length≤sizeLine := by
  rcases h with h | ⟨o,its,n,hk,hc,hd,hs,hz,r⟩
  · obtain ⟨z,its,n,r,e⟩ := h.ok I.hok
    exact ⟨its,r,⟨_,n,e,rfl,rfl,rfl⟩,z⟩
  · refine ⟨its.toList,r,⟨o,n,I.kIn a o hk,hc,hd,by simpa using hs⟩,?_⟩
    have e := r.length
    simp only [Array.length_toList] at e
    omega
theorem Inv.tuple (I : Inv X pins σ H s) (h : SqT X.K H a xs) : ∃ its : List Value,Vals xs its∧IsTup s.heap a its.toArray∧xs.length≤sizeLine := by
  rcases h with h | ⟨o,its,n,hk,hc,hs,hz,r⟩
  · obtain ⟨z,its,r,p,_⟩ := h.ok I.hok
    exact ⟨its,r,p,z⟩
  · refine ⟨its.toList,r,⟨o,I.kIn a o hk,hc,n,by simpa using hs⟩,?_⟩
    have e := r.length
    simp only [Array.length_toList] at e
    omega
theorem Inv.list_inj (I : Inv X pins σ H s) (h : SqL X.K H a xs) (h' : SqL X.K H a ys) : xs = ys := by
  obtain ⟨its,r,⟨o,n,e,_,_,d⟩,_⟩ := I.list h
  obtain ⟨its',r',⟨o',n',e',_,_,d'⟩,_⟩ := I.list h'
  rw [e] at e'; cases e'
  rw [d] at d'
  injection d' with d1 _
  have : its = its' := by simpa using congrArg Array.toList d1
  subst this
  exact r.inj r'
theorem Inv.tuple_inj (I : Inv X pins σ H s) (h : SqT X.K H a xs) (h' : SqT X.K H a ys) : xs = ys := by
  obtain ⟨its,r,⟨o,e,_,n,d⟩,_⟩ := I.tuple h
  obtain ⟨its',r',⟨o',e',_,n',d'⟩,_⟩ := I.tuple h'
  rw [e] at e'; cases e'
  rw [d] at d'
  injection d' with d1 _
  have : its = its' := by simpa using congrArg Array.toList d1
  subst this
  exact r.inj r'
end
noncomputable abbrev Cx.wish (X : Cx) (E : Value→Shared→Prop) : Cx := { X with xe := E }
noncomputable abbrev Cx.nox (X : Cx) : Cx := X.wish fun _ _ => False
theorem Cx.Ok.wish {X : Cx} (ok : X.Ok) (E : Value→Shared→Prop) : (X.wish E).Ok :=
  ⟨ok.mod,ok.kind,ok.glob,ok.blt,ok.above,ok.inj,ok.has,ok.cab,ok.hd,ok.frames,ok.stk,ok.exf,ok.bs,ok.bsz,ok.noex,ok.exfs,ok.funs,ok.frf⟩
theorem Cx.Ok.unwish {X : Cx} {E : Value→Shared→Prop} (ok : (X.wish E).Ok) : X.Ok :=
  ⟨ok.mod,ok.kind,ok.glob,ok.blt,ok.above,ok.inj,ok.has,ok.cab,ok.hd,ok.frames,ok.stk,ok.exf,ok.bs,ok.bsz,ok.noex,ok.exfs,ok.funs,ok.frf⟩
section
variable {X : Cx} {pins : List (Addr × Obj)} {σ : St} {H : Hp} {s : Shared} {E : Value → Shared → Prop}
theorem Inv.wish (I : Inv X pins σ H s) (E : Value→Shared→Prop) : Inv (X.wish E) pins σ H s := ⟨I.ok.wish E,I.os,I.bare,I.base,I.loc,I.cell,I.free,I.freeC,I.pin,I.hok,I.len⟩
theorem Inv.unwish (I : Inv (X.wish E) pins σ H s) : Inv X pins σ H s := ⟨I.ok.unwish,I.os,I.bare,I.base,I.loc,I.cell,I.free,I.freeC,I.pin,I.hok,I.len⟩
theorem SP.unwish {D : Ends} {f : Flow} {s' : Shared} (h : SP (X.wish E) pins D f s') : SP X pins D f s' := by
  cases f with
  | next => obtain ⟨σ',H',I,q⟩ := h; exact ⟨σ',H',I.unwish,q⟩
  | brk => obtain ⟨σ',H',I,q⟩ := h; exact ⟨σ',H',I.unwish,q⟩
  | cont => obtain ⟨σ',H',I,q⟩ := h; exact ⟨σ',H',I.unwish,q⟩
  | ret u => obtain ⟨v,σ',H',I,r,q⟩ := h; exact ⟨v,σ',H',I.unwish,r,q⟩
theorem PSs.nox {st : List Stmt} {t : TS} (h : PSs X.nox st t) : PSs X st t := fun pins s σ H D I hw =>
  wpAny_mono (h pins s σ H D (I.wish _) hw) (fun _ _ q => q.unwish) fun _ _ z => False.elim z
end
section
variable {X : Cx} {st : Stmt} {rest : List Stmt} {t u : TS} {e : Expr} {te : TE} {pos : Pos}
noncomputable def zqI : TS := fun D σ H => D.nx σ H
noncomputable def tSeq (t u : TS) : TS := fun D σ H => t { D with nx := u D } σ H
theorem znB : PSs X [] zqI := fun _ _ σ H _ I h => wpAny_execs_nil ⟨σ,H,I,h⟩
theorem zlH (h1 : PS X st t) (h2 : PSs X rest u) : PSs X (st::rest) (tSeq t u) := by
  intro pins s σ H D I h
  refine wpAny_execs_cons (thn (h1 pins s σ H { D with nx := u D } I h) fun f s1 q => ?_)
  cases f with
  | next =>
    obtain ⟨σ',H',I',q⟩ := q
    exact h2 pins s1 σ' H' D I' q
  | ret v => exact q
  | brk => exact q
  | cont => exact q
noncomputable def zqK : TS := fun D σ H => D.ct σ H
theorem zhU : PS X (.Continue pos) zqK := fun _ _ σ H _ I h => wpAny_Continue ⟨σ,H,I,h⟩
theorem Inv.quiet {pins : List (Addr × Obj)} {σ : St} {H : Hp} {s : Shared} (I : Inv X pins σ H s) : interactive X.env = false := by simp [interactive,I.ok.kind]
noncomputable def zqJ (te : TE) : TS := fun D σ H => te σ H fun _ H1 => D.nx σ H1
theorem zj2 (he : PE X e te) (hs : swapsWith e none pos.line X.env = pure false := by rfl) : PS X (.Expr e pos) (zqJ te) := by
  intro pins s σ H D I h
  exact wpAny_Expr_any (thn (he pins s σ H _ I h) fun v s1 ⟨x,H1,I1,r1,q1⟩ => ⟨σ,H1,I1,q1⟩) I.quiet hs
noncomputable def tRet (te : TE) : TS := fun D σ H => te σ H D.rt
theorem zj0 (he : PE X e te) : PS X (.Return (some e) pos) (tRet te) := by
  intro pins s σ H D I h
  exact wpAny_Return_some (thn (he pins s σ H _ I h) fun v s1 ⟨x,H1,I1,r1,q1⟩ => ⟨x,σ,H1,I1,r1,q1⟩)
noncomputable def tIfS (c : TT) (t u : TS) : TS := fun D σ H => c σ H fun b H1 => if b = true then t D σ H1 else u D σ H1
theorem zq0 {c : Expr} {a b : List Stmt} {tc : TT} (hc : PT X c tc) (ha : PSs X a t) (hb : PSs X b u) : PS X (.If c a b pos) (tIfS tc t u) := by
  intro pins s σ H D I h
  refine wpAny_If (thn (hc pins s σ H _ I h) fun d s1 ⟨H1,I1,q1⟩ => ?_)
  cases d with
  | true => exact ha pins s1 σ H1 D I1 q1
  | false => exact hb pins s1 σ H1 D I1 q1
noncomputable def zoM : TS := fun _ _ _ => False
theorem zlJ : PS X st zoM := fun _ _ _ _ _ _ h => h.elim
end
noncomputable abbrev TG := V→St→Hp→(St→Hp→Prop)→Prop
noncomputable abbrev TGs := List V→St→Hp→(St→Hp→Prop)→Prop
noncomputable def PG (X : Cx) (target : Expr) (t : TG) : Prop :=
  ∀ (pins : List (Addr × Obj)) (s : Shared) (σ : St) (H : Hp) (v : V) (u : Value) (Q : St→Hp→Prop),Inv X pins σ H s→RelV v u→t v σ H Q →
    wpAny (model X.prog X.w) X.A (assign target X.env u) (fun _ s' => ∃ σ' H',Inv X pins σ' H' s'∧Q σ' H') X.xe s
noncomputable def PGs (X : Cx) (ts : List Expr) (t : TGs) : Prop :=
  ∀ (pins : List (Addr × Obj)) (s : Shared) (σ : St) (H : Hp) (vs : List V) (us : List Value) (Q : St→Hp→Prop),Inv X pins σ H s→Vals vs us→t vs σ H Q →
    wpAny (model X.prog X.w) X.A (assignInOrder ((assignEach ts X.env).map (·.2)) us) (fun _ s' => ∃ σ' H',Inv X pins σ' H' s'∧Q σ' H') X.xe s
noncomputable abbrev TSet := V→V→V→Hp→(Hp→Prop)→Prop
noncomputable def PSet (X : Cx) (t : TSet) : Prop :=
  ∀ (pins : List (Addr × Obj)) (s : Shared) (σ : St) (H : Hp) (o i v : V) (ov iv u : Value) (Q : Hp→Prop),Inv X pins σ H s→RelV o ov→RelV i iv→RelV v u→t o i v H Q →
    wpAny (model X.prog X.w) X.A (setItem ov iv u) (fun _ s' => ∃ H',Inv X pins σ H' s'∧Q H') X.xe s
section
variable {X : Cx} {pos : Pos}
noncomputable def zp8 (i : Nat) : TG := fun v σ H Q => Q (σ.set i (some v)) H
theorem znG {i : Nat} {x : Str} (hN : X.N.Nodup) (hi : X.N[i]? = some x) (hx : Loc X.env.scope x) (hf : X.fn x = true∨X.env.scope.names.lookup x = some .local := by first | exact .inl rfl | exact .inr rfl | assumption) : PG X (.Name x pos) (zp8 i) := by
  intro pins s σ H v u Q I r h
  exact wpAny_assign_Name (zic I hN hi hx r (fun s' I' => ⟨_,H,I',h⟩) hf)
noncomputable def gNil : TGs := fun vs σ H Q => vs = []∧Q σ H
noncomputable def zrr (t : TG) (u : TGs) : TGs := fun vs σ H Q => ∃ v r,vs = v::r∧t v σ H fun σ' H' => u r σ' H' Q
theorem znF : PGs X [] gNil := by
  intro pins s σ H vs us Q I r h
  obtain ⟨e,h⟩ := h
  subst e
  cases r
  exact assignInOrder_nil ⟨σ,H,I,h⟩
theorem zlL {e : Expr} {es : List Expr} {t : TG} {u : TGs} (h1 : PG X e t) (h2 : PGs X es u)
    (hs : (assignEach (e::es) X.env).map (·.2) = assign e X.env::(assignEach es X.env).map (·.2) := by rfl) : PGs X (e::es) (zrr t u) := by
  intro pins s σ H vs us Q I r h
  obtain ⟨v,vr,e1,h⟩ := h
  subst e1
  cases r with
  | cons r rr =>
    rw [hs]
    refine assignInOrder_cons (thn (h1 pins s σ H _ _ _ I r h) fun _ s1 ⟨σ1,H1,I1,q1⟩ => ?_)
    exact h2 pins s1 σ1 H1 _ _ Q I1 rr q1
noncomputable def gTup (K : PySem.W.Frag) (n : Nat) (t : TGs) : TG := fun v σ H Q => ∃ a xs,v = .ref a∧SqT K H a xs∧xs.length = n∧t xs σ H Q
theorem zpm {es : List Expr} {k : Nat} {t : TGs} {n : Nat} (hc : X.calm = true) (h : PGs X es t)
    (hn : (assignEach es X.env).length = n := by rfl) (hst : (assignEach es X.env).findIdx? (·.1) = none := by rfl) : PG X (.Tuple es k pos) (gTup X.K n t) := by
  intro pins s σ H v u Q I r hw
  obtain ⟨a,xs,e1,hq,hl,hw⟩ := hw
  subst e1
  cases r
  obtain ⟨its,rv,ht,hz⟩ := I.tuple hq
  refine assign_Tuple_tuple (I.ok.hd hc) ht (by simp [hn,← hl,rv.length]) hst fun h' hx => ?_
  have I1 : Inv X pins σ H { s with heap := h' } := I.kept (t' := s.toks) fun b o e => hx b o (Nat.ne_of_lt (Heap.lt_size e)) e
  exact h pins _ σ H xs _ Q I1 (by simpa using rv) hw
noncomputable def gSub (to ti : TE) (t : TSet) : TG := fun v σ H Q => to σ H fun o H1 => ti σ H1 fun i H2 => t o i v H2 fun H3 => Q σ H3
theorem zpn {o i : Expr} {to ti : TE} {t : TSet} (ho : PE X o to) (hi : PE X i ti) (hs : PSet X t)
    (ha : ∀ v,assign (.Subscript o i pos) X.env v = (do
      let ov ← holding [v] (eval o X.env)
      let iv ← holding [v,ov] (eval i X.env)
      standAt pos
      holding [v,ov,iv] (setItem ov iv v)
      release [v,ov,iv] []) := by intro _; rfl) : PG X (.Subscript o i pos) (gSub to ti t) := by
  intro pins s σ H v u Q I r h
  rw [ha]
  refine wpAny_bind (wpAny_holding (thn (ho pins s σ H _ I h) fun ov s1 ⟨x,H1,I1,r1,q1⟩ => ?_))
  refine wpAny_bind (wpAny_holding (thn (hi pins s1 σ H1 _ I1 q1) fun iv s2 ⟨y,H2,I2,r2,q2⟩ => ?_))
  refine wpAny_bind (wpAny_standAt (wpAny_bind (wpAny_holding (thn (hs pins s2 σ H2 x y v ov iv u _ I2 r1 r2 r q2) fun _ s3 ⟨H3,I3,q3⟩ => ?_))))
  exact wpAny_release ⟨σ,H3,I3,q3⟩
noncomputable def tAsg (te : TE) (g : TG) : TS := fun D σ H => te σ H fun x H1 => g x σ H1 D.nx
theorem zmM {tg e : Expr} {te : TE} {g : TG} (he : PE X e te) (hg : PG X tg g) (hs : swapsWithSole [tg] e pos.line X.env = pure false := by rfl) (hw : swappedStores [tg] e X.env = pure none := by rfl)
    (h1 : (assignEach [tg] X.env).map (·.2) = [assign tg X.env] := by rfl) : PS X (.Assign [tg] e pos) (tAsg te g) := by
  intro pins s σ H D I h
  refine wpAny_Assign_stores (thn (he pins s σ H _ I h) fun v s1 ⟨x,H1,I1,r1,q1⟩ => ?_) hs hw
  rw [h1]
  exact thn (hg pins s1 σ H1 x v _ I1 r1 q1) fun _ s2 q => q
theorem zmL {i : Nat} {x : Str} {e : Expr} {te : TE} {pos' : Pos} (hN : X.N.Nodup) (hi : X.N[i]? = some x) (hx : Loc X.env.scope x) (he : PE X e te) (hs : swapsWith e (some (.Name x pos')) pos.line X.env = pure false := by rfl) (hf : X.fn x = true∨X.env.scope.names.lookup x = some .local := by first | exact .inl rfl | exact .inr rfl | assumption) :
    PS X (.Assign [.Name x pos'] e pos) (tAsg te (zp8 i)) := by
  intro pins s σ H D I h
  refine wpAny_Assign_Name (thn (he pins s σ H _ I h) fun v s1 ⟨y,H1,I1,r1,q1⟩ => ?_) hs
  exact zic I1 hN hi hx r1 (fun s2 I2 => ⟨_,H1,I2,q1⟩) hf
end
section
variable {X : Cx} {pos : Pos}
noncomputable def zoL (c : TT) (tb : TS) : TS := fun D σ H => ∃ W : Nat→St→Hp→Prop,(∃ m,W m σ H)∧∀ m σ H,W m σ H →
  c σ H fun b H1 => if b = true then ∃ N : St→Hp→Prop,(∀ σ' H',N σ' H'→∃ m',m' < m∧W m' σ' H')∧tb { D with nx := N,ct := N,bk := D.nx } σ H1 else D.nx σ H1
theorem zlI {c : Expr} {body : List Stmt} {tc : TT} {tb : TS} (hp : PassesOwn (model X.prog X.w) X.A X.env X.xe) (hc : PT X c tc) (hb : PSs X body tb) : PS X (.While c body [] pos) (zoL tc tb) := by
  intro pins s σ H D I h
  obtain ⟨W,⟨m0,w0⟩,turn⟩ := h
  refine wpAny_While (codeAny_whileLoop (fun n s' => ∃ σ' H',Inv X pins σ' H' s'∧W n σ' H') ?_ m0 ⟨σ,H,I,w0⟩)
  rintro n s1 ⟨σ1,H1,I1,w1⟩
  refine wpAny_passesOwn hp (thn (hc pins s1 σ1 H1 _ I1 (turn n σ1 H1 w1)) fun b s2 ⟨H2,I2,q2⟩ => ?_)
  cases b with
  | true =>
    obtain ⟨N,hN,q2⟩ := q2
    rw [if_pos rfl]
    refine wpAny_passesOwn hp (thn (hb pins s2 σ1 H2 _ I2 q2) fun f s3 q3 => ?_)
    cases f with
    | next =>
      obtain ⟨σ3,H3,I3,n3⟩ := q3
      obtain ⟨m',hm,w3⟩ := hN σ3 H3 n3
      exact ⟨m',hm,σ3,H3,I3,w3⟩
    | cont =>
      obtain ⟨σ3,H3,I3,n3⟩ := q3
      obtain ⟨m',hm,w3⟩ := hN σ3 H3 n3
      exact ⟨m',hm,σ3,H3,I3,w3⟩
    | brk => exact q3
    | ret v => exact q3
  | false =>
    rw [if_neg Bool.false_ne_true]
    exact wpAny_execs_nil ⟨σ1,H2,I2,q2⟩
end
structure It where
  go : Nat→Hp→Prop
  yld : Nat→Hp→V→Hp→Prop
  stop : Nat→Hp→Prop
noncomputable def FpOk (X : Cx) (pins : List (Addr × Obj)) (H : Hp) (b : Addr) : Prop :=
  H b = none∧b≠X.env.locals∧b∉X.fs∧(b∈X.ex∨X.s₀.heap.objs.size≤b)∧(∀ x c,X.env.cells.lookup x = some c→c≠b)∧∀ p∈X.pn++pins,p.1≠b
theorem Inv.fpOk {X : Cx} {pins : List (Addr × Obj)} {σ : St} {H H' : Hp} {s : Shared} {b : Addr} (I : Inv X pins σ H s) (hb : s.heap.objs.size≤b) (hn : H' b = none) : FpOk X pins H' b := by
  refine ⟨hn,Nat.ne_of_gt (Nat.lt_of_lt_of_le I.lt hb),I.nofs hb,.inr (Nat.le_trans I.sz hb),fun x c e z => ?_,fun p hp z => ?_⟩
  · obtain ⟨v,q⟩ := I.cell x c e
    exact absurd (Nat.lt_of_lt_of_le q.lt (by rw [z]; exact hb)) (Nat.lt_irrefl _)
  · exact absurd (Nat.lt_of_lt_of_le (Heap.lt_size (I.pin p hp).1) (by rw [z]; exact hb)) (Nat.lt_irrefl _)
structure Turn (P : Program) (w : World) (K : PySem.W.Frag) (tg : Expr) (J : It) (fp : List Addr) (it : Addr) (tn : Nat→Heap→Prop) : Prop where
  mem : it∈fp
  obj : ∀ i h,tn i h→∀ b∈fp,∃ o,h.get? b = some o∧∀ v,o.data≠.cell v
  keep : ∀ i h h',tn i h→(∀ b∈fp,∀ o,h.get? b = some o→h'.get? b = some o)→tn i h'
  item : ∀ (X : Cx),X.prog = P→X.w = w→X.K = K→X.calm = true→∀ (i : Nat) (pins : List (Addr × Obj)) (s : Shared) (σ : St) (H : Hp) (E : Value→Shared→Prop),Inv X pins σ H s→(∀ b∈fp,FpOk X pins H b)→tn i s.heap→J.go i H →
    wpAny (model P w) X.A (pyNext (.ref it)) (fun r s1 => ∃ u,r = some u ∧
      wpAny (model P w) X.A (letOwnedTupleGo tg (.ref it) u) (fun _ s2 => ∃ x H',Inv X pins σ H' s2∧RelV x u∧J.yld i H x H'∧tn (i + 1) s2.heap∧∀ b∈fp,H' b = none) E s1) E s
  done : ∀ (X : Cx),X.prog = P→X.w = w→X.K = K→X.calm = true→∀ (i : Nat) (pins : List (Addr × Obj)) (s : Shared) (σ : St) (H : Hp) (E : Value→Shared→Prop),Inv X pins σ H s→(∀ b∈fp,FpOk X pins H b)→tn i s.heap→J.stop i H →
    wpAny (model P w) X.A (pyNext (.ref it)) (fun r s1 => r = none∧Inv X pins σ H s1) E s
  self : ∀ (A : Around) (i : Nat) (s : Shared) (Q : Value→Shared→Prop) (E : Value→Shared→Prop),tn i s.heap→Q (.ref it) s→wpAny (model P w) A (pyIter (.ref it)) Q E s
noncomputable abbrev TI := St→Hp→(It→Hp→Prop)→Prop
noncomputable def PIE (X : Cx) (pins : List (Addr × Obj)) (σ : St) (tg : Expr) (R : It→Hp→Prop) (itv : Value) (s2 : Shared) : Prop :=
  ∃ (it : Addr) (fp : List Addr) (tn : Nat→Heap→Prop) (J : It) (H' : Hp),itv = .ref it∧Inv X pins σ H' s2∧Turn X.prog X.w X.K tg J fp it tn∧tn 0 s2.heap∧(∀ b∈fp,FpOk X pins H' b)∧R J H'
noncomputable def PI (X : Cx) (tg iter : Expr) (wi : TI) : Prop :=
  ∀ (pins : List (Addr × Obj)) (s : Shared) (σ : St) (H : Hp) (R : It→Hp→Prop),Inv X pins σ H s→wi σ H R →
    wpAny (model X.prog X.w) X.A (eval iter X.env) (fun v s1 => wpAny (model X.prog X.w) X.A (pyIter v) (PIE X pins σ tg R) X.xe s1) X.xe s
theorem zoc {M : Model} {A : Around} {E : Value→Shared→Prop} {s : Shared} {tg : Expr} {it : Addr} {u : Value} {o : Obj} {n : String} {vs : Array Value} {Q : Unit→Shared→Prop} (ho : s.heap.get? it = some o) (hc : o.cls = .type n) (hd : o.data = .fields vs)
    (hn : ["enumerate","zip","dict_itemiterator","dict_reverseitemiterator","odict_iterator","itertools.zip_longest","itertools.pairwise"].contains n = false) (hQ : Q () s) : wpAny M A (letOwnedTupleGo tg (.ref it) u) Q E s := by
  unfold letOwnedTupleGo
  cases tg <;> first
    | exact wpAny_pure hQ
    | (cases u <;> first
        | exact wpAny_pure hQ
        | (refine wpAny_bind (wpAny_load ho ?_)
           rw [hc,hd]
           show wpAny M A (if (["enumerate","zip","dict_itemiterator","dict_reverseitemiterator","odict_iterator","itertools.zip_longest","itertools.pairwise"].contains n && vs[0]? == some (rawInt _)) = true then _ else _) Q E s
           rw [if_neg (by intro h; rw [hn,Bool.false_and] at h; cases h)]
           exact wpAny_pure hQ))
noncomputable def Itl (K : PySem.W.Frag) (a : Addr) : It :=
  ⟨fun i H => ∃ xs x,SqL K H a xs∧xs[i]? = some x,fun i H x H' => H' = H∧∀ xs,SqL K H a xs→xs[i]? = some x,fun i H => ∃ xs,SqL K H a xs∧xs.length≤i⟩
noncomputable def Itt (K : PySem.W.Frag) (a : Addr) : It :=
  ⟨fun i H => ∃ xs x,SqT K H a xs∧xs[i]? = some x,fun i H x H' => H' = H∧∀ xs,SqT K H a xs→xs[i]? = some x,fun i H => ∃ xs,SqT K H a xs∧xs.length≤i⟩
noncomputable def Itr (lo : Int) (n : Nat) : It := ⟨fun i _ => i < n,fun i H x H' => H' = H∧x = .int (lo + i),fun i _ => n≤i⟩
theorem zjv {P : Program} {w : World} {K : PySem.W.Frag} {tg : Expr} (a it : Addr) : Turn P w K tg (Itl K a) [it] it (fun i h => h.IsListIter it a i) where
  mem := by simp
  obj := fun i h st b hb => by
    have e : b = it := by simpa using hb
    subst e
    obtain ⟨o,e,c,d⟩ := st
    exact ⟨o,e,fun v z => by rw [d] at z; cases z⟩
  keep := fun i h h' st k => st.at fun o e => k it (by simp) o e
  item := by
    intro X hP hw hK hc i pins s σ H E I hf st hg
    subst hP hw hK
    obtain ⟨xs,x,hq,hx⟩ := hg
    obtain ⟨its,rv,p,hz⟩ := I.list hq
    obtain ⟨u,hu,ru⟩ := rv.get hx
    obtain ⟨f0,f1,f2,f3,f4,f5⟩ := hf it (by simp)
    refine wpAny_pyNext_list_item st p.isList (x := u) (by simpa using hu) fun h' st' sb => ?_
    have I1 : Inv X pins σ H { s with heap := h' } := I.turned (t' := s.toks) (fun b o hb e => (sb.2 b hb).trans e) f0 f1 f3 f4 f5
    obtain ⟨o,e,c,d⟩ := id st'
    exact ⟨u,rfl,zoc (s := { s with heap := h' }) e c d (by decide) ⟨x,H,I1,ru,⟨rfl,fun ys hy => by rw [I.list_inj hy hq]; exact hx⟩,st',fun b hb => (hf b hb).1⟩⟩
  done := by
    intro X hP hw hK hc i pins s σ H E I hf st hg
    subst hP hw hK
    obtain ⟨xs,hq,hx⟩ := hg
    obtain ⟨its,rv,p,hz⟩ := I.list hq
    obtain ⟨f0,f1,f2,f3,f4,f5⟩ := hf it (by simp)
    have hl := rv.length
    exact wpAny_pyNext_list_end (I.ok.hd hc) st p.isList (by simp; omega) fun h' eb => ⟨rfl,I.turned (t' := s.toks) (fun b o hb e => eb b o hb e) f0 f1 f3 f4 f5⟩
  self := fun _ _ _ _ _ st h => wpAny_pyIter_listiter st h
theorem ziM {P : Program} {w : World} {K : PySem.W.Frag} {tg : Expr} (a it : Addr) : Turn P w K tg (Itt K a) [it] it (fun i h => h.IsTupleIter it a i) where
  mem := by simp
  obj := fun i h st b hb => by
    have e : b = it := by simpa using hb
    subst e
    obtain ⟨o,e,c,d⟩ := st
    exact ⟨o,e,fun v z => by rw [d] at z; cases z⟩
  keep := fun i h h' st k => st.at fun o e => k it (by simp) o e
  item := by
    intro X hP hw hK hc i pins s σ H E I hf st hg
    subst hP hw hK
    obtain ⟨xs,x,hq,hx⟩ := hg
    obtain ⟨its,rv,p,hz⟩ := I.tuple hq
    obtain ⟨u,hu,ru⟩ := rv.get hx
    obtain ⟨f0,f1,f2,f3,f4,f5⟩ := hf it (by simp)
    refine wpAny_pyNext_tuple_item st (show s.heap.IsTuple a its.toArray from p) (x := u) (by simpa using hu) fun h' st' sb => ?_
    have I1 : Inv X pins σ H { s with heap := h' } := I.turned (t' := s.toks) (fun b o hb e => (sb.2 b hb).trans e) f0 f1 f3 f4 f5
    obtain ⟨o,e,c,d⟩ := id st'
    exact ⟨u,rfl,zoc (s := { s with heap := h' }) e c d (by decide) ⟨x,H,I1,ru,⟨rfl,fun ys hy => by rw [I.tuple_inj hy hq]; exact hx⟩,st',fun b hb => (hf b hb).1⟩⟩
  done := by
    intro X hP hw hK hc i pins s σ H E I hf st hg
    subst hP hw hK
    obtain ⟨xs,hq,hx⟩ := hg
    obtain ⟨its,rv,p,hz⟩ := I.tuple hq
    obtain ⟨f0,f1,f2,f3,f4,f5⟩ := hf it (by simp)
    have hl := rv.length
    exact wpAny_pyNext_tuple_end (I.ok.hd hc) st (show s.heap.IsTuple a its.toArray from p) (by simp; omega) fun h' eb => ⟨rfl,I.turned (t' := s.toks) (fun b o hb e => eb b o hb e) f0 f1 f3 f4 f5⟩
  self := fun _ _ _ _ _ st h => wpAny_pyIter_tupleiter st h
theorem ziN {P : Program} {w : World} {K : PySem.W.Frag} {tg : Expr} (it : Addr) (lo : Int) (n : Nat) : Turn P w K tg (Itr lo n) [it] it (fun i h => IsRangeIter h it (lo + (i : Nat) * 1) ((n : Int) - (i : Nat)) 1) where
  mem := by simp
  obj := fun i h st b hb => by
    have e : b = it := by simpa using hb
    subst e
    exact ⟨_,st,fun v z => by
      have z' : Data.fields _ = Data.cell v := z
      cases z'⟩
  keep := fun i h h' st k => k it (by simp) _ st
  item := by
    intro X hP hw hK hc i pins s σ H E I hf st hg
    subst hP hw hK
    obtain ⟨f0,f1,f2,f3,f4,f5⟩ := hf it (by simp)
    have W := Walks.range (prog := X.prog) (w := X.w) (I.ok.hd hc) it lo 1 n
    refine W.item i s _ _ hg st fun v h' tk hv st' kk => ?_
    obtain ⟨t,rfl⟩ := hv
    have I1 : Inv X pins σ H { s with heap := h',toks := tk } := I.turned (fun b o hb e => kk b o (by simpa using hb) e) f0 f1 f3 f4 f5
    refine ⟨_,rfl,zoc (s := { s with heap := h',toks := tk }) (n := "range_iterator") st' rfl rfl (by decide) ⟨.int (lo + i),H,I1,⟨t,?_⟩,⟨rfl,rfl⟩,st',fun b hb => (hf b hb).1⟩⟩
    rw [Int.mul_one]
  done := by
    intro X hP hw hK hc i pins s σ H E I hf st hg
    subst hP hw hK
    obtain ⟨f0,f1,f2,f3,f4,f5⟩ := hf it (by simp)
    exact wpAny_pyNext_range_end (I.ok.hd hc) st (by have : n≤i := hg; omega) fun h' eb => ⟨rfl,I.turned (t' := s.toks) (fun b o hb e => eb b o hb e) f0 f1 f3 f4 f5⟩
  self := fun _ _ _ _ _ st h => wpAny_pyIter_rangeiter st h
end L2
namespace L2
open PySem PySem.Spec PyProof.Rows
section
variable {X : Cx} {tg : Expr}
theorem zlD {pins : List (Addr × Obj)} {σ : St} {H : Hp} {s : Shared} {R : It→Hp→Prop} {E : Value→Shared→Prop} {lo hi : Int} {t u v : Tok} {tk : Nat} (I : Inv X pins σ H s) (h1 : -(2 ^ 62)≤lo) (h2 : lo < 2 ^ 62) (h3 : -(2 ^ 62)≤hi) (h4 : hi < 2 ^ 62)
    (q : R (Itr lo (hi - lo).toNat) H) : wpAny (model X.prog X.w) X.A (pyIter (.ref s.heap.objs.size)) (PIE X pins σ tg R) E { s with heap := s.heap.push { cls := .type "range",data := .fields #[.int lo t,.int hi u,.int 1 v] },toks := tk } := by
  refine wpAny_pyIter_range (IsRange.new ..) (small_one h1 h2 h3 h4) ?_
  have I1 : Inv X pins σ H { s with heap := s.heap.push { cls := .type "range",data := .fields #[.int lo t,.int hi u,.int 1 v] },toks := tk } := I.kept fun b o e => Heap.get?_push_of_some _ e
  refine ⟨(s.heap.push { cls := .type "range",data := .fields #[.int lo t,.int hi u,.int 1 v] }).objs.size,[(s.heap.push { cls := .type "range",data := .fields #[.int lo t,.int hi u,.int 1 v] }).objs.size],_,_,H,rfl,
    I1.kept (t' := tk) fun b o e => Heap.get?_push_of_some _ e,ziN _ lo (hi - lo).toNat,?_,fun b hb => ?_,q⟩
  · have e1 : lo + ((0 : Nat) : Int) * 1 = lo := by simp
    have e2 : (((hi - lo).toNat : Nat) : Int) - ((0 : Nat) : Int) = Builtin.Range.rangeSize lo hi 1 := by rw [rangeSize_one]; split <;> omega
    show IsRangeIter _ _ (lo + ((0 : Nat) : Int) * 1) ((((hi - lo).toNat : Nat) : Int) - ((0 : Nat) : Int)) 1
    rw [e1,e2]
    exact Heap.get?_push_size _ rfl
  · have e : b = (s.heap.push { cls := .type "range",data := .fields #[.int lo t,.int hi u,.int 1 v] }).objs.size := by simpa using hb
    subst e
    exact I1.fpOk (Nat.le_refl _) (I1.hok.fresh (Nat.le_refl _))
noncomputable def zrq (ta : TA) : TI := fun σ H R => ta σ H fun vs H1 => ∃ j : Int,vs = [.int j]∧-(2 ^ 62)≤j∧j < 2 ^ 62∧R (Itr 0 j.toNat) H1
theorem zj5 {a : Expr} {ta : TA} {p pos : Pos} (hg : Gl X "range") (hm : X.mg "range" = none) (ha : PA X [a] ta) (hs : starEach [a] X.env = [(false,eval a X.env)] := by rfl) : PI X tg (.Call (.Name "range" p) [a] [] pos) (zrq ta) := by
  intro pins s σ H R I h
  refine Call_ (zf9 I hg hm boot_range (PyProof.Rows.callWith_type1 (thn (ha pos pins s σ H _ I h) fun us s1 ⟨vs,H1,I1,r1,q1⟩ => ?_) hs rfl))
  obtain ⟨j,e,q1,q2,q⟩ := q1
  subst e
  cases r1 with
  | cons r rr =>
    cases rr
    obtain ⟨t,rfl⟩ := r
    exact call_range_1 (zlD I1 (by omega) (by omega) q1 q2 (by simpa using q))
noncomputable def tFor (wi : TI) (g : TG) (tb : TS) : TS := fun D σ H => wi σ H fun J H1 => ∃ W : Nat→Nat→St→Hp→Prop,(∃ m,W 0 m σ H1)∧∀ i m σ H,W i m σ H →
  (J.stop i H∧D.nx σ H)∨(J.go i H∧∃ N : St→Hp→Prop,(∀ σ' H',N σ' H'→∃ m',m' < m∧W (i + 1) m' σ' H')∧∀ x H',J.yld i H x H'→g x σ H' fun σ2 H2 => tb { D with nx := N,ct := N,bk := D.nx } σ2 H2)
noncomputable def zhe (fp : List Addr) (h : Heap) : List (Addr × Obj) := fp.filterMap fun b => (h.get? b).map fun o => (b,o)
theorem zde {fp : List Addr} {h : Heap} {b : Addr} {o : Obj} (hb : b∈fp) (e : h.get? b = some o) : (b,o)∈zhe fp h := List.mem_filterMap.mpr ⟨b,hb,by rw [e]; rfl⟩
theorem zkk {fp : List Addr} {h : Heap} {p : Addr × Obj} (hp : p∈zhe fp h) : p.1∈fp∧h.get? p.1 = some p.2 := by
  obtain ⟨b,hb,e⟩ := List.mem_filterMap.mp hp
  cases q : h.get? b with
  | none => rw [q] at e; cases e
  | some o =>
    rw [q] at e
    have e' : (b,o) = p := Option.some.inj e
    subst e'
    exact ⟨hb,q⟩
theorem Inv.pinned {pins : List (Addr × Obj)} {σ : St} {H : Hp} {s : Shared} {fp : List Addr} (I : Inv X pins σ H s) (hf : ∀ b∈fp,FpOk X pins H b) (ho : ∀ b∈fp,∃ o,s.heap.get? b = some o∧∀ v,o.data≠.cell v) : Inv X (pins++zhe fp s.heap) σ H s :=
  I.pins_of fun p hp => (List.mem_append.mp hp).elim (fun z => I.pin p (List.mem_append_right _ z)) fun z => by
    obtain ⟨hb,e⟩ := zkk z
    obtain ⟨f0,f1,f2,_⟩ := hf p.1 hb
    obtain ⟨o,e',d⟩ := ho p.1 hb
    rw [e] at e'; cases e'
    exact ⟨e,f0,f1,f2,d⟩
theorem Inv.unpinned {pins pl : List (Addr × Obj)} {σ : St} {H : Hp} {s : Shared} (I : Inv X (pins++pl) σ H s) : Inv X pins σ H s := I.pins_of fun p hp => I.pin p (List.mem_append_right _ (List.mem_append_left _ hp))
theorem zj1 {iter : Expr} {body : List Stmt} {wi : TI} {g : TG} {tb : TS} {pos : Pos} (hp : PassesOwn (model X.prog X.w) X.A X.env X.xe) (hc : X.calm = true) (hi : PI X tg iter wi) (hg : PG X tg g) (hb : PSs X body tb)
    (hs : ∀ x,foldedSetIterable iter X.env x = pure x := by intro _; rfl) : PS X (.For tg iter body [] pos) (tFor wi g tb) := by
  intro pins s σ H D I h
  refine wpAny_For (thn (hi pins s σ H _ I h) fun v s1 h1 => thn h1 fun itv s2 h2 => ?_) hs
  obtain ⟨it,fp,tn,J,H2,e,I2,T,st2,f2,W,⟨m0,w0⟩,turn⟩ := h2
  subst e
  have stat : ∀ {H' : Hp},(∀ b∈fp,H' b = none)→∀ b∈fp,FpOk X pins H' b := fun hn b hb => ⟨hn b hb,(f2 b hb).2⟩
  refine codeAny_forLoop_any (fun n s' => ∃ i σ' H',Inv X pins σ' H' s'∧tn i s'.heap∧(∀ b∈fp,H' b = none)∧W i n σ' H') ?_ m0 ⟨0,σ,H2,I2,st2,fun b hb => (f2 b hb).1,w0⟩
  rintro n s3 ⟨i,σ3,H3,I3,st3,fr3,w3⟩
  rcases turn i n σ3 H3 w3 with ⟨stop,qn⟩ | ⟨go,N,hN,step⟩
  · refine wpAny_passesOwn hp (thn (T.done X rfl rfl rfl hc i pins s3 σ3 H3 X.xe I3 (stat fr3) st3 stop) fun r s4 ⟨hr,I4⟩ => ?_)
    subst hr
    exact wpAny_execs_nil ⟨σ3,H3,I4,qn⟩
  · refine wpAny_passesOwn hp (thn (T.item X rfl rfl rfl hc i pins s3 σ3 H3 X.xe I3 (stat fr3) st3 go) fun r s4 ⟨u,hr,h4⟩ => ?_)
    subst hr
    refine wpAny_passesOwn hp (thn h4 fun _ s5 ⟨x,H5,I5,r5,y5,st5,fr5⟩ => ?_)
    have I5' := I5.pinned (stat fr5) (T.obj _ _ st5)
    refine wpAny_passesOwn hp (thn (hg _ s5 σ3 H5 x u _ I5' r5 (step x H5 y5)) fun _ s6 ⟨σ6,H6,I6,q6⟩ => ?_)
    refine wpAny_passesOwn hp (thn (hb _ s6 σ6 H6 _ I6 q6) fun f s7 q7 => ?_)
    have again : ∀ {σ7 : St} {H7 : Hp},Inv X (pins++zhe fp s5.heap) σ7 H7 s7→N σ7 H7→∃ m,m < n∧∃ i σ' H',Inv X pins σ' H' s7∧tn i s7.heap∧(∀ b∈fp,H' b = none)∧W i m σ' H' := fun {σ7 H7} I7 n7 => by
      obtain ⟨m',hm,w7⟩ := hN σ7 H7 n7
      refine ⟨m',hm,i + 1,σ7,H7,I7.unpinned,T.keep _ _ _ st5 fun b hb o e => (I7.pin (b,o) (List.mem_append_right _ (List.mem_append_right _ (zde hb e)))).1,fun b hb => ?_,w7⟩
      obtain ⟨o,e,d⟩ := T.obj _ _ st5 b hb
      exact (I7.pin (b,o) (List.mem_append_right _ (List.mem_append_right _ (zde hb e)))).2.1
    cases f with
    | next => obtain ⟨σ7,H7,I7,n7⟩ := q7; exact again I7 n7
    | cont => obtain ⟨σ7,H7,I7,n7⟩ := q7; exact again I7 n7
    | brk => obtain ⟨σ7,H7,I7,q7⟩ := q7; exact ⟨σ7,H7,I7.unpinned,q7⟩
    | ret v => obtain ⟨x7,σ7,H7,I7,r7,q7⟩ := q7; exact ⟨x7,σ7,H7,I7.unpinned,r7,q7⟩
end
end L2
namespace L2
open PySem PySem.Spec PyProof.Rows
noncomputable abbrev R2 := V→V→Hp→VK→Prop
noncomputable def OpR (X : Cx) (f : Value→Value→Sem Value) (r : R2) : Prop :=
  ∀ (pins : List (Addr × Obj)) (s : Shared) (σ : St) (H : Hp) (x y : V) (v u : Value) (Q : VK),Inv X pins σ H s→RelV x v→RelV y u→r x y H Q →
    wpAny (model X.prog X.w) X.A (f v u) (EP X pins σ Q) X.xe s
noncomputable def UnR (X : Cx) (f : Value→Sem Value) (r : V→Hp→VK→Prop) : Prop :=
  ∀ (pins : List (Addr × Obj)) (s : Shared) (σ : St) (H : Hp) (x : V) (v : Value) (Q : VK),Inv X pins σ H s→RelV x v→r x H Q →
    wpAny (model X.prog X.w) X.A (f v) (EP X pins σ Q) X.xe s
noncomputable def zcO (X : Cx) (f : Value) (r : List V→Hp→VK→Prop) : Prop :=
  ∀ (pins : List (Addr × Obj)) (s : Shared) (σ : St) (H : Hp) (xs : List V) (us : List Value) (Q : VK),Inv X pins σ H s→Vals xs us→r xs H Q →
    wpAny (model X.prog X.w) X.A (call f us) (EP X pins σ Q) X.xe s
noncomputable def TruR (X : Cx) (r : V→Hp→(Bool→Hp→Prop)→Prop) : Prop :=
  ∀ (pins : List (Addr × Obj)) (s : Shared) (σ : St) (H : Hp) (x : V) (v : Value) (Q : Bool→Hp→Prop),Inv X pins σ H s→RelV x v→r x H Q →
    wpAny (model X.prog X.w) X.A (truthy v) (TP X pins σ Q) X.xe s
noncomputable def tOp (r : R2) (ta tb : TE) : TE := fun σ H Q => ta σ H fun x H1 => tb σ H1 fun y H2 => r x y H2 Q
noncomputable def tUn (r : V→Hp→VK→Prop) (ta : TE) : TE := fun σ H Q => ta σ H fun x H1 => r x H1 Q
noncomputable def rI (C : Int→Int→Prop) (g : Int→Int→V) : R2 := fun x y H Q => ∃ i j,x = .int i∧y = .int j∧C i j∧Q (g i j) H
noncomputable def rI0 (g : Int→Int→V) : R2 := fun x y H Q => ∃ i j,x = .int i∧y = .int j∧Q (g i j) H
noncomputable def rU (g : Int→V) : V→Hp→VK→Prop := fun x H Q => ∃ i,x = .int i∧Q (g i) H
section
variable {X : Cx} {a b c : Expr} {ta tb tc : TE} {pos : Pos}
theorem binT (ha : PE X a ta) (hb : PE X b tb) {pins : List (Addr × Obj)} {s : Shared} {σ : St} {H : Hp} {R : V→V→Hp→Prop} (I : Inv X pins σ H s)
    (h : ta σ H fun x H1 => tb σ H1 fun y H2 => R x y H2) {Q : Value→Shared→Prop} {f : Value→Value→Sem Value}
    (hf : ∀ v u s2 x y H2,Inv X pins σ H2 s2→RelV x v→RelV y u→R x y H2→wpAny (model X.prog X.w) X.A (f v u) Q X.xe s2) :
    wpAny (model X.prog X.w) X.A (eval a X.env) (fun v s₁ => wpAny (model X.prog X.w) X.A (eval b X.env) (fun u s₂ => wpAny (model X.prog X.w) X.A (f v u) Q X.xe s₂) X.xe s₁) X.xe s := by
  refine thn (ha pins s σ H _ I h) fun v s1 ⟨x,H1,I1,r1,q1⟩ => ?_
  refine thn (hb pins s1 σ H1 _ I1 q1) fun u s2 ⟨y,H2,I2,r2,q2⟩ => ?_
  exact hf v u s2 x y H2 I2 r1 r2 q2
theorem zq3 {op : Operator} {r : R2} (ho : OpR X (binaryOp op) r) (ha : PE X a ta) (hb : PE X b tb) : PE X (.BinOp a op b pos) (tOp r ta tb) := by
  intro pins s σ H Q I h
  exact wpAny_BinOp (binT ha hb I h fun v u s2 x y H2 I2 rx ry q => ho pins s2 σ H2 x y v u Q I2 rx ry q)
theorem zq1 {op : UnaryOp} {r : V→Hp→VK→Prop} (ho : UnR X (unaryOp op) r) (ha : PE X a ta) : PE X (.UnaryOp op a pos) (tUn r ta) := by
  intro pins s σ H Q I h
  exact UnaryOp_ (thn (ha pins s σ H _ I h) fun v s1 ⟨x,H1,I1,r1,q1⟩ => ho pins s1 σ H1 x v Q I1 r1 q1)
theorem opI {f : Value→Value→Sem Value} {C : Int→Int→Prop} {g : Int→Int→Int}
    (rule : ∀ (i j : Int) (t u : Tok) (s : Shared) (Q : Value→Shared→Prop) (E : Value→Shared→Prop),C i j→Q (.int (g i j) s.toks) { s with toks := s.toks + 1 }→wpAny (model X.prog X.w) X.A (f (.int i t) (.int j u)) Q E s) :
    OpR X f (rI C fun i j => .int (g i j)) := by
  intro pins s σ H x y v u Q I rx ry h
  obtain ⟨i,j,rfl,rfl,hc,q⟩ := h
  obtain ⟨t,rfl⟩ := rx
  obtain ⟨t',rfl⟩ := ry
  exact rule i j t t' s _ _ hc ⟨.int (g i j),H,I.tok _,⟨_,rfl⟩,q⟩
theorem opI0 {f : Value→Value→Sem Value} {g : Int→Int→Int}
    (rule : ∀ (i j : Int) (t u : Tok) (s : Shared) (Q : Value→Shared→Prop) (E : Value→Shared→Prop),Q (.int (g i j) s.toks) { s with toks := s.toks + 1 }→wpAny (model X.prog X.w) X.A (f (.int i t) (.int j u)) Q E s) :
    OpR X f (rI0 fun i j => .int (g i j)) := by
  intro pins s σ H x y v u Q I rx ry h
  obtain ⟨i,j,rfl,rfl,q⟩ := h
  obtain ⟨t,rfl⟩ := rx
  obtain ⟨t',rfl⟩ := ry
  exact rule i j t t' s _ _ ⟨.int (g i j),H,I.tok _,⟨_,rfl⟩,q⟩
theorem opB0 {f : Value→Value→Sem Value} {g : Int→Int→Bool}
    (rule : ∀ (i j : Int) (t u : Tok) (s : Shared) (Q : Value→Shared→Prop) (E : Value→Shared→Prop),Q (.bool (g i j)) s→wpAny (model X.prog X.w) X.A (f (.int i t) (.int j u)) Q E s) :
    OpR X f (rI0 fun i j => .bl (g i j)) := by
  intro pins s σ H x y v u Q I rx ry h
  obtain ⟨i,j,rfl,rfl,q⟩ := h
  obtain ⟨t,rfl⟩ := rx
  obtain ⟨t',rfl⟩ := ry
  exact rule i j t t' s _ _ ⟨.bl (g i j),H,I,rfl,q⟩
noncomputable def CDiv (i j : Int) : Prop := 0 < j∧j < 1073741824
noncomputable def CPow (i j : Int) : Prop := 0≤j∧j≤1000000∧i.natAbs < 2 ^ 64
noncomputable def CMul (i j : Int) : Prop := (-(2 ^ 64) < i∧i < 2 ^ 64)∨(-(2 ^ 64) < j∧j < 2 ^ 64)
theorem CMul.ok {i j : Int} (h : CMul i j) : IntMulOk i j := by
  rcases h with ⟨h1,h2⟩ | ⟨h1,h2⟩
  · exact .of_left (intBits_le_64 h1 h2)
  · exact .of_right (intBits_le_64 h1 h2)
theorem zmP : OpR X (binaryOp .Add) (rI0 fun i j => .int (i + j)) := opI0 fun _ _ _ _ _ _ _ q => add_int q
theorem zpx : OpR X (binaryOp .Sub) (rI0 fun i j => .int (i - j)) := opI0 fun _ _ _ _ _ _ _ q => sub_int q
theorem zpz : OpR X (binaryOp .Mult) (rI CMul fun i j => .int (i * j)) := opI fun _ _ _ _ _ _ _ hc q => mul_int q hc.ok
theorem znM : OpR X (binaryOp .FloorDiv) (rI CDiv fun i j => .int (i / j)) := opI fun i j _ _ _ _ _ hc q => by
  have h1 : (0 : Int) < j := hc.1
  have h2 : j < 1073741824 := hc.2
  exact floordiv_int (by omega) (by rw [Int.fdiv_eq_ediv_of_nonneg i (by omega)]; exact q) (.inl (PyProof.noPylong_small (by omega)))
theorem zpA : OpR X (binaryOp .Mod) (rI (fun _ j => 0 < j) fun i j => .int (i % j)) := opI fun i j _ _ _ _ _ hc q => by
  have h1 : (0 : Int) < j := hc
  exact mod_int' (by omega) (by rw [Int.fmod_eq_emod_of_nonneg i (by omega)]; exact q)
theorem zpy : OpR X (binaryOp .Pow) (rI CPow fun i j => .int (i ^ j.toNat)) := opI fun _ _ _ _ _ _ _ hc q => pow_int_small hc.1 hc.2.1 hc.2.2 q
theorem unI {f : Value→Sem Value} {g : Int→Int}
    (rule : ∀ (i : Int) (t : Tok) (s : Shared) (Q : Value→Shared→Prop) (E : Value→Shared→Prop),Q (.int (g i) s.toks) { s with toks := s.toks + 1 }→wpAny (model X.prog X.w) X.A (f (.int i t)) Q E s) :
    UnR X f (rU fun i => .int (g i)) := by
  intro pins s σ H x v Q I rx h
  obtain ⟨i,rfl,q⟩ := h
  obtain ⟨t,rfl⟩ := rx
  exact rule i t s _ _ ⟨.int (g i),H,I.tok _,⟨_,rfl⟩,q⟩
theorem zoC : UnR X (unaryOp .USub) (rU fun i => .int (-i)) := unI fun _ _ _ _ _ q => neg_int q
end
noncomputable def scal : V→V→Bool
  | .non,.non => true | .non,.int _ => true | .int _,.non => true | .non,.bl _ => true | .bl _,.non => true | .non,.str _ => true | .str _,.non => true
  | .int _,.int _ => true | .bl _,.bl _ => true | .str _,.str _ => true | .byt _,.byt _ => true
  | .int _,.str _ => true | .str _,.int _ => true | .bl _,.str _ => true | .str _,.bl _ => true
  | _,_ => false
noncomputable def rEq : R2 := fun x y H Q => scal x y = true∧Q (.bl (decide (x = y))) H
noncomputable def rNe : R2 := fun x y H Q => scal x y = true∧Q (.bl (! decide (x = y))) H
theorem zh3 {i j : Int} : decide (V.int i = V.int j) = (i == j) := by
  rw [Bool.eq_iff_iff]
  simp
theorem zk2 {i j : Bool} : decide (V.bl i = V.bl j) = (i == j) := by
  rw [Bool.eq_iff_iff]
  simp
theorem zh2 {i j : Str} : decide (V.str i = V.str j) = (i == j) := by
  rw [Bool.eq_iff_iff]
  simp
theorem zk1 {i j : Array UInt8} : decide (V.byt i = V.byt j) = (i.toList == j.toList) := by
  rw [Bool.eq_iff_iff]
  cases i
  cases j
  simp
section
variable {X : Cx} {a b c : Expr} {ta tb tc : TE} {pos : Pos}
theorem zaD {pins : List (Addr × Obj)} {σ : St} {H : Hp} {s : Shared} {Q : VK} {k k' : Bool} (I : Inv X pins σ H s) (q : Q (.bl k) H) (e : k = k') : EP X pins σ Q (.bool k') s := by
  subst e
  exact ⟨.bl k,H,I,rfl,q⟩
theorem zpF : OpR X (compareOp .Eq) rEq := by
  intro pins s σ H x y v u Q I rx ry h
  obtain ⟨hs,q⟩ := h
  cases x with
  | non =>
    cases rx
    cases y with
    | non => cases ry; exact PySem.EqNone.eq_none_none (zaD I q (by simp))
    | bl j => cases ry; exact PySem.EqNone.eq_none_bool (zaD I q (by simp))
    | int j => obtain ⟨t',rfl⟩ := ry; exact PySem.EqNone.eq_none_int (zaD I q (by simp))
    | str j => obtain ⟨t',rfl⟩ := ry; exact PySem.EqNone.eq_none_str (zaD I q (by simp))
    | _ => exact absurd (show false = true from hs) Bool.false_ne_true
  | bl i =>
    cases rx
    cases y with
    | non => cases ry; exact PySem.EqNone.eq_bool_none (zaD I q (by simp))
    | bl j => cases ry; exact eq_bool (zaD I q zk2)
    | str j => obtain ⟨t',rfl⟩ := ry; exact PySem.EqMixed.eq_bool_str (zaD I q (by simp))
    | _ => exact absurd (show false = true from hs) Bool.false_ne_true
  | int i =>
    obtain ⟨t,rfl⟩ := rx
    cases y with
    | non => cases ry; exact PySem.EqNone.eq_int_none (zaD I q (by simp))
    | int j => obtain ⟨t',rfl⟩ := ry; exact eq_int (zaD I q zh3)
    | str j => obtain ⟨t',rfl⟩ := ry; exact PySem.EqMixed.eq_int_str (zaD I q (by simp))
    | _ => exact absurd (show false = true from hs) Bool.false_ne_true
  | str i =>
    obtain ⟨t,rfl⟩ := rx
    cases y with
    | non => cases ry; exact PySem.EqNone.eq_str_none (zaD I q (by simp))
    | bl j => cases ry; exact PySem.EqMixed.eq_str_bool (zaD I q (by simp))
    | int j => obtain ⟨t',rfl⟩ := ry; exact PySem.EqMixed.eq_str_int (zaD I q (by simp))
    | str j => obtain ⟨t',rfl⟩ := ry; exact eq_str (zaD I q zh2)
    | _ => exact absurd (show false = true from hs) Bool.false_ne_true
  | byt i =>
    obtain ⟨t,rfl⟩ := rx
    cases y with
    | byt j => obtain ⟨t',rfl⟩ := ry; exact PySem.W.eq_bytes (zaD I q zk1)
    | _ => exact absurd (show false = true from hs) Bool.false_ne_true
  | _ => cases y <;> exact absurd (show false = true from hs) Bool.false_ne_true
theorem zq6 : OpR X (compareOp .NotEq) rNe := by
  intro pins s σ H x y v u Q I rx ry h
  obtain ⟨hs,q⟩ := h
  cases x with
  | non =>
    cases rx
    cases y with
    | non => cases ry; exact PySem.EqNone.ne_none_none (zaD I q (by simp))
    | bl j => cases ry; exact PySem.EqNone.ne_none_bool (zaD I q (by simp))
    | int j => obtain ⟨t',rfl⟩ := ry; exact PySem.EqNone.ne_none_int (zaD I q (by simp))
    | str j => obtain ⟨t',rfl⟩ := ry; exact PySem.EqNone.ne_none_str (zaD I q (by simp))
    | _ => exact absurd (show false = true from hs) Bool.false_ne_true
  | bl i =>
    cases rx
    cases y with
    | non => cases ry; exact PySem.EqNone.ne_bool_none (zaD I q (by simp))
    | bl j => cases ry; exact ne_bool (zaD I q (congrArg not zk2))
    | str j => obtain ⟨t',rfl⟩ := ry; exact PySem.EqMixed.ne_bool_str (zaD I q (by simp))
    | _ => exact absurd (show false = true from hs) Bool.false_ne_true
  | int i =>
    obtain ⟨t,rfl⟩ := rx
    cases y with
    | non => cases ry; exact PySem.EqNone.ne_int_none (zaD I q (by simp))
    | int j => obtain ⟨t',rfl⟩ := ry; exact ne_int (zaD I q (congrArg not zh3))
    | str j => obtain ⟨t',rfl⟩ := ry; exact PySem.EqMixed.ne_int_str (zaD I q (by simp))
    | _ => exact absurd (show false = true from hs) Bool.false_ne_true
  | str i =>
    obtain ⟨t,rfl⟩ := rx
    cases y with
    | non => cases ry; exact PySem.EqNone.ne_str_none (zaD I q (by simp))
    | bl j => cases ry; exact PySem.EqMixed.ne_str_bool (zaD I q (by simp))
    | int j => obtain ⟨t',rfl⟩ := ry; exact PySem.EqMixed.ne_str_int (zaD I q (by simp))
    | str j => obtain ⟨t',rfl⟩ := ry; exact ne_str (zaD I q (congrArg not zh2))
    | _ => exact absurd (show false = true from hs) Bool.false_ne_true
  | byt i =>
    obtain ⟨t,rfl⟩ := rx
    cases y with
    | byt j => obtain ⟨t',rfl⟩ := ry; exact PySem.W.ne_bytes (zaD I q (congrArg not zk1))
    | _ => exact absurd (show false = true from hs) Bool.false_ne_true
  | _ => cases y <;> exact absurd (show false = true from hs) Bool.false_ne_true
theorem zpB : OpR X (compareOp .Lt) (rI0 fun i j => .bl (decide (i < j))) := opB0 fun _ _ _ _ _ _ _ q => lt_int q
theorem zq7 : OpR X (compareOp .LtE) (rI0 fun i j => .bl (decide (i≤j))) := opB0 fun _ _ _ _ _ _ _ q => le_int q
theorem zq8 : OpR X (compareOp .Gt) (rI0 fun i j => .bl (decide (j < i))) := opB0 fun _ _ _ _ _ _ _ q => gt_int q
theorem zkg : OpR X (compareOp .In) (fun x y H Q => ∃ i j,x = .str i∧y = .str j∧Q (.bl (!(Builtin.Str.occurrences j i 0 j.length 1).isEmpty)) H) := by
  intro pins s σ H x y v u Q I rx ry h
  obtain ⟨i,j,rfl,rfl,q⟩ := h
  obtain ⟨t,rfl⟩ := rx
  obtain ⟨t',rfl⟩ := ry
  exact in_str (zaD I q rfl)
theorem zpC : OpR X (compareOp .Is) (fun x y H Q => y = .non∧Q (.bl (decide (x = .non))) H) := by
  intro pins s σ H x y v u Q I rx ry h
  obtain ⟨rfl,q⟩ := h
  cases ry
  refine is_none_gen (zaD I q ?_)
  cases x <;> first
    | (cases rx; rfl)
    | (obtain ⟨t,rfl⟩ := rx; rfl)
theorem zke : OpR X (compareOp .IsNot) (fun x y H Q => y = .non∧Q (.bl (! decide (x = .non))) H) := by
  intro pins s σ H x y v u Q I rx ry h
  obtain ⟨rfl,q⟩ := h
  cases ry
  refine isnot_none_gen (zaD I q ?_)
  cases x <;> first
    | (cases rx; rfl)
    | (obtain ⟨t,rfl⟩ := rx; rfl)
theorem OpR.or {f : Value→Value→Sem Value} {r r' : R2} (h : OpR X f r) (h' : OpR X f r') : OpR X f (fun x y H Q => r x y H Q∨r' x y H Q) := by
  intro pins s σ H x y v u Q I rx ry q
  rcases q with q | q
  · exact h pins s σ H x y v u Q I rx ry q
  · exact h' pins s σ H x y v u Q I rx ry q
theorem zey (b : Expr) {op : CmpOp} (h : op≠.In := by decide) (h2 : op≠.NotIn := by decide) : behindInMarks op b = false := by
  have e1 : (op == CmpOp.In) = false := by cases op <;> first | rfl | exact absurd rfl h
  have e2 : (op == CmpOp.NotIn) = false := by cases op <;> first | rfl | exact absurd rfl h2
  cases b <;> simp [behindInMarks,e1,e2]
theorem znI {op : CmpOp} {r : R2} (ho : OpR X (compareOp op) r) (ha : PE X a ta) (hb : PE X b tb) (hm : behindInMarks op b = false) : PE X (.Compare a [op] [b] pos) (tOp r ta tb) := by
  intro pins s σ H Q I h
  exact wpAny_Compare1 (binT ha hb I h fun v u s2 x y H2 I2 rx ry q => ho pins s2 σ H2 x y v u Q I2 rx ry q) hm
noncomputable def zqF (t : TE) : TT := fun σ H Q => t σ H fun x H' => ∃ k,x = .bl k∧Q k H'
theorem znA {op : CmpOp} {r : R2} (ho : OpR X (compareOp op) r) (ha : PE X a ta) (hb : PE X b tb) (hm : behindInMarks op b = false) : PT X (.Compare a [op] [b] pos) (zqF (tOp r ta tb)) := by
  intro pins s σ H Q I h
  refine wpAny_isTrue_Compare1 (thn (ha pins s σ H _ I h) fun v s1 ⟨x,H1,I1,r1,q1⟩ => thn (hb pins s1 σ H1 _ I1 q1) fun u s2 ⟨y,H2,I2,r2,q2⟩ =>
    thn (ho pins s2 σ H2 x y v u _ I2 r1 r2 q2) fun c s3 ⟨z,H3,I3,r3,k,e,q3⟩ => ?_) hm
  subst e
  cases r3
  exact wpAny_truthy_bool ⟨H3,I3,q3⟩
noncomputable def zmy (r r' : R2) (ta tb tc : TE) : TE := fun σ H Q => ta σ H fun x H1 => tb σ H1 fun y H2 => r x y H2 fun z H3 => ∃ k,z = .bl k ∧
  (if k = true then tc σ H3 fun w' H4 => r' y w' H4 Q else Q (.bl false) H3)
theorem zlO {op op' : CmpOp} {r r' : R2} (ho : OpR X (compareOp op) r) (ho' : OpR X (compareOp op') r') (ha : PE X a ta) (hb : PE X b tb) (hc : PE X c tc)
    (hm : lastMarks [op,op'] [b,c] = false := by with_unfolding_all rfl) : PE X (.Compare a [op,op'] [b,c] pos) (zmy r r' ta tb tc) := by
  intro pins s σ H Q I h
  refine Compare_chain (thn (ha pins s σ H _ I h) fun v s1 ⟨x,H1,I1,r1,q1⟩ => chain_link (thn (hb pins s1 σ H1 _ I1 q1) fun u s2 ⟨y,H2,I2,r2,q2⟩ =>
    thn (ho pins s2 σ H2 x y v u _ I2 r1 r2 q2) fun d s3 ⟨z,H3,I3,r3,k,e,q3⟩ => ?_)) hm
  subst e
  cases r3
  refine wpAny_truthy_bool ?_
  cases k with
  | false => exact ite_ff ⟨.bl false,H3,I3,rfl,q3⟩
  | true => exact ite_tt (chain_last (thn (hc pins s3 σ H3 _ I3 q3) fun w' s4 ⟨z',H4,I4,r4,q4⟩ => ho' pins s4 σ H4 y z' u w' Q I4 r2 r4 q4))
noncomputable def TruV (K : PySem.W.Frag) (x : V) (H : Hp) (k : Bool) : Prop :=
  match x with
  | .non => k = false
  | .bl b => k = b
  | .int i => k = (i != 0)
  | .str y => y.length≤sizeLine∧k = ((y.length : Int) != 0)
  | .byt y => y.size≤sizeLine∧k = ((y.size : Int) != 0)
  | .ref p => (∃ xs,SqL K H p xs∧k = ! xs.isEmpty)∨(∃ xs,SqT K H p xs∧k = ! xs.isEmpty)∨∃ kvs,Rd H p (.dK kvs)∧k = ! kvs.isEmpty
  | _ => False
theorem zjc {κ : Type} {kvs : List (κ × V)} {vs : List (κ × Value)} (r : KV kvs vs) : (! vs.isEmpty) = ! kvs.isEmpty := by
  cases r <;> rfl
theorem zga {xs : List V} {its : List Value} (r : Vals xs its) : (! its.toArray.isEmpty) = ! xs.isEmpty := by
  cases r <;> simp
theorem zf7 : (sizeLine : Nat) < 2 ^ 63 := by rw [sizeLine_eq]; decide
theorem zoH : TruR X (fun x H Q => ∃ k,TruV X.K x H k∧Q k H) := by
  intro pins s σ H x v Q I rx h
  obtain ⟨k,e,q⟩ := h
  have hl := zf7
  have hs : sizeLine = 16777216 := sizeLine_eq
  cases x with
  | non =>
    cases rx
    have e' : k = false := e
    subst e'
    exact truthy_none ⟨H,I,q⟩
  | bl b =>
    cases rx
    have e' : k = b := e
    subst e'
    exact wpAny_truthy_bool ⟨H,I,q⟩
  | int i =>
    obtain ⟨t,rfl⟩ := rx
    have e' : k = (i != 0) := e
    subst e'
    exact PySem.P.truthy_int ⟨H,I,q⟩
  | str y =>
    obtain ⟨t,rfl⟩ := rx
    obtain ⟨hy,e'⟩ : y.length≤sizeLine∧k = ((y.length : Int) != 0) := e
    subst e'
    exact PySem.P.truthy_str (by omega) ⟨H,I.tok _,q⟩
  | byt y =>
    obtain ⟨t,rfl⟩ := rx
    obtain ⟨hy,e'⟩ : y.size≤sizeLine∧k = ((y.size : Int) != 0) := e
    subst e'
    exact PySem.W.truthy_bytes (by omega) ⟨H,I.tok _,q⟩
  | ref p =>
    cases rx
    have e' : (∃ xs,SqL X.K H p xs∧k = ! xs.isEmpty)∨(∃ xs,SqT X.K H p xs∧k = ! xs.isEmpty)∨∃ kvs,Rd H p (.dK kvs)∧k = ! kvs.isEmpty := e
    rcases e' with ⟨xs,hx,e'⟩ | ⟨xs,hx,e'⟩ | ⟨kvs,hx,e'⟩
    · subst e'
      obtain ⟨its,r,pl,hz⟩ := I.list hx
      have hlen := r.length
      exact wpAny_truthy_list pl.isList (by simp only [List.size_toArray]; omega) ⟨H,I.tok _,by rw [zga r]; exact q⟩
    · subst e'
      obtain ⟨its,r,pl,hz⟩ := I.tuple hx
      have hlen := r.length
      exact truthy_tuple pl (by simp only [List.size_toArray]; omega) ⟨H,I.tok _,by rw [zga r]; exact q⟩
    · subst e'
      obtain ⟨hz,hS,vs,r,m⟩ : kvs.length≤sizeLine∧(p == sysModules) = false∧∃ vs,KV kvs vs∧s.heap.DictOf (za3 X.prog X.w) p vs := hx.ok I.hok
      have hlen : kvs.length = vs.length := Paired.length r
      exact wpAny_truthy_dict hS m (by omega) ⟨H,I.tok _,by rw [zjc r]; exact q⟩
  | _ => exact (show False from e).elim
theorem zlG (ha : PE X a ta) (he : ∀ whole,isTrue a X.env whole = (do let v ← whole; standAt a.pos; holding [v] (truthy v))) :
    PT X a (fun σ H Q => ta σ H fun x H' => ∃ k,TruV X.K x H' k∧Q k H') := by
  intro pins s σ H Q I h
  exact isTrue_plain (thn (ha pins s σ H _ I h) fun v s1 ⟨x,H1,I1,r1,q1⟩ => zoH pins s1 σ H1 x v Q I1 r1 q1) (he _)
theorem zf3 : OpR X (binaryOp .Add) (fun x y H Q => ∃ i j,x = .str i∧y = .str j∧i.length + j.length≤sizeLine∧Q (.str (i++j)) H) := by
  intro pins s σ H x y v u Q I rx ry h
  obtain ⟨i,j,rfl,rfl,hz,q⟩ := h
  obtain ⟨t,rfl⟩ := rx
  obtain ⟨t',rfl⟩ := ry
  exact add_str (fun t' tk => ⟨.str (i++j),H,I.tok _,⟨_,rfl⟩,q⟩) hz
theorem zeb {x : V} {us : List Value} (r : Vals [x] us) : ∃ u,us = [u]∧RelV x u := by
  cases r with
  | cons r1 r2 => cases r2; exact ⟨_,rfl,r1⟩
theorem zoA {x y : V} {us : List Value} (r : Vals [x,y] us) : ∃ u w',us = [u,w']∧RelV x u∧RelV y w' := by
  cases r with
  | cons r1 r2 =>
    cases r2 with
    | cons r3 r4 => cases r4; exact ⟨_,_,rfl,r1,r3⟩
noncomputable def LenV (K : PySem.W.Frag) (x : V) (H : Hp) (n : Nat) : Prop :=
  match x with
  | .str y => y.length≤sizeLine∧n = y.length
  | .byt y => y.size≤sizeLine∧n = y.size
  | .ref p => (∃ xs,SqL K H p xs∧n = xs.length)∨∃ xs,SqT K H p xs∧n = xs.length
  | _ => False
theorem zmj : zcO X (.builtin "len") (fun xs H Q => ∃ x n,xs = [x]∧LenV X.K x H n∧Q (.int n) H) := by
  intro pins s σ H xs us Q I r h
  obtain ⟨x,n,rfl,e,q⟩ := h
  obtain ⟨u,rfl,rx⟩ := zeb r
  have hl := zf7
  have hs : sizeLine = 16777216 := sizeLine_eq
  cases x with
  | str y =>
    obtain ⟨t,rfl⟩ := rx
    obtain ⟨hy,e'⟩ : y.length≤sizeLine∧n = y.length := e
    subst e'
    exact len_str (by omega) ⟨.int _,H,I.tok _,⟨_,rfl⟩,q⟩
  | byt y =>
    obtain ⟨t,rfl⟩ := rx
    obtain ⟨hy,e'⟩ : y.size≤sizeLine∧n = y.size := e
    subst e'
    exact PySem.W.len_bytes (by omega) ⟨.int _,H,I.tok _,⟨_,rfl⟩,q⟩
  | ref p =>
    cases rx
    have e' : (∃ xs,SqL X.K H p xs∧n = xs.length)∨∃ xs,SqT X.K H p xs∧n = xs.length := e
    rcases e' with ⟨xs,hx,e'⟩ | ⟨xs,hx,e'⟩
    · subst e'
      obtain ⟨its,r',pl,hz⟩ := I.list hx
      have hlen := r'.length
      exact Calls.call_len_list pl.isList (by simp only [List.size_toArray]; omega) ⟨.int xs.length,H,I.tok _,⟨_,by simp only [List.size_toArray]; rw [hlen]⟩,q⟩
    · subst e'
      obtain ⟨its,r',pl,hz⟩ := I.tuple hx
      have hlen := r'.length
      exact len_tuple pl (by simp only [List.size_toArray]; omega) ⟨.int xs.length,H,I.tok _,⟨_,by simp only [List.size_toArray]; rw [hlen]⟩,q⟩
  | _ => exact (show False from e).elim
end
end L2
namespace L2
open PySem PySem.Spec PyProof.Rows
structure ObjM (h : Heap) (x dx C : Addr) (mA : Str→Option Value) : Prop where
  obj : h.get? x = some (PySem.W.instObj C dx)
  ns : h.Ns1 dx mA
  ne : dx≠x
section
variable {prog : Program} {w : World} {A : Around} {E : Value → Shared → Prop} {s : Shared} {K : PySem.W.Frag} {x dx C f : Addr} {mA : Str → Option Value} {name : Str} {v : Value}
end
theorem RelO.some_of {v : V} {o : Option Value} (r : RelO (some v) o) : ∃ u,o = some u∧RelV v u := by
  cases o with
  | none => exact (show False from r).elim
  | some u => exact ⟨u,rfl,r⟩
section
variable {P : Program} {w : World} {H H' : Hp} {h h' : Heap} {a C dx : Addr} {fs fs' : List (Str × V)}
end
structure Cls (K : PySem.W.Frag) (C : Addr) : Prop where
  pg : PySem.W.plainGet K C Str.empty = true
  hd : PySem.W.hasDictIn K C = true
  po : PySem.W.plainOver K C = true
  sa : PySem.W.findIn K (.ref C) "__setattr__" = some (some (.builtin "object.__setattr__"))
theorem Cls.get {K : PySem.W.Frag} {C : Addr} (c : Cls K C) (f : Str) : PySem.W.plainGet K C f = true := c.pg
structure Con (K : PySem.W.Frag) (C : Addr) (f : Str) (v : V) (u : Value) : Prop where
  at_ : PySem.W.findIn K (.ref C) f = some (some u)
  rel : RelV v u
  get : PySem.W.specialIn K u "__get__" = some none
  cp : PySem.W.copiedNames.contains f = false
structure Meth (K : PySem.W.Frag) (C : Addr) (m : Str) (f : Addr) : Prop where
  at_ : PySem.W.findIn K (.ref C) m = some (some (.ref f))
  fn : PySem.W.isFn K (.ref f) = true
  kp : PySem.W.keepIn K (.ref f) = true
section
variable {X : Cx} {pins : List (Addr × Obj)} {σ : St} {H : Hp} {s : Shared} {a C dx : Addr} {fs : List (Str × V)} {f : Str} {v : V} {A : Around} {E : Value → Shared → Prop}
end
section
variable {X : Cx} {o e value : Expr} {f : Str} {pos pos' tpos : Pos} {ta tv : TE}
end
section
variable {X : Cx} {pins : List (Addr × Obj)} {σ : St} {H : Hp} {s : Shared} {A : Around} {E : Value → Shared → Prop} {Q : Value → Shared → Prop} {c : Value} {b : Bool}
inductive TyOf (K : PySem.W.Frag) (H : Hp) : V→Value→Prop where
  | non : TyOf K H .non (.type "NoneType")
  | bl (x : Bool) : TyOf K H (.bl x) (.type "bool")
  | int (i : Int) : TyOf K H (.int i) (.type "int")
  | str (x : Str) : TyOf K H (.str x) (.type "str")
  | flt (x : UInt64) : TyOf K H (.flt x) (.type "float")
  | lst {a : Addr} {xs : List V} (e : H a = some (.lst xs)) : TyOf K H (.ref a) (.type "list")
  | frz {a : Addr} {o : Obj} {xs : List V} (e : H a = some (.frz o (.lst xs))) : TyOf K H (.ref a) (.type "list")
  | tup {a : Addr} {xs : List V} (e : H a = some (.tup xs)) : TyOf K H (.ref a) (.type "tuple")
  | dK {a : Addr} {kvs : List (Key × V)} (e : H a = some (.dK kvs)) : TyOf K H (.ref a) (.type "dict")
  | dT {a : Addr} {kvs : List (List Key × V)} (e : H a = some (.dT kvs)) : TyOf K H (.ref a) (.type "dict")
  | ins {a C dx : Addr} {fs : List (Str × V)} (e : H a = some (.ins C dx fs)) (cl : Cls K C) (ha : PySem.W.findIn K (.ref C) "__class__" = some (some (.builtin "object.__class__")))
      (hn : PySem.W.specialIn K (.builtin "object.__class__") "__get__" = some (some (.builtin "getset_descriptor.__get__"))) (htk : PySem.W.takesIn K (.builtin "object.__class__") = some true)
      (hm : PySem.W.mroIn K C (.type "object") = some true) : TyOf K H (.ref a) (.ref C)
end
end L2
namespace L2
open PySem PySem.Spec PyProof.Rows
structure Room (k : Nat) (A : Around) : Prop where
  hd : A.handled = none
  dp : A.depth + 3 * k + 5 < recursionLimit
  un : A.units + 16 * k + 200 < cLine
theorem Room.mono {j k : Nat} {A : Around} (r : Room k A) (h : j≤k) : Room j A := ⟨r.hd,by have := r.dp; omega,by have := r.un; omega⟩
theorem Room.deeper {k : Nat} {A : Around} (r : Room (k + 1) A) (env : Env) : Room k (A.deeper env) :=
  ⟨r.hd,by have := r.dp; show A.depth + 1 + 3 * k + 5 < _; omega,by have := r.un; show A.units + 3 + 16 * k + 200 < _; omega⟩
theorem Room.depth {k : Nat} {A : Around} (r : Room k A) : A.depth < recursionLimit := by have := r.dp; omega
theorem Room.units {k : Nat} {A : Around} (r : Room k A) : A.units + 64 < cLine := by have := r.un; omega
noncomputable def tNil : TA := fun _ H Q => Q [] H
noncomputable def zqL (ta : TE) (tr : TA) : TA := fun σ H Q => ta σ H fun x H1 => tr σ H1 fun xs H2 => Q (x::xs) H2
section
variable {X : Cx} {e : Expr} {es : List Expr} {te : TE} {t : TA} {pos : Pos}
theorem zdX : PA X [] tNil := fun _ _ _ _ H Q I h => Calls.spliced_nil ⟨[],H,I,.nil,h⟩
theorem zbo (ha : PE X e te) (hr : PA X es t) (hs : starEach (e::es) X.env = (false,eval e X.env)::starEach es X.env := by rfl) : PA X (e::es) (zqL te t) := by
  intro pos pins s σ H Q I h
  rw [hs]
  show wpAny _ _ (spliced ((false,eval e X.env)::backTo pos (starEach es X.env))) _ _ s
  refine Calls.spliced_cons (thn (ha pins s σ H _ I h) fun u s1 ⟨x,H1,I1,r1,q1⟩ => ?_)
  exact thn (hr pos pins s1 σ H1 _ I1 q1) fun us s2 ⟨xs,H2,I2,r2,q2⟩ => ⟨x::xs,H2,I2,.cons r1 r2,q2⟩
noncomputable def tTup (t : TA) : TE := fun σ H Q => t σ H fun xs H1 => xs.length≤sizeLine∧∀ p,H1 p = none→Q (.ref p) (upd H1 p (.tup xs))
noncomputable def tLst (t : TA) : TE := fun σ H Q => t σ H fun xs H1 => xs.length≤sizeLine∧∀ p,H1 p = none→Q (.ref p) (upd H1 p (.lst xs))
theorem zpo {x1} (h : PA X es t) : PE X (.Tuple es x1 pos) (tTup t) := by
  intro pins s σ H Q I hq
  refine wpAny_Tuple_spliced (thn (h pos pins s σ H _ I hq) fun us s1 ⟨xs,H1,I1,r,z,q⟩ => ⟨by rw [← r.length]; exact z,?_⟩)
  have hf : H1 s1.heap.objs.size = none := I1.hok.fresh (Nat.le_refl _)
  refine ⟨.ref s1.heap.objs.size,upd H1 s1.heap.objs.size (.tup xs),I1.laid (t' := s1.toks) (fun b u e => Heap.get?_push_of_some _ e) (Nat.le_refl _) ?_,rfl,q _ hf⟩
  exact ⟨z,us,r,⟨_,Heap.get?_push_size _ rfl,rfl,_,rfl⟩,_,Heap.get?_push_size _ rfl,rfl⟩
theorem zpt (h : PA X es t) : PE X (.List es pos) (tLst t) := by
  intro pins s σ H Q I hq
  refine wpAny_List_spliced (thn (h pos pins s σ H _ I hq) fun us s1 ⟨xs,H1,I1,r,z,q⟩ => ⟨by rw [← r.length]; exact z,?_⟩)
  have hf : H1 s1.heap.objs.size = none := I1.hok.fresh (Nat.le_refl _)
  refine ⟨.ref s1.heap.objs.size,upd H1 s1.heap.objs.size (.lst xs),I1.laid (t' := s1.toks) (fun b u e => Heap.get?_push_of_some _ e) (Nat.le_refl _) ?_,rfl,q _ hf⟩
  exact ⟨z,us,0,r,Heap.get?_push_size _ rfl⟩
end
noncomputable abbrev Sp := List V→Hp→VK→XK→Prop
noncomputable abbrev CXT := List Env→Hp→Shared→XK→Value→Shared→Prop
structure Env0 (P : Program) (w : World) (K : PySem.W.Frag) (mg : Str→Option Value) (base : Heap) (A : Around) (outer : List Env) (s : Shared) (H : Hp) : Prop where
  frames : A.frames = some outer
  mod : Mod K mg base
  bs : ∀ b o,base.get? b = some o→s.heap.get? b = some o∧H b = none
  bsz : base.objs.size≤s.heap.objs.size
  funs : s.heap.FunFrames base outer
  frf : ∀ b∈frs outer,H b = none
  hok : HOk P w H s.heap
  bare : AllBare s.gens
noncomputable def CE (outer : List Env) (P : Program) (w : World) (H : Hp) (s : Shared) (Q : VK) (u : Value) (s' : Shared) : Prop :=
  ∃ v H',s'.os = s.os∧AllBare s'.gens∧Un (frs outer) [] H H' s.heap s'.heap∧HOk P w H' s'.heap∧RelV v u∧Q v H'
noncomputable def CR (CX : CXT) (outer : List Env) (P : Program) (w : World) (H : Hp) (s : Shared) (Q : VK) (E : XK) (r : Result) (s' : Shared) : Prop :=
  match r with
  | .ok (.ret u) => CE outer P w H s Q u s'
  | .ok _ => False
  | .error e => CX outer H s E e s'
structure FnOk (P : Program) (w : World) (K : PySem.W.Frag) (mg : Str→Option Value) (base : Heap) (CX : CXT) (k : Nat) (f : Addr) (fd : FuncData) (ps : List Str) (sp : Sp) : Prop where
  len : ∀ vs H Q E,sp vs H Q E→vs.length = ps.length
  run : ∀ (A : Around) (outer : List Env) (s : Shared) (H : Hp) (args : Args) (us : List Value) (vs : List V) (Q : VK) (E : XK),Room k A→Env0 P w K mg base A outer s H→BindsTo s fd args (ps.zip us)→Vals vs us→sp vs H Q E →
    codeAny (model P w) A (.call (.ref f) args) (CR CX outer P w H s Q E) s
theorem FnOk.mono {P : Program} {w : World} {K : PySem.W.Frag} {mg : Str→Option Value} {base : Heap} {CX : CXT} {j k : Nat} {f : Addr} {fd : FuncData} {ps : List Str} {sp : Sp} (F : FnOk P w K mg base CX j f fd ps sp) (h : j≤k) :
    FnOk P w K mg base CX k f fd ps sp := ⟨F.len,fun A outer s H args us vs Q E hr => F.run A outer s H args us vs Q E (hr.mono h)⟩
section
variable {X : Cx} {pins : List (Addr × Obj)} {σ : St} {H : Hp} {s s' : Shared}
theorem Inv.env0 (I : Inv X pins σ H s) : Env0 X.prog X.w X.K X.mg X.base X.A X.stack s H :=
  ⟨I.ok.frames,I.ok.mod,I.bs,Nat.le_trans I.ok.bsz I.sz,I.stack,I.stkFree,I.hok,I.bare⟩
theorem Inv.after {Q : VK} {u : Value} (I : Inv X pins σ H s) (h : CE X.stack X.prog X.w H s Q u s') : EP X pins σ Q u s' := by
  obtain ⟨v,H',os,bare,un,hok,r,q⟩ := h
  obtain ⟨hh,g,d,t,os'⟩ := s'
  obtain rfl : os' = s.os := os
  exact ⟨v,H',I.call (h' := hh) (g' := g) (d' := d) (t' := t) (ch := []) un hok bare (fun b z => absurd z (by simp)),r,q⟩
end
noncomputable def zqM (sp : Sp) (dvs : List V) (E : XK) (t : TA) : TE := fun σ H Q => t σ H fun vs H1 => sp (vs++dvs) H1 Q E
noncomputable def zfO (K : PySem.W.Frag) (fd : FuncData) (ps : List Str) (ds : List Value) : Prop :=
  ∀ (s : Shared) (us : List Value),K.In s.heap→(us++ds).length = ps.length→BindsTo s fd ⟨us,[]⟩ (ps.zip (us++ds))
theorem zfO.all {K : PySem.W.Frag} {fd : FuncData} {ps : List Str} (h : ∀ us : List Value,us.length = ps.length→bindArgs fd ⟨us,[]⟩ = pure (ps.zip us)) : zfO K fd ps [] := fun s us _ hl => by
  rw [List.append_nil] at hl ⊢
  exact .of_eq (h us hl)
noncomputable def zll (CX : CXT) (X : Cx) (E : XK) : Prop := ∀ (pins : List (Addr × Obj)) (σ : St) (H : Hp) (s : Shared) (e : Value) (s' : Shared),Inv X pins σ H s→CX X.stack H s E e s'→X.xe e s'
section
variable {X : Cx} {CX : CXT} {k : Nat} {f C : Addr} {fd : FuncData} {ps : List Str} {sp : Sp} {dvs : List V} {ds : List Value} {E : XK} {x m : Str} {p pos apos : Pos} {e o : Expr} {es : List Expr} {ta : TE} {t : TA}
theorem zo7 {pins : List (Addr × Obj)} {σ : St} {H : Hp} {s : Shared} {Q : VK} {us : List Value} {vs : List V} (F : FnOk X.prog X.w X.K X.mg X.base CX k f fd ps sp) (hr : Room k X.A) (hb : zfO X.K fd ps ds) (hd : Vals dvs ds) (hx : zll CX X E)
    (I : Inv X pins σ H s) (r : Vals vs us) (h : sp (vs++dvs) H Q E) : wpAny (model X.prog X.w) X.A (call (.ref f) us) (EP X pins σ Q) X.xe s := by
  have r2 : Vals (vs++dvs) (us++ds) := r.append hd
  have hl : (us++ds).length = ps.length := by rw [← r2.length]; exact F.len _ _ _ _ h
  refine wpAny_call (codeAny_mono (F.run X.A X.stack s H ⟨us,[]⟩ (us++ds) (vs++dvs) Q E hr I.env0 (hb s us I.kIn hl) r2 h) fun r s' hq => ?_)
  cases r with
  | error e => exact hx pins σ H s e s' I hq
  | ok fl =>
    cases fl with
    | ret u => exact I.after hq
    | next => exact False.elim hq
    | brk => exact False.elim hq
    | cont => exact False.elim hq
theorem zgx (F : FnOk X.prog X.w X.K X.mg X.base CX k f fd ps sp) (hr : Room k X.A) (hg : Gl X x) (hm : X.mg x = some (.ref f)) (hk : PySem.W.keepIn X.K (.ref f) = true) (hb : zfO X.K fd ps ds) (hd : Vals dvs ds) (hx : zll CX X E)
    (ha : PA X (e::es) t) (hdb : (x == ("__debug__" : Str)) = false := by decide) (he : starEach (e::es) X.env = (false,eval e X.env)::starEach es X.env := by rfl) (hpl : (backTo pos (starEach es X.env)).any (·.1) = false := by rfl) :
    PE X (.Call (.Name x p) (e::es) [] pos) (zqM sp dvs E t) := by
  intro pins s σ H Q I h
  refine wpAny_Call_Name_kw (zn4 I hg hm ?_ hdb)
  refine PySem.W.callWith_K (h₀ := X.base) I.ok.mod.kin hk (thn (ha pos pins s σ H _ I h) fun us s1 ⟨vs,H1,I1,r,q⟩ => ⟨I1.kIn,?_⟩) he hpl
  exact zo7 F hr hb hd hx I1 r q
structure Mk (K : PySem.W.Frag) (C f : Addr) : Prop where
  makes : PySem.W.makesIn K C = true
  init : PySem.W.findIn K (.ref C) "__init__" = some (some (.ref f))
  fn : PySem.W.isFn K (.ref f) = true
  kp : PySem.W.keepIn K (.ref C) = true
end
section
variable {X : Cx} {CX : CXT} {k : Nat} {f C : Addr} {fd : FuncData} {ps ks : List Str} {sp : Sp} {E : XK} {x m : Str} {p pos apos kpos : Pos} {e o : Expr} {es : List Expr} {kws : List Keyword} {te ta : TE} {t tk : TA} {nm : Option Str}
structure KBinds (K : PySem.W.Frag) (fd : FuncData) (ps ks : List Str) (g : List Value→List Value→List Value) (gV : List V→List V→List V) : Prop where
  to : ∀ (s : Shared) (us ws : List Value),K.In s.heap→(g us ws).length = ps.length→BindsTo s fd ⟨us,ks.zip ws⟩ (ps.zip (g us ws))
  rel : ∀ {vs : List V} {us : List Value} {zs : List V} {ws : List Value},Vals vs us→Vals zs ws→Vals (gV vs zs) (g us ws)
variable {g : List Value → List Value → List Value} {gV : List V → List V → List V}
end
structure FnScope (N P : List Str) (sc : Scope) : Prop where
  kind : sc.kind = .function
  co : sc.isCoroutine = false
  gen : sc.isGenerator = false
  nd : N.Nodup
  pre : N.take P.length = P
  par : ∀ x∈P,sc.names.lookup x = some .local∨sc.names.lookup x = some .cell
  nofree : ∀ y∈sc.names,y.2≠.free
theorem zhx {kindOf : Str→Option NameKind} {x : Str} : ∀ {binds : List (Str × Value)} {m : Str→Option Value},(∀ v,(x,v)∉binds)→bindL kindOf binds m x = m x
  | [],_,_ => rfl
  | (n,v)::r,m,h => by
    unfold bindL
    rw [zhx fun w hw => h w (List.mem_cons_of_mem _ hw)]
    split
    · have : x≠n := by rintro rfl; exact h v List.mem_cons_self
      simp [this]
    · rfl
theorem zhz {kindOf : Str→Option NameKind} {x : Str} : ∀ {binds : List (Str × Value)} {m : Str→Option Value},(∀ v,(x,v)∉binds)→bindC kindOf binds m x = m x
  | [],_,_ => rfl
  | (n,v)::r,m,h => by
    unfold bindC
    rw [zhz fun w hw => h w (List.mem_cons_of_mem _ hw)]
    split
    · rfl
    · have : x≠n := by rintro rfl; exact h v List.mem_cons_self
      simp [this]
theorem zhy {kindOf : Str→Option NameKind} {x : Str} {v : Value} : ∀ {P : List Str} {vs : List Value} {i : Nat} {m : Str→Option Value},P.Nodup→P[i]? = some x→vs[i]? = some v→kindOf x = some .local →
    bindL kindOf (P.zip vs) m x = some v
  | [],_,_,_,_,h,_,_ => by simp at h
  | _::_,[],_,_,_,_,h,_ => by simp at h
  | p::P,w::vs,0,m,nd,h1,h2,hk => by
    simp at h1 h2; subst h1; subst h2
    show bindL kindOf ((p,w)::P.zip vs) m p = _
    unfold bindL
    rw [zhx fun v hv => (List.nodup_cons.mp nd).1 (List.of_mem_zip hv).1,if_pos hk]
    simp
  | p::P,w::vs,i + 1,m,nd,h1,h2,hk => by
    show bindL kindOf ((p,w)::P.zip vs) m x = _
    unfold bindL
    exact zhy (i := i) (List.nodup_cons.mp nd).2 (by simpa using h1) (by simpa using h2) hk
theorem zhA {kindOf : Str→Option NameKind} {x : Str} {v : Value} : ∀ {P : List Str} {vs : List Value} {i : Nat} {m : Str→Option Value},P.Nodup→P[i]? = some x→vs[i]? = some v→kindOf x≠some .local →
    bindC kindOf (P.zip vs) m x = some v
  | [],_,_,_,_,h,_,_ => by simp at h
  | _::_,[],_,_,_,_,h,_ => by simp at h
  | p::P,w::vs,0,m,nd,h1,h2,hk => by
    simp at h1 h2; subst h1; subst h2
    show bindC kindOf ((p,w)::P.zip vs) m p = _
    unfold bindC
    rw [zhz fun v hv => (List.nodup_cons.mp nd).1 (List.of_mem_zip hv).1,if_neg hk]
    simp
  | p::P,w::vs,i + 1,m,nd,h1,h2,hk => by
    show bindC kindOf ((p,w)::P.zip vs) m x = _
    unfold bindC
    exact zhA (i := i) (List.nodup_cons.mp nd).2 (by simpa using h1) (by simpa using h2) hk
noncomputable def start (N : List Str) (vs : List V) : St := vs.map some++List.replicate (N.length - vs.length) none
noncomputable def cxOf (CX : CXT) (P : Program) (w : World) (K : PySem.W.Frag) (mg : Str→Option Value) (base : Heap) (N : List Str) (qual : Str) (scope : Scope) (f : Addr) (cd : Value) (A : Around) (outer : List Env) (s : Shared) (H : Hp) (E : XK) : Cx where
  prog := P
  w := w
  K := K
  mg := mg
  base := base
  A := A.deeper (envOfC qual scope s.heap.objs.size f cd)
  N := N
  s₀ := s
  H₀ := H
  env := envOfC qual scope s.heap.objs.size f cd
  outer := outer
  stack := envOfC qual scope s.heap.objs.size f cd::outer
  ex := []
  calm := true
  fn := fun _ => true
  pn := []
  xe := fun e s' => wpAny (model P w) (A.deeper (envOfC qual scope s.heap.objs.size f cd)) (leaving (envOfC qual scope s.heap.objs.size f cd) e) (fun _ s'' => CX outer H s E e s'') (fun e' s'' => CX outer H s E e' s'') s'
theorem ziH {sc : Scope} {n : Nat} {x : Str} (h : sc.names.lookup x = some .cell) : ∃ c,(cellsFrom n sc.names []).lookup x = some c := by
  have q := PySem.W.cellsFrom_some sc.names n [] (.inl h)
  exact Option.isSome_iff_exists.mp q
theorem zkK {CX : CXT} {P : Program} {w : World} {K : PySem.W.Frag} {mg : Str→Option Value} {base : Heap} {N ps : List Str} {qual : Str} {scope : Scope} {f : Addr} {cd : Value} {A : Around} {outer : List Env} {s s1 : Shared} {H : Hp} {E : XK} {us : List Value} {vs : List V}
    (S : FnScope N ps scope) (hd : A.handled = none) (e0 : Env0 P w K mg base A outer s H) (hl : vs.length = ps.length) (r : Vals vs us)
    (x : InCallC s s.heap.objs.size (bindL (envOfC qual scope s.heap.objs.size f cd).kindOf (ps.zip us) fun _ => none) (cellsFrom (s.heap.objs.size + 1) scope.names []) (bindC (envOfC qual scope s.heap.objs.size f cd).kindOf (ps.zip us) fun _ => none) s1) :
    Inv (cxOf CX P w K mg base N qual scope f cd A outer s H E) [] (start N vs) H s1 := by
  have hpl : ps.length≤N.length := by have := congrArg List.length S.pre; rw [List.length_take] at this; omega
  obtain ⟨h1,tk,rfl,hk⟩ := x.done
  have noA : ∀ b : Addr,b∉(cxOf CX P w K mg base N qual scope f cd A outer s H E).ex := fun b z => absurd (show b∈([] : List Addr) from z) (by simp)
  refine ⟨⟨e0.mod,S.kind,rfl,rfl,Nat.le_refl _,fun y z c h1 h2 => ?_,fun y hy => ?_,fun y c _ h => ?_,fun _ => hd,Around.frames_deeper e0.frames,.inr ⟨rfl,rfl⟩,fun b z => absurd z (noA b),e0.bs,e0.bsz,fun b _ _ => noA b,fun b z => absurd z (noA b),e0.funs,e0.frf⟩,
    rfl,e0.bare,Un.kept hk,⟨_,x.toInCall.ns,fun i y v h1 h2 h3 => ?_⟩,fun y c h => ⟨_,x.cell y c h⟩,e0.hok.fresh (Nat.le_refl _),fun y c h => ?_,fun p hp => absurd (show p∈([] : List (Addr × Obj)) from hp) (by simp),e0.hok.kept hk,?_⟩
  · exact name_of_addr x.apart (PySem.mem_of_lookup h1) (PySem.mem_of_lookup h2)
  · have hy : scope.names.lookup y = some .cell∨scope.names.lookup y = some .free := hy
    rcases hy with hy | hy
    · exact ziH hy
    · exact absurd rfl (S.nofree _ (PySem.mem_of_lookup hy))
  · exact Nat.le_of_lt (x.above y c (PySem.mem_of_lookup h))
  · have hi : i < vs.length := by
      unfold start at h2
      by_cases hi : i < vs.length
      · exact hi
      · rw [List.getElem?_append_right (by simpa using hi)] at h2
        rw [List.getElem?_replicate] at h2
        split at h2 <;> cases h2
    have ha : vs[i]? = some v := by
      unfold start at h2
      rw [List.getElem?_append_left (by simpa using hi),List.getElem?_map] at h2
      cases e : vs[i]? with
      | none => rw [e] at h2; cases h2
      | some a => rw [e] at h2; cases h2; rfl
    obtain ⟨u,hu,rv⟩ := r.get ha
    have hp : ps[i]? = some y := by
      rw [← S.pre,List.getElem?_take_of_lt (by omega)]; exact h1
    have ndP : ps.Nodup := by rw [← S.pre]; exact S.nd.sublist (List.take_sublist _ _)
    refine ⟨u,rv,?_⟩
    rcases S.par y (List.mem_of_getElem? hp) with k | k
    · exact .inl ⟨k,zhy ndP hp hu k⟩
    · obtain ⟨c,e⟩ := ziH (n := s.heap.objs.size + 1) k
      refine .inr ⟨.inl k,c,e,?_⟩
      have q := x.cell y c e
      rw [zhA ndP hp hu (by show scope.names.lookup y≠_; rw [k]; decide)] at q
      exact q
  · exact e0.hok.fresh (Nat.le_of_lt (x.above y c (PySem.mem_of_lookup h)))
  · unfold start
    show _ = N.length
    rw [List.length_append,List.length_map,List.length_replicate]
    omega
theorem zqd {CX : CXT} {P : Program} {w : World} {K : PySem.W.Frag} {mg : Str→Option Value} {base : Heap} {k : Nat} {f : Addr} {name qual : Str} {params : Arguments} {body : List Stmt} {scope : Scope} {dV kV doc pm cdv ct oc : Value} {an od : Option Addr}
    {osl : Array (Option Value)} {N ps : List Str} {sp : Sp} (lk : K.lookup f = some ⟨oc,od,.func (PySem.W.fnOf name qual params body scope dV kV doc pm an cdv ct),osl⟩) (hcd : PySem.W.codeIn K cdv qual = true) (S : FnScope N ps scope)
    (len : ∀ vs H Q E,sp vs H Q E→vs.length = ps.length)
    (hbody : ∀ (A : Around) (outer : List Env) (s : Shared) (H : Hp) (vs : List V) (Q : VK) (E : XK),Room k (A.deeper (envOfC qual scope s.heap.objs.size f cdv))→sp vs H Q E →
      ∃ t,PSs (cxOf CX P w K mg base N qual scope f cdv A outer s H E) body t∧t { nx := fun _ H' => Q .non H',rt := Q } (start N vs) H) :
    FnOk P w K mg base CX (k + 1) f (PySem.W.fnOf name qual params body scope dV kV doc pm an cdv ct) ps sp := by
  refine ⟨len,fun A outer s H args us vs Q E hr e0 hb r hsp => ?_⟩
  have hl := len _ _ _ _ hsp
  have KX : K.In s.heap := e0.mod.kin.keeps fun b o e => (e0.bs b o e).1
  have lim : s.heap.NoLimit := e0.mod.nolimit.keeps fun b o e => (e0.bs b o e).1
  have hkind : ∀ y∈ps.zip us,scope.names.lookup y.1 = some .local∨(scope.names.lookup y.1 = some .cell∧((cellsFrom (s.heap.objs.size + 1) scope.names []).lookup y.1).isSome = true) := fun ⟨n,v⟩ hy => by
    rcases S.par n (List.of_mem_zip hy).1 with q | q
    · exact .inl q
    · exact .inr ⟨q,PySem.W.cellsFrom_some _ _ _ (.inl q)⟩
  refine codeAny_call_function hr.depth (KX _ _ lk) rfl S.co S.gen rfl (PySem.W.codeRec_of KX hcd) (hb _ _ _ _ ?_)
  refine wpAny_newFunctionEnv_cells S.kind hkind fun env he s1 x => ?_
  subst he
  refine ⟨lim.keeps x.toInCall.keep,codeAny_func ?_⟩
  obtain ⟨t,ht,hq⟩ := hbody A outer s H vs Q E (hr.deeper _) hsp
  have I : Inv (cxOf CX P w K mg base N qual scope f cdv A outer s H E) [] (start N vs) H s1 := zkK S hr.hd e0 hl r x
  refine wpAny_mono (ht [] s1 (start N vs) H _ I hq) (fun fl s' hs => ?_) fun e s' hs => hs
  have fin : ∀ {σ' : St} {H' : Hp} {v : V} {u : Value},Inv (cxOf CX P w K mg base N qual scope f cdv A outer s H E) [] σ' H' s'→RelV v u→Q v H'→CE outer P w H s Q u s' :=
    fun {σ' H' v u} J rv q => ⟨v,H',J.os,J.bare,J.base,J.hok,rv,q⟩
  cases fl with
  | ret u =>
    obtain ⟨v,σ',H',J,rv,q⟩ := hs
    exact fin J rv q
  | next =>
    obtain ⟨σ',H',J,q⟩ := hs
    exact fin (v := V.non) (u := Value.none) J rfl q
  | brk =>
    obtain ⟨_,_,_,q⟩ := hs
    exact False.elim q
  | cont =>
    obtain ⟨_,_,_,q⟩ := hs
    exact False.elim q
end L2
namespace L2
open PySem PySem.Spec PyProof.Rows
section
variable {X : Cx} {x : Str} {p pos : Pos} {e : Expr} {es : List Expr} {t : TA} {id T : String} {r : List V → Hp → VK → Prop}
noncomputable def tCB (r : List V→Hp→VK→Prop) (t : TA) : TE := fun σ H Q => t σ H fun vs H1 => r vs H1 Q
theorem zdW (hc : zcO X (.builtin id) r) (hg : Gl X x) (hm : X.mg x = none) (hv : bootBuiltins x = some (.builtin id)) (ha : PA X (e::es) t) (hn : x≠"__name__" := by decide) (hdb : (x == ("__debug__" : Str)) = false := by decide)
    (he : starEach (e::es) X.env = (false,eval e X.env)::starEach es X.env := by rfl) (hpl : (backTo pos (starEach es X.env)).any (·.1) = false := by rfl) : PE X (.Call (.Name x p) (e::es) [] pos) (tCB r t) := by
  intro pins s σ H Q I h
  refine wpAny_Call_Name_kw (zf9 I hg hm hv ?_ hn hdb)
  exact PyProof.Rows.callWith_builtin1 (thn (ha pos pins s σ H _ I h) fun us s1 ⟨vs,H1,I1,r1,q1⟩ => hc pins s1 σ H1 vs us Q I1 r1 q1) he hpl
theorem zcU (hc : zcO X (.type T) r) (hg : Gl X x) (hm : X.mg x = none) (hv : bootBuiltins x = some (.type T)) (ha : PA X (e::es) t) (hn : x≠"__name__" := by decide) (hdb : (x == ("__debug__" : Str)) = false := by decide)
    (he : starEach (e::es) X.env = (false,eval e X.env)::starEach es X.env := by rfl) (hpl : (backTo pos (starEach es X.env)).any (·.1) = false := by rfl) : PE X (.Call (.Name x p) (e::es) [] pos) (tCB r t) := by
  intro pins s σ H Q I h
  refine wpAny_Call_Name_kw (zf9 I hg hm hv ?_ hn hdb)
  exact PyProof.Rows.callWith_type1 (thn (ha pos pins s σ H _ I h) fun us s1 ⟨vs,H1,I1,r1,q1⟩ => hc pins s1 σ H1 vs us Q I1 r1 q1) he hpl
end
end L2
namespace HT
open PySem PyProof.Rows
noncomputable def lexLt : List Int→List Int→Bool
  | [],[] => false
  | [],_::_ => true
  | _::_,[] => false
  | x::xs,y::ys => if x = y then lexLt xs ys else decide (x < y)
theorem lexLt_cons (x y : Int) (xs ys : List Int) : lexLt (x::xs) (y::ys) = if x = y then lexLt xs ys else decide (x < y) := rfl
theorem lexLt_nil_nil : lexLt [] [] = false := rfl
theorem zfV (y : Int) (ys : List Int) : lexLt [] (y::ys) = true := rfl
theorem zfW (x : Int) (xs : List Int) : lexLt (x::xs) [] = false := rfl
theorem zma (A : Around) (s : Shared) (a : Int) (t : Tok) (c : Int) (u : Tok) : ∃ e,SeqAt.EqAt A s (.int a t) (.int c u) e∧(e = true↔a = c) :=
  ⟨(a == c),SeqAt.EqAt.int_int a t c u,by simp⟩
theorem rcLt_int (A : Around) (s : Shared) (a : Int) (t : Tok) (c : Int) (u : Tok) (prog : Program) (w : World) (E : Value→Shared→Prop) (Q : Value→Shared→Prop) (h : Q (.bool (decide (a < c))) s) :
    wpAny (model prog w) A (richCompare .Lt (.int a t) (.int c u)) Q E s :=
  (PyProof.Rows.lt_int h : wpAny (model prog w) A (compareOp .Lt (.int a t) (.int c u)) Q E s)
section
open PySem.SeqAt
open PySem.AutoSeq1 (wpAny_loadPart')
open PySem.MeetsSeq PySem.MeetsSeq2 PySem.MeetsSeq3
theorem zgl (l b : Addr) (items items2 : Array Value) (n n2 : Nat) (dd dd2 : Option Addr) (sl sl2 : Array (Option Value)) (ns ms : List Int) (hi : IntsAre items.toList ns) (hj : IntsAre items2.toList ms) :
    Meets (Builtin.«tuple.__lt__» ⟨[.ref l,.ref b],[]⟩)
      (fun _ R s => s.heap.get? l = some { cls := .type "tuple",dict := dd,data := .seq items n,slots := sl }∧s.heap.get? b = some { cls := .type "tuple",dict := dd2,data := .seq items2 n2,slots := sl2 } ∧
        R (.ok (.ret (.bool (lexLt ns ms)))) s) :=
  .of_wp fun prog w A R s h => by
    obtain ⟨hp,g,d,tk,os⟩ := s; obtain ⟨hl,hb,h⟩ := h
    have f2 := AutoSeq1.sub_tuple_tuple
    have z1 : items.size = ns.length := by rw [← hi.length]; simp
    have z2 : items2.size = ms.length := by rw [← hj.length]; simp
    wp_walk using wpAny_loadPart' hl,wpAny_loadPart' hb,wpAny_forIn_list _ (fun rest b s' => b.1 = none∧s' = ⟨hp,g,d,tk,os⟩∧∃ (vs ws : List Value) (ns' ms' : List Int),rest = vs.zip ws ∧
      IntsAre vs ns'∧IntsAre ws ms'∧ns'.length + items2.size = ms'.length + items.size∧R (.ok (.ret (.bool (lexLt ns' ms')))) ⟨hp,g,d,tk,os⟩) _
    case turn =>
      rintro ⟨y,x⟩ rest b s' ⟨hb',rfl,vs,ws,ns',ms',hz,hvi,hwi,hlen,hR⟩
      cases hvi with
      | nil => rw [List.zip_nil_left] at hz; cases hz
      | cons a t hvi' =>
        cases hwi with
        | nil => rw [List.zip_nil_right] at hz; cases hz
        | cons c u hwi' =>
          rw [List.zip_cons_cons] at hz
          injection hz with hyx hrest
          injection hyx with hy hx
          subst hy hx
          rw [lexLt_cons] at hR
          simp only [List.length_cons] at hlen
          obtain ⟨e,he,hiff⟩ := zma A.in1 ⟨hp,g,d,tk,os⟩ a t c u
          refine wpAny_bind (he prog w _ _ ?_)
          cases e with
          | true =>
            rw [if_pos (hiff.mp rfl)] at hR
            wp_walk
            exact ⟨rfl,rfl,_,_,_,_,hrest,hvi',hwi',by omega,hR⟩
          | false =>
            rw [if_neg (fun q => absurd (hiff.mpr q) Bool.false_ne_true)] at hR
            have hri := rcLt_int A.in1 ⟨hp,g,d,tk,os⟩ a t c u prog w
            wp_walk using hri
            exact ⟨_,rfl,by simpa using hR⟩
    case fin =>
      rintro ⟨b1,b2⟩ s' ⟨hb',rfl,vs,ws,ns',ms',hz,hvi,hwi,hlen,hR⟩
      simp only at hb'
      subst hb'
      have hv : lexLt ns' ms' = decide (items.size < items2.size) := by
        cases hvi with
        | nil =>
          cases hwi with
          | nil =>
            simp only [List.length_nil] at hlen
            rw [lexLt_nil_nil]
            exact (decide_eq_false (by omega)).symm
          | cons c u hw =>
            simp only [List.length_nil,List.length_cons] at hlen
            rw [zfV]
            exact (decide_eq_true (by omega)).symm
        | cons a t hv =>
          cases hwi with
          | nil =>
            simp only [List.length_nil,List.length_cons] at hlen
            rw [zfW]
            exact (decide_eq_false (by omega)).symm
          | cons c u hw =>
            rw [List.zip_cons_cons] at hz
            cases hz
      rw [hv] at hR
      wp_walk
      exact ⟨_,rfl,by simpa [Builtin.Tuple.tupleCompareSizes] using hR⟩
    case h =>
      exact ⟨rfl,rfl,items.toList,items2.toList,ns,ms,rfl,hi,hj,by omega,h⟩
end
section
variable {prog : Program} {w : World} {A : Around} {E : Value → Shared → Prop} {s : Shared}
theorem lt_tupInts {l b : Addr} {items items2 : Array Value} {ns ms : List Int} {Q : Value→Shared→Prop} (hl : IsTup s.heap l items) (hb : IsTup s.heap b items2) (hi : IntsAre items.toList ns) (hj : IntsAre items2.toList ms)
    (hu : A.units < cLine) (h : Q (.bool (lexLt ns ms)) s) : wpAny (model prog w) A (compareOp .Lt (.ref l) (.ref b)) Q E s := by
  obtain ⟨⟨cls,dd,data,sl⟩,ho,hc,n,hd⟩ := id hl
  obtain ⟨⟨cls2,dd2,data2,sl2⟩,ho2,hc2,n2,hd2⟩ := id hb
  simp only at hc hd hc2 hd2
  subst hc hd hc2 hd2
  exact richCompare_meets_room (op := .Lt) ⟨_,ho,rfl⟩ ⟨_,ho2,rfl⟩ PySem.F.slot_tuple_lt PySem.F.entry_tuple_lt (PySem.F.args_tuple_lt_2 _ _) (zgl l b items items2 n n2 dd dd2 sl sl2 ns ms hi hj)
    ⟨ho,ho2,show Value.bool (lexLt ns ms)≠Value.notImplemented∧Q (.bool (lexLt ns ms)) s from ⟨(fun x => nomatch x),h⟩⟩ hu
theorem cat_tup {t b : Addr} {vs ws : List Value} {Q : Value→Shared→Prop} (ht : IsTup s.heap t vs.toArray) (hb : IsTup s.heap b ws.toArray) (hv : vs≠[])
    (h1 : ws = []→Q (.ref t) s) (h2 : ws≠[]→Q (.ref s.heap.objs.size) { s with heap := s.heap.push { cls := .type "tuple",data := .seq (vs++ws).toArray } })
    (hsz : vs.length + ws.length≤sizeLine) : wpAny (model prog w) A (binaryOp .Add (.ref t) (.ref b)) Q E s := by
  obtain ⟨⟨cls,dd,data,sl⟩,ho,hc,n,hd⟩ := id ht
  obtain ⟨⟨cls2,dd2,data2,sl2⟩,ho2,hc2,n2,hd2⟩ := id hb
  simp only at hc hd hc2 hd2
  subst hc hd hc2 hd2
  have e : vs.toArray++ws.toArray = (vs++ws).toArray := by simp
  by_cases hw : ws = []
  · exact concat_meets ⟨_,ho,rfl⟩ ⟨_,ho2,rfl⟩ noFill_tuple_add seq_tuple_add PySem.F.slot_tuple_add PySem.F.entry_tuple_add (PySem.F.args_tuple_add_2 _ _)
      (tuple_addW1 t b vs.toArray ws.toArray n n2 dd dd2 sl sl2 (by simpa using hv) (by simp [hw])) ⟨ho,ho2,h1 hw⟩
  · refine concat_meets ⟨_,ho,rfl⟩ ⟨_,ho2,rfl⟩ noFill_tuple_add seq_tuple_add PySem.F.slot_tuple_add PySem.F.entry_tuple_add (PySem.F.args_tuple_add_2 _ _)
      (tuple_addW2 t b vs.toArray ws.toArray n n2 dd dd2 sl sl2 (by simpa using hv) (by simpa using hw) (by rw [List.size_toArray,List.size_toArray]; exact hsz)) ⟨ho,ho2,?_⟩
    rw [e]
    exact h2 hw
noncomputable def sIx (n d : Nat) : Option Int→Nat
  | none => d
  | some v => if v < 0 then (v + (n : Int)).toNat else min v.toNat n
theorem sIx_none (n d : Nat) : sIx n d none = d := rfl
theorem sIx_nat (n d k : Nat) : sIx n d (some (k : Int)) = min k n := by
  show (if (k : Int) < 0 then ((k : Int) + (n : Int)).toNat else min (k : Int).toNat n) = min k n
  rw [if_neg (by omega),Int.toNat_natCast]
theorem zo6 (n d : Nat) (hd : d≤n) (o : Option Int) : sIx n d o≤n := by
  cases o with
  | none => exact hd
  | some v =>
    show (if v < 0 then (v + (n : Int)).toNat else min v.toNat n)≤n
    by_cases hv : v < 0
    · rw [if_pos hv]; omega
    · rw [if_neg hv]; exact Nat.min_le_right _ _
theorem zla (v : Int) (n d : Nat) : (if v < 0 then max (v + (n : Int)) 0 else min v (n : Int)) = ((sIx n d (some v) : Nat) : Int) := by
  show (if v < 0 then max (v + (n : Int)) 0 else min v (n : Int)) = (((if v < 0 then (v + (n : Int)).toNat else min v.toNat n) : Nat) : Int)
  by_cases hv : v < 0
  · simp only [if_pos hv]; omega
  · simp only [if_neg hv]; omega
theorem zjl (lo hi : Option Int) (n : Nat) : Builtin.Slice.sliceAdjust lo hi 1 (n : Int) = (((sIx n 0 lo : Nat) : Int),((sIx n n hi : Nat) : Int)) := by
  have h1 : ¬ ((1 : Int) < 0) := by omega
  unfold Builtin.Slice.sliceAdjust
  simp only [h1,if_false]
  refine Prod.ext ?_ ?_
  · cases lo with
    | none => rfl
    | some v => exact zla v n 0
  · cases hi with
    | none => rfl
    | some v => exact zla v n n
theorem zi1 (i j : Nat) : Builtin.Slice.slicePlaces (i : Int) (j : Int) 1 = j - i := by
  unfold Builtin.Slice.slicePlaces
  have h1 : (1 : Int) > 0 := by omega
  simp only [h1,if_true,Int.ediv_one]
  split <;> omega
theorem zf2 {v : Value} {o : Option Int} {Q : Option Int→Shared→Prop} (p : IsPart v o) (h : Q o s) : wpAny (model prog w) A (Builtin.Slice.slicePartIndex v) Q E s := by
  cases p with
  | none => exact slicePart_none h
  | int i t => exact slicePart_int h
theorem sliceApplied_gen {sl : Addr} {vl vu : Value} {lo hi : Option Int} {n : Nat} {Q : Int × Int × Nat→Shared→Prop} (hs : s.heap.IsSliceOf sl vl vu .none) (pl : IsPart vl lo) (pu : IsPart vu hi)
    (h : Q (((sIx n 0 lo : Nat) : Int),1,sIx n n hi - sIx n 0 lo) s) : wpAny (model prog w) A (Builtin.Slice.sliceApplied (.ref sl) (pure (n : Int))) Q E s := by
  obtain ⟨os,hos,hcs,hds⟩ := id hs
  unfold Builtin.Slice.sliceApplied Builtin.Slice.sliceFields
  refine wpAny_bind (wpAny_bind (wpAny_field hos hds (x := vl) rfl (wpAny_bind (wpAny_field hos hds (x := vu) rfl (wpAny_bind (wpAny_field hos hds (x := .none) rfl (wpAny_pure ?_)))))))
  refine wpAny_bind (slicePart_none ?_)
  show wpAny _ _ (if ((1 : Int) == 0) = true then _ else _) _ _ s
  rw [if_neg (by decide)]
  refine wpAny_bind (zf2 pl (wpAny_bind (zf2 pu (wpAny_bind (wpAny_pure ?_)))))
  show wpAny _ _ (match Builtin.Slice.sliceAdjust lo hi 1 (n : Int) with | (lo,hi) => pure (lo,(1 : Int),Builtin.Slice.slicePlaces lo hi 1)) _ _ s
  rw [zjl lo hi n]
  show wpAny _ _ (pure (((sIx n 0 lo : Nat) : Int),(1 : Int),Builtin.Slice.slicePlaces ((sIx n 0 lo : Nat) : Int) ((sIx n n hi : Nat) : Int) 1)) _ _ s
  rw [zi1]
  exact wpAny_pure h
theorem zlK (xs : Array Value) (i k : Nat) : ((List.range k).filterMap fun (m : Nat) => xs[((i : Int) + (m : Int) * 1).toNat]?).toArray = ((xs.toList.drop i).take k).toArray := by
  have e : (fun (m : Nat) => xs[((i : Int) + (m : Int) * 1).toNat]?) = fun m => xs[i + m]? := by
    funext m
    have : ((i : Int) + (m : Int) * 1).toNat = i + m := by omega
    rw [this]
  rw [e]
  have := pick_run xs i k
  rw [List.filterMap_map] at this
  have e2 : ((fun x => xs[x]?) ∘ fun x => i + x) = fun m => xs[i + m]? := rfl
  rw [e2] at this
  rw [this]
theorem getItem_tuple_cut {t sl : Addr} {items : Array Value} {vl vu : Value} {lo hi : Option Int} {Q : Value→Shared→Prop} (ht : IsTup s.heap t items) (hs : s.heap.IsSliceOf sl vl vu .none) (pl : IsPart vl lo) (pu : IsPart vu hi)
    (hw : ¬ (sIx items.size 0 lo = 0∧sIx items.size items.size hi = items.size))
    (h : Q (.ref s.heap.objs.size) { s with heap := s.heap.push { cls := .type "tuple",data := .seq ((items.toList.drop (sIx items.size 0 lo)).take (sIx items.size items.size hi - sIx items.size 0 lo)).toArray } })
    (hsz : items.size≤sizeLine) : wpAny (model prog w) A (getItem (.ref t) (.ref sl)) Q E s := by
  have htake : sizeOk (.seq ((items.toList.drop (sIx items.size 0 lo)).take (sIx items.size items.size hi - sIx items.size 0 lo)).toArray) := by
    show ((items.toList.drop (sIx items.size 0 lo)).take (sIx items.size items.size hi - sIx items.size 0 lo)).toArray.size≤sizeLine
    rw [List.size_toArray,List.length_take,List.length_drop,Array.length_toList]
    omega
  have hj : sIx items.size items.size hi≤items.size := zo6 _ _ (Nat.le_refl _) hi
  obtain ⟨os,hos,hcs,hds⟩ := id hs
  have hTs : s.TypeIs (.ref sl) "slice" := ⟨os,hos,hcs⟩
  unfold getItem
  try with_reducible refine wpAny_holding ?_
  first | refine wpAny_bind (wpAny_pure ?_) | skip
  refine wpAny_bind (wpAny_sequenceKey ht.typeIs (by decide) ?_)
  refine wpAny_bind (wpAny_callSpecial?_slot (name := Str.ofString "__getitem__") ht.typeIs PyProof.Rows.slot_tuple_getitem
    (wpAny_call_entry PyProof.Rows.slot_tuple_getitem ht.typeIs entry_tuple_getitem ?_ (args_tuple_getitem _ _)))
  show wpAny _ _ (Builtin.Tuple.tupleItemsOf (.ref t) >>= _) _ _ s
  refine wpAny_bind (tupleItemsOf_ ht ?_)
  refine wpAny_bind (wpAny_typeOf hTs ?_)
  rw [if_pos (by decide)]
  refine wpAny_bind (sliceApplied_gen hs pl pu ?_)
  have hno : ¬ ((((sIx items.size 0 lo : Nat) : Int) == 0 && (1 : Int) == 1 && (sIx items.size items.size hi - sIx items.size 0 lo) == items.size) = true) := by
    intro q
    rw [Bool.and_eq_true,Bool.and_eq_true] at q
    have q1 : ((sIx items.size 0 lo : Nat) : Int) = 0 := eq_of_beq q.1.1
    have q2 : sIx items.size items.size hi - sIx items.size 0 lo = items.size := eq_of_beq q.2
    exact hw ⟨by omega,by omega⟩
  show wpAny _ _ (if (((sIx items.size 0 lo : Nat) : Int) == 0 && (1 : Int) == 1 && (sIx items.size items.size hi - sIx items.size 0 lo) == items.size) = true then _ else _) _ _ s
  rw [if_neg hno,zlK]
  first
    | exact wpAny_bind (m := Builtin.Tuple.tupleExact _) (wpAny_newObj_type (wpAny_pure ⟨_,rfl,wpAny_pure h⟩) htake)
    | exact wpAny_bind (m := Builtin.Tuple.tupleExact _) (wpAny_newObj_type (wpAny_bind (wpAny_pure (wpAny_pure ⟨_,rfl,wpAny_pure h⟩))) htake)
    | exact wpAny_bind (wpAny_bind (m := Builtin.Tuple.tupleExact _) (wpAny_newObj_type (wpAny_pure (wpAny_pure ⟨_,rfl,wpAny_pure h⟩)) htake))
    | exact wpAny_bind (wpAny_bind (m := Builtin.Tuple.tupleExact _) (wpAny_newObj_type (wpAny_pure ⟨_,rfl,wpAny_pure h⟩) htake))
end
end HT
namespace L2
open PySem PySem.Spec PyProof.Rows
noncomputable abbrev TO := St→Hp→(Option Int→Hp→Prop)→Prop
noncomputable def PO (X : Cx) (e : Option Expr) (t : TO) : Prop :=
  ∀ (pins : List (Addr × Obj)) (s : Shared) (σ : St) (H : Hp) (Q : Option Int→Hp→Prop),Inv X pins σ H s→t σ H Q →
    wpAny (model X.prog X.w) X.A (evalPart e X.env) (fun u s' => ∃ o H',Inv X pins σ H' s'∧IsPart u o∧Q o H') X.xe s
noncomputable def znk : TO := fun _ H Q => Q none H
noncomputable def zqG (t : TE) : TO := fun σ H Q => t σ H fun x H1 => ∃ i,x = .int i∧Q (some i) H1
theorem zjd {ns : List Int} : ∀ {us : List Value},Vals (ns.map V.int) us→IntsAre us ns := by
  induction ns with
  | nil => intro us r; rw [List.map_nil] at r; cases r; exact .nil
  | cons n ns ih =>
    intro us r
    rw [List.map_cons] at r
    cases r with
    | cons r1 r2 =>
      obtain ⟨t,e⟩ := r1
      subst e
      exact .cons n t (ih r2)
section
variable {X : Cx} {e : Expr} {te : TE} {lo hi : Option Expr} {tl th : TO} {pos p2 : Pos}
theorem znD : PO X none znk := by
  intro pins s σ H Q I h
  rw [evalPart_none]
  exact wpAny_pure ⟨none,H,I,.none,h⟩
theorem znC (h : PE X e te) : PO X (some e) (zqG te) := by
  intro pins s σ H Q I hw
  rw [evalPart_some]
  refine thn (h pins s σ H _ I hw) fun u s1 ⟨x,H1,I1,r1,q1⟩ => ?_
  obtain ⟨i,rfl,q⟩ := q1
  obtain ⟨t,rfl⟩ := r1
  exact ⟨some i,H1,I1,.int i t,q⟩
noncomputable def SlR (X : Cx) (r : V→Option Int→Option Int→Hp→VK→Prop) : Prop :=
  ∀ (pins : List (Addr × Obj)) (s : Shared) (σ : St) (H : Hp) (x : V) (v vl vu : Value) (lo hi : Option Int) (sl : Addr) (Q : VK),Inv X pins σ H s→RelV x v→s.heap.IsSliceOf sl vl vu .none→IsPart vl lo→IsPart vu hi→r x lo hi H Q →
    ∃ T id,typeLookup (.type T) "__getitem__" = pure (some (.builtin id))∧s.TypeIs v T∧wpAny (model X.prog X.w) X.A (getItem v (.ref sl)) (EP X pins σ Q) X.xe s
theorem SlR.or {r r' : V→Option Int→Option Int→Hp→VK→Prop} (h : SlR X r) (h' : SlR X r') : SlR X (fun x lo hi H Q => r x lo hi H Q∨r' x lo hi H Q) := by
  intro pins s σ H x v vl vu lo hi sl Q I rx hs pl pu q
  rcases q with q | q
  · exact h pins s σ H x v vl vu lo hi sl Q I rx hs pl pu q
  · exact h' pins s σ H x v vl vu lo hi sl Q I rx hs pl pu q
noncomputable def tSl (r : V→Option Int→Option Int→Hp→VK→Prop) (te : TE) (tl th : TO) : TE := fun σ H Q => te σ H fun x H1 => tl σ H1 fun l H2 => th σ H2 fun u H3 => r x l u H3 Q
theorem zim {r : V→Option Int→Option Int→Hp→VK→Prop} (hr : SlR X r) (he : PE X e te) (hl : PO X lo tl) (hu : PO X hi th) : PE X (.Subscript e (.Slice lo hi none p2) pos) (tSl r te tl th) := by
  intro pins s σ H Q I h
  refine Subscript_ (thn (he pins s σ H _ I h) fun v s1 ⟨x,H1,I1,r1,q1⟩ => ?_)
  refine wpAny_Slice (thn (hl pins s1 σ H1 _ I1 q1) fun vl s2 ⟨l,H2,I2,pl,q2⟩ => thn (hu pins s2 σ H2 _ I2 q2) fun vu s3 ⟨u,H3,I3,pu,q3⟩ => ?_)
  rw [evalPart_none]
  refine wpAny_pure ?_
  have I4 : Inv X pins σ H3 { s3 with heap := s3.heap.push { cls := .type "slice",data := .fields #[vl,vu,.none] } } := I3.kept (t' := s3.toks) fun b ob q => Heap.get?_push_of_some _ q
  obtain ⟨T,id,hT,ht,hg⟩ := hr pins { s3 with heap := s3.heap.push { cls := .type "slice",data := .fields #[vl,vu,.none] } } σ H3 x v vl vu l u s3.heap.objs.size Q I4 r1 (Heap.IsSliceOf.new ..) pl pu q3
  show wpAny (model X.prog X.w) X.A (subscriptTail e (.Slice lo hi none p2) v (.ref s3.heap.objs.size)) (EP X pins σ Q) X.xe { s3 with heap := s3.heap.push { cls := .type "slice",data := .fields #[vl,vu,.none] } }
  exact tail_any (ops := [.ref s3.heap.objs.size,v]) ht hT hg (by with_unfolding_all rfl)
noncomputable def cutV (xs : List V) (lo hi : Option Int) : List V := (xs.drop (HT.sIx xs.length 0 lo)).take (HT.sIx xs.length xs.length hi - HT.sIx xs.length 0 lo)
theorem zfx (xs : List V) (lo hi : Option Int) : (cutV xs lo hi).length≤xs.length := by
  unfold cutV
  rw [List.length_take,List.length_drop]
  omega
noncomputable def rSlT (K : PySem.W.Frag) : V→Option Int→Option Int→Hp→VK→Prop := fun x lo hi H Q => ∃ a xs,x = .ref a∧SqT K H a xs ∧
  ¬ (HT.sIx xs.length 0 lo = 0∧HT.sIx xs.length xs.length hi = xs.length)∧∀ p,H p = none→Q (.ref p) (upd H p (.tup (cutV xs lo hi)))
theorem zmA : SlR X (rSlT X.K) := by
  intro pins s σ H x v vl vu lo hi sl Q I rx hs pl pu h
  obtain ⟨a,xs,rfl,hx,hw,q⟩ := h
  cases rx
  obtain ⟨its,r,ht,hz⟩ := I.tuple hx
  have hlen : its.toArray.size = xs.length := by rw [List.size_toArray]; exact r.length.symm
  refine ⟨"tuple",_,PyProof.Rows.slot_tuple_getitem.lookup,ht.typeIs,?_⟩
  refine HT.getItem_tuple_cut ht hs pl pu (by rw [hlen]; exact hw) ?_ (by rw [hlen]; exact hz)
  rw [hlen]
  refine ⟨.ref s.heap.objs.size,_,I.laid (t' := s.toks) (o := .tup (cutV xs lo hi)) (fun b ob q => Heap.get?_push_of_some _ q) (Nat.le_refl _) ?_,rfl,q _ (I.hok.fresh (Nat.le_refl _))⟩
  exact ⟨Nat.le_trans (zfx xs lo hi) hz,_,(r.drop (HT.sIx xs.length 0 lo)).take (HT.sIx xs.length xs.length hi - HT.sIx xs.length 0 lo),IsTup.new _ _,_,Heap.get?_push_size _ rfl,rfl⟩
noncomputable def znw (K : PySem.W.Frag) : R2 := fun x y H Q => ∃ a b xs ys,x = .ref a∧y = .ref b∧SqT K H a xs∧SqT K H b ys∧xs≠[]∧xs.length + ys.length≤sizeLine ∧
  (ys = []→Q (.ref a) H)∧(ys≠[]→∀ p,H p = none→Q (.ref p) (upd H p (.tup (xs++ys))))
theorem Vals.nil_iff {xs : List V} {us : List Value} (r : Vals xs us) : us = []↔xs = [] := by
  cases r with
  | nil => simp
  | cons _ _ => simp
theorem zki : OpR X (binaryOp .Add) (znw X.K) := by
  intro pins s σ H x y v u Q I rx ry h
  obtain ⟨a,b,xs,ys,rfl,rfl,ha,hb,hx,hz,q1,q2⟩ := h
  cases rx
  cases ry
  obtain ⟨its,r1,p1,_⟩ := I.tuple ha
  obtain ⟨its2,r2,p2,_⟩ := I.tuple hb
  refine HT.cat_tup p1 p2 (fun z => hx (r1.nil_iff.mp z)) (fun z => ⟨.ref a,H,I,rfl,q1 (r2.nil_iff.mp z)⟩) (fun z => ?_) (by rw [← r1.length,← r2.length]; exact hz)
  refine ⟨.ref s.heap.objs.size,_,I.laid (t' := s.toks) (o := .tup (xs++ys)) (fun b ob q => Heap.get?_push_of_some _ q) (Nat.le_refl _) ?_,rfl,q2 (fun w => z (r2.nil_iff.mpr w)) _ (I.hok.fresh (Nat.le_refl _))⟩
  exact ⟨by rw [List.length_append]; exact hz,_,r1.append r2,IsTup.new _ _,_,Heap.get?_push_size _ rfl,rfl⟩
end
end L2
namespace L2
open PySem PySem.Spec PyProof.Rows
noncomputable def ixN (n : Nat) (i : Int) : Option Nat := if 0≤i then (if i < n then some i.toNat else none) else if -(n : Int)≤i then some (i + n).toNat else none
noncomputable def atI {α : Type} (xs : List α) (i : Int) : Option α := (ixN xs.length i).bind fun j => xs[j]?
theorem zkF {n : Nat} {i : Int} {j : Nat} (h : ixN n i = some j) : seqIndex? i n = some j∧j < n∧-(n : Int)≤i∧i < n := by
  unfold ixN at h
  by_cases h0 : 0≤i
  · rw [if_pos h0] at h
    by_cases h1 : i < n
    · rw [if_pos h1] at h
      have e : i.toNat = j := Option.some.inj h
      exact ⟨by rw [seqIndex_of h0 h1,e],by omega,by omega,h1⟩
    · rw [if_neg h1] at h; cases h
  · rw [if_neg h0] at h
    by_cases h1 : -(n : Int)≤i
    · rw [if_pos h1] at h
      have e : (i + n).toNat = j := Option.some.inj h
      exact ⟨by rw [seqIndex_neg (by omega) h1,e],by omega,h1,by omega⟩
    · rw [if_neg h1] at h; cases h
theorem zh5 {α : Type} {xs : List α} {i : Int} {v : α} (h : atI xs i = some v) : ∃ j,seqIndex? i xs.length = some j∧xs[j]? = some v∧j < xs.length∧-(xs.length : Int)≤i∧i < xs.length := by
  unfold atI at h
  cases e : ixN xs.length i with
  | none => rw [e] at h; cases h
  | some j =>
    rw [e] at h
    obtain ⟨h1,h2,h3,h4⟩ := zkF e
    exact ⟨j,h1,h,h2,h3,h4⟩
noncomputable def zlk (b : Expr) : Prop := ∀ o i,subscripted b false o i = operate [o,i] (getItem o i)
noncomputable def IxR (X : Cx) (r : R2) : Prop :=
  ∀ (value slice : Expr) (pins : List (Addr × Obj)) (s : Shared) (σ : St) (H : Hp) (x y : V) (v u : Value) (Q : VK),Inv X pins σ H s→RelV x v→RelV y u→r x y H Q →
    subscripted slice false v u = operate [v,u] (getItem v u)→wpAny (model X.prog X.w) X.A (subscriptTail value slice v u) (EP X pins σ Q) X.xe s
noncomputable def MtR (X : Cx) (id : String) (r : V→List V→Hp→VK→Prop) : Prop :=
  ∀ (pins : List (Addr × Obj)) (s : Shared) (σ : St) (H : Hp) (x : V) (xs : List V) (v : Value) (us : List Value) (Q : VK),Inv X pins σ H s→RelV x v→Vals xs us→r x xs H Q →
    wpAny (model X.prog X.w) X.A (call (.builtin id) (v::us)) (EP X pins σ Q) X.xe s
section
variable {X : Cx} {a b : Expr} {ta tb : TE} {pos : Pos}
theorem IxR.or {r r' : R2} (h : IxR X r) (h' : IxR X r') : IxR X (fun x y H Q => r x y H Q∨r' x y H Q) := by
  intro value slice pins s σ H x y v u Q I rx ry q hs
  rcases q with q | q
  · exact h value slice pins s σ H x y v u Q I rx ry q hs
  · exact h' value slice pins s σ H x y v u Q I rx ry q hs
theorem zq4 {r : R2} (hr : IxR X r) (ha : PE X a ta) (hb : PE X b tb) (hs : zlk b) : PE X (.Subscript a b pos) (tOp r ta tb) := by
  intro pins s σ H Q I h
  exact Subscript_ (binT ha hb I h fun v u s2 x y H2 I2 rx ry q => hr a b pins s2 σ H2 x y v u Q I2 rx ry q (hs _ _))
noncomputable def rIxL (K : PySem.W.Frag) : R2 := fun x y H Q => ∃ p xs i v,x = .ref p∧y = .int i∧SqL K H p xs∧atI xs i = some v∧Q v H
noncomputable def rIxT (K : PySem.W.Frag) : R2 := fun x y H Q => ∃ p xs i v,x = .ref p∧y = .int i∧SqT K H p xs∧atI xs i = some v∧Q v H
noncomputable def rIxS : R2 := fun x y H Q => ∃ z i c,x = .str z∧y = .int i∧z.length≤sizeLine∧atI z.cps.toList i = some c∧Q (.str ⟨#[c]⟩) H
theorem zn7 : IxR X (rIxL X.K) := by
  intro value slice pins s σ H x y v u Q I rx ry h hs
  obtain ⟨p,xs,i,z,rfl,rfl,hq,he,q⟩ := h
  cases rx
  obtain ⟨t,rfl⟩ := ry
  obtain ⟨its,r,pl,hz⟩ := I.list hq
  obtain ⟨j,h1,h2,h3,h4,h5⟩ := zh5 he
  obtain ⟨w,ew,rw'⟩ := r.get h2
  have hl := r.length
  have hn := zf7
  have fin : EP X pins σ Q w s := ⟨z,H,I,rw',q⟩
  by_cases h0 : 0≤i
  · have hj : i.toNat = j := by
      rw [seqIndex_of h0 h5] at h1
      exact Option.some.inj h1
    exact item_listR pl.isList h0 (by omega) (by rw [hj]; simpa using ew) fin hs
  · have hj : (i + (its.toArray.size : Int)).toNat = j := by
      rw [seqIndex_neg (by omega) h4] at h1
      rw [List.size_toArray,← hl]
      exact Option.some.inj h1
    exact subscriptTail_builtinR (x := w) pl.isList.typeIs slot_list_getitem.lookup
      (wpAny_getItem_list_neg (Q := fun r s' => r = w∧EP X pins σ Q r s') pl.isList (by omega) (by rw [List.size_toArray] <;> omega) (by omega) (by rw [hj]; simpa using ew) ⟨rfl,fin⟩) hs
theorem zpS : IxR X (rIxT X.K) := by
  intro value slice pins s σ H x y v u Q I rx ry h hs
  obtain ⟨p,xs,i,z,rfl,rfl,hq,he,q⟩ := h
  cases rx
  obtain ⟨t,rfl⟩ := ry
  obtain ⟨its,r,pl,hz⟩ := I.tuple hq
  obtain ⟨j,h1,h2,h3,h4,h5⟩ := zh5 he
  obtain ⟨w,ew,rw'⟩ := r.get h2
  have hl := r.length
  have hn := zf7
  have fin : EP X pins σ Q w s := ⟨z,H,I,rw',q⟩
  exact subscriptTail_builtinR (x := w) pl.typeIs slot_tuple_getitem.lookup
    (getItem_tuple (j := j) (Q := fun r s' => r = w∧EP X pins σ Q r s') pl (by omega) (by omega) (by rw [List.size_toArray,← hl]; exact h1) (by simpa using ew) ⟨rfl,fin⟩) hs
theorem zpT : IxR X rIxS := by
  intro value slice pins s σ H x y v u Q I rx ry h hs
  obtain ⟨z,i,c,rfl,rfl,hz,he,q⟩ := h
  obtain ⟨t,rfl⟩ := rx
  obtain ⟨t',rfl⟩ := ry
  obtain ⟨j,h1,h2,h3,h4,h5⟩ := zh5 he
  have hl : z.cps.toList.length = z.length := by simp [Str.length]
  rw [hl] at h1 h4 h5
  have hn := zf7
  exact tail_any (typeIs_str s z t) slot_str_getitem.lookup (getItem_str (c := c) (by
    have e1 : decide (i < -(2 ^ 63 : Int)) = false := decide_eq_false (by omega)
    have e2 : decide (i ≥ 2 ^ 63) = false := decide_eq_false (by omega)
    rw [e1,e2,Bool.or_false]) (by rw [h1]; simpa using h2) ⟨.str ⟨#[c]⟩,H,I.tok _,⟨_,rfl⟩,q⟩) hs
noncomputable def rIx (K : PySem.W.Frag) : R2 := fun x y H Q => rIxL K x y H Q∨rIxT K x y H Q∨rIxS x y H Q
theorem zpU : IxR X (rIx X.K) := zn7.or (zpS.or zpT)
theorem zi8 (its : List Value) (n j : Nat) (u : Value) : Obj.mapSeq (·.setIfInBounds j u) { cls := .type "list",data := .seq its.toArray n } = { cls := .type "list",data := .seq (its.set j u).toArray n } := by
  simp [Obj.mapSeq]
theorem Inv.lst {pins : List (Addr × Obj)} {σ : St} {H : Hp} {s : Shared} {p : Addr} {xs : List V} (I : Inv X pins σ H s) (h : H p = some (.lst xs)) :
    ∃ (its : List Value) (n : Nat),Vals xs its∧s.heap.get? p = some { cls := .type "list",data := .seq its.toArray n }∧xs.length≤sizeLine := by
  obtain ⟨z,its,n,r,e⟩ := I.hok p _ h
  exact ⟨its,n,r,e,z⟩
theorem Inv.lstUpd {pins : List (Addr × Obj)} {σ : St} {H : Hp} {s : Shared} {p : Addr} {xs ys : List V} {its its' : List Value} {n n' : Nat} {f : Obj→Obj} (I : Inv X pins σ H s) (h : H p = some (.lst xs))
    (ho : s.heap.get? p = some { cls := .type "list",data := .seq its.toArray n }) (hf : f { cls := .type "list",data := .seq its.toArray n } = { cls := .type "list",data := .seq its'.toArray n' }) (r : Vals ys its') (hz : ys.length≤sizeLine) (t : Nat) :
    Inv X pins σ (upd H p (.lst ys)) { s with heap := s.heap.update p f,toks := t } := by
  have e : (s.heap.update p f).get? p = some { cls := .type "list",data := .seq its'.toArray n' } := by
    rw [Heap.get?_update_self f ho (by rw [hf] <;> rfl),hf]
  refine I.write (x := p) (e := p) (by rw [h]; trivial) (.inl rfl) (fun b u hb q => (Heap.get?_update_other _ _ (Ne.symm hb)).trans q) ⟨_,e⟩ ?_
  exact ⟨hz,its',n',r,e⟩
noncomputable def zpb : V→V→V→Hp→(Hp→Prop)→Prop := fun o i v H Q => ∃ p xs k j,o = .ref p∧i = .int k∧H p = some (.lst xs)∧ixN xs.length k = some j∧Q (upd H p (.lst (xs.set j v)))
theorem zlw : PSet X zpb := by
  intro pins s σ H o i v ov iv u Q I ro ri rv h
  obtain ⟨p,xs,k,j,rfl,rfl,hp,hj,q⟩ := h
  cases ro
  obtain ⟨t,rfl⟩ := ri
  obtain ⟨its,n,r,ho,hz⟩ := I.lst hp
  obtain ⟨h1,h2,h3,h4⟩ := zkF hj
  have hl := r.length
  have hn := zf7
  have I' : Inv X pins σ (upd H p (.lst (xs.set j v))) { s with heap := s.heap.update p (Obj.mapSeq (·.setIfInBounds j u)) } :=
    I.lstUpd hp ho (zi8 its n j u) (r.set rv j) (by rw [List.length_set]; exact hz) s.toks
  by_cases h0 : 0≤k
  · have hk : k.toNat = j := by
      rw [seqIndex_of h0 h4] at h1
      exact Option.some.inj h1
    exact PySem.W.ki_setAt ho h0 (by omega) (by rw [List.size_toArray,← hl]; exact h4) (by rw [hk]; exact ⟨_,I',q⟩)
  · have hk : (k + (its.toArray.size : Int)).toNat = j := by
      rw [seqIndex_neg (by omega) h3] at h1
      rw [List.size_toArray,← hl]
      exact Option.some.inj h1
    exact PySem.W.ki_setBack ho (by omega) (by rw [List.size_toArray,← hl]; exact h3) (by omega) (by rw [hk]; exact ⟨_,I',q⟩)
theorem zgX (lo hi : Option Int) (n : Nat) : (sliceBounds lo hi none n).1 = ((HT.sIx n 0 lo : Nat) : Int)∧(sliceBounds lo hi none n).2.1 = ((HT.sIx n n hi : Nat) : Int)∧(sliceBounds lo hi none n).2.2 = 1 := by
  refine ⟨?_,?_,rfl⟩
  · cases lo with
    | none => simp [sliceBounds,HT.sIx]
    | some i =>
      simp only [sliceBounds,HT.sIx,Option.getD_none,show (1 : Int) > 0 by decide,if_true]
      by_cases h : i < 0
      · simp only [h,if_true] <;> omega
      · simp only [h,if_false] <;> omega
  · cases hi with
    | none => simp [sliceBounds,HT.sIx]
    | some i =>
      simp only [sliceBounds,HT.sIx,Option.getD_none,show (1 : Int) > 0 by decide,if_true]
      by_cases h : i < 0
      · simp only [h,if_true] <;> omega
      · simp only [h,if_false] <;> omega
theorem zgn (its : List Value) (lo hi : Option Int) : slicePick its.toArray lo hi none = ((its.drop (HT.sIx its.length 0 lo)).take (HT.sIx its.length its.length hi - HT.sIx its.length 0 lo)).toArray := by
  obtain ⟨h1,h2,h3⟩ := zgX lo hi its.toArray.size
  unfold slicePick
  rw [h1,h2,h3]
  simp only [sliceRange_one,pick_run,List.size_toArray] <;> rfl
noncomputable def rSlL (K : PySem.W.Frag) : V→Option Int→Option Int→Hp→VK→Prop := fun x lo hi H Q => ∃ a xs,x = .ref a∧SqL K H a xs∧∀ p,H p = none→Q (.ref p) (upd H p (.lst (cutV xs lo hi)))
theorem zjB : SlR X (rSlL X.K) := by
  intro pins s σ H x v vl vu lo hi sl Q I rx hs pl pu h
  obtain ⟨a,xs,rfl,hx,q⟩ := h
  cases rx
  obtain ⟨its,r,ht,hz⟩ := I.list hx
  have hlen := r.length
  refine ⟨"list",_,slot_list_getitem.lookup,ht.isList.typeIs,?_⟩
  refine wpAny_getItem_list_slice ht.isList hs pl pu .none (by simp) ?_ (by rw [List.size_toArray] <;> omega)
  rw [zgn,← hlen]
  refine ⟨.ref s.heap.objs.size,_,I.laid (t' := s.toks) (o := .lst (cutV xs lo hi)) (fun b ob q => Heap.get?_push_of_some _ q) (Nat.le_refl _) ?_,rfl,q _ (I.hok.fresh (Nat.le_refl _))⟩
  exact ⟨Nat.le_trans (zfx xs lo hi) hz,_,0,(r.drop (HT.sIx xs.length 0 lo)).take (HT.sIx xs.length xs.length hi - HT.sIx xs.length 0 lo),Heap.get?_push_size _ rfl⟩
noncomputable def zdp : V→Bool
  | .non => true
  | .bl _ => true
  | .int _ => true
  | .str _ => true
  | _ => false
noncomputable def eqV : V→V→Bool
  | .non,.non => true
  | .bl a,.bl b => a == b
  | .bl a,.int b => (if a then 1 else 0) == b
  | .int a,.bl b => a == (if b then 1 else 0)
  | .int a,.int b => a == b
  | .str a,.str b => a == b
  | _,_ => false
theorem zqi {A : Around} {s : Shared} {y x : V} {u v : Value} (ry : RelV y u) (rx : RelV x v) (fy : zdp y = true) (fx : zdp x = true) : SeqAt.EqAt A s u v (eqV y x) := by
  cases y with
  | non =>
    cases ry
    cases x with
    | non => cases rx; exact SeqAt.EqAt.same _
    | bl b => cases rx; exact SeqAt.EqAt.none_bool b
    | int b => obtain ⟨t,rfl⟩ := rx; exact SeqAt.EqAt.none_int b t
    | str b => obtain ⟨t,rfl⟩ := rx; exact SeqAt.EqAt.none_str b t
    | _ => exact absurd (show false = true from fx) Bool.false_ne_true
  | bl a =>
    cases ry
    cases x with
    | non => cases rx; exact SeqAt.EqAt.bool_none a
    | bl b => cases rx; exact SeqAt.EqAt.bool_bool a b
    | int b => obtain ⟨t,rfl⟩ := rx; exact SeqAt.EqAt.bool_int a b t
    | str b => obtain ⟨t,rfl⟩ := rx; exact SeqAt.EqAt.bool_str a b t
    | _ => exact absurd (show false = true from fx) Bool.false_ne_true
  | int a =>
    obtain ⟨t',rfl⟩ := ry
    cases x with
    | non => cases rx; exact SeqAt.EqAt.int_none a t'
    | bl b => cases rx; exact SeqAt.EqAt.int_bool a t' b
    | int b => obtain ⟨t,rfl⟩ := rx; exact SeqAt.EqAt.int_int a t' b t
    | str b => obtain ⟨t,rfl⟩ := rx; exact SeqAt.EqAt.int_str a t' b t
    | _ => exact absurd (show false = true from fx) Bool.false_ne_true
  | str a =>
    obtain ⟨t',rfl⟩ := ry
    cases x with
    | non => cases rx; exact SeqAt.EqAt.str_none a t'
    | bl b => cases rx; exact SeqAt.EqAt.str_bool a t' b
    | int b => obtain ⟨t,rfl⟩ := rx; exact SeqAt.EqAt.str_int a t' b t
    | str b => obtain ⟨t,rfl⟩ := rx; exact SeqAt.EqAt.str_str a t' b t
    | _ => exact absurd (show false = true from fx) Bool.false_ne_true
  | _ => exact absurd (show false = true from fy) Bool.false_ne_true
noncomputable def eqU (x : V) (u : Value) : Bool := match u with
  | .none => eqV .non x
  | .bool b => eqV (.bl b) x
  | .int i _ => eqV (.int i) x
  | .str z _ => eqV (.str z) x
  | _ => false
theorem ziE {x y : V} {u : Value} (r : RelV y u) (f : zdp y = true) : eqU x u = eqV y x := by
  cases y with
  | non => cases r; rfl
  | bl b => cases r; rfl
  | int i => obtain ⟨t,rfl⟩ := r; rfl
  | str z => obtain ⟨t,rfl⟩ := r; rfl
  | _ => exact absurd (show false = true from f) Bool.false_ne_true
theorem zfC {x : V} : ∀ {xs : List V} {us : List Value},Vals xs us→xs.all zdp = true→us.any (eqU x) = xs.any fun y => eqV y x
  | _,_,.nil,_ => rfl
  | y::xs,u::us,.cons r t,f => by
    rw [List.all_cons,Bool.and_eq_true] at f
    rw [List.any_cons,List.any_cons,ziE r f.1,zfC t f.2]
theorem zdf {A : Around} {s : Shared} {x : V} {v : Value} (rx : RelV x v) (fx : zdp x = true) : ∀ {xs : List V} {us : List Value},Vals xs us→xs.all zdp = true→∀ u∈us,SeqAt.EqAt A s u v (eqU x u)
  | _,_,.nil,_ => fun u hu => by cases hu
  | y::xs,u::us,.cons r t,f => fun u' hu => by
    rw [List.all_cons,Bool.and_eq_true] at f
    rcases List.mem_cons.mp hu with rfl | hu
    · rw [ziE r f.1]; exact zqi r rx f.1 fx
    · exact zdf rx fx t f.2 u' hu
noncomputable def inV (x : V) (xs : List V) : Bool := xs.any fun y => eqV y x
noncomputable def rIn (K : PySem.W.Frag) (neg : Bool) : R2 := fun x y H Q => ∃ p xs,y = .ref p∧(SqL K H p xs∨SqT K H p xs)∧zdp x = true∧xs.all zdp = true∧Q (.bl (if neg then ! inV x xs else inV x xs)) H
theorem zkh : OpR X (compareOp .In) (rIn X.K false) := by
  intro pins s σ H x y v u Q I rx ry h
  obtain ⟨p,xs,rfl,hq,fx,fs,q⟩ := h
  cases ry
  rcases hq with hq | hq
  · obtain ⟨its,r,pl,hz⟩ := I.list hq
    refine SeqAt.in_listAt (eqU x) pl.isList (fun w hw => zdf rx fx r fs w (by simpa using hw)) ⟨.bl _,H,I,rfl,?_⟩
    rw [show its.toArray.any (eqU x) = its.any (eqU x) by simp,zfC r fs]
    exact q
  · obtain ⟨its,r,pl,hz⟩ := I.tuple hq
    refine SeqAt.in_tupleAt (eqU x) pl (fun w hw => zdf rx fx r fs w (by simpa using hw)) ⟨.bl _,H,I,rfl,?_⟩
    rw [show its.toArray.any (eqU x) = its.any (eqU x) by simp,zfC r fs]
    exact q
theorem zhg : OpR X (compareOp .NotIn) (rIn X.K true) := by
  intro pins s σ H x y v u Q I rx ry h
  obtain ⟨p,xs,rfl,hq,fx,fs,q⟩ := h
  cases ry
  rcases hq with hq | hq
  · obtain ⟨its,r,pl,hz⟩ := I.list hq
    refine SeqAt.notIn_listAt (eqU x) pl.isList (fun w hw => zdf rx fx r fs w (by simpa using hw)) ⟨.bl _,H,I,rfl,?_⟩
    rw [show its.toArray.any (eqU x) = its.any (eqU x) by simp,zfC r fs]
    exact q
  · obtain ⟨its,r,pl,hz⟩ := I.tuple hq
    refine SeqAt.notIn_tupleAt (eqU x) pl (fun w hw => zdf rx fx r fs w (by simpa using hw)) ⟨.bl _,H,I,rfl,?_⟩
    rw [show its.toArray.any (eqU x) = its.any (eqU x) by simp,zfC r fs]
    exact q
theorem zhf : OpR X (compareOp .NotIn) (fun x y H Q => ∃ i j,x = .str i∧y = .str j∧Q (.bl (!(!(Builtin.Str.occurrences j i 0 j.length 1).isEmpty))) H) := by
  intro pins s σ H x y v u Q I rx ry h
  obtain ⟨i,j,rfl,rfl,q⟩ := h
  obtain ⟨t,rfl⟩ := rx
  obtain ⟨t',rfl⟩ := ry
  exact notIn_str ⟨.bl _,H,I,rfl,q⟩
theorem zcO.or {f : Value} {r r' : List V→Hp→VK→Prop} (h : zcO X f r) (h' : zcO X f r') : zcO X f (fun xs H Q => r xs H Q∨r' xs H Q) := by
  intro pins s σ H xs us Q I rs q
  rcases q with q | q
  · exact h pins s σ H xs us Q I rs q
  · exact h' pins s σ H xs us Q I rs q
theorem zhw : zcO X (.type "list") (fun xs H Q => ∃ p ys,xs = [.ref p]∧(SqL X.K H p ys∨SqT X.K H p ys)∧∀ l,H l = none→Q (.ref l) (upd H l (.lst ys))) := by
  intro pins s σ H xs us Q I r h
  obtain ⟨p,ys,rfl,hq,q⟩ := h
  obtain ⟨u,rfl,rx⟩ := zeb r
  cases rx
  have fin : ∀ (its : List Value),Vals ys its→ys.length≤sizeLine→∀ (h' : Heap) (c' : Nat),(∀ b o',s.heap.get? b = some o'→h'.get? b = some o') →
      h'.get? s.heap.objs.size = some { cls := .type "list",dict := none,data := .seq its.toArray c',slots := #[] }→EP X pins σ Q (.ref s.heap.objs.size) { s with heap := h' } := fun its r' hz h' c' kp e =>
    ⟨.ref s.heap.objs.size,_,I.laid (t' := s.toks) kp (Nat.le_refl _) (show zaU X.prog X.w _ h' _ (.lst ys) from ⟨hz,its,c',r',e⟩),rfl,q _ (I.hok.fresh (Nat.le_refl _))⟩
  rcases hq with hq | hq
  · obtain ⟨its,r',pl,hz⟩ := I.list hq
    have hlen := r'.length
    obtain ⟨o,ho,hc,n,hd⟩ := pl.isList
    exact call_list_seq p (.inl rfl) ho hc hd (fun h' c' kp e => fin its r' hz h' c' kp e) (by simp only [List.size_toArray] <;> omega)
  · obtain ⟨its,r',pl,hz⟩ := I.tuple hq
    have hlen := r'.length
    obtain ⟨o,ho,hc,n,hd⟩ := pl
    exact call_list_seq p (.inr rfl) ho hc hd (fun h' c' kp e => fin its r' hz h' c' kp e) (by simp only [List.size_toArray] <;> omega)
theorem zgM : zcO X (.type "tuple") (fun xs H Q => ∃ p ys,xs = [.ref p]∧((SqL X.K H p ys∧∀ l,H l = none→Q (.ref l) (upd H l (.tup ys)))∨(SqT X.K H p ys∧Q (.ref p) H))) := by
  intro pins s σ H xs us Q I r h
  obtain ⟨p,ys,rfl,h⟩ := h
  obtain ⟨u,rfl,rx⟩ := zeb r
  cases rx
  rcases h with ⟨hq,q⟩ | ⟨hq,q⟩
  · obtain ⟨its,r',pl,hz⟩ := I.list hq
    have hlen := r'.length
    refine call_tuple_list pl.isList (fun h' kp => ?_) (by simp only [List.size_toArray] <;> omega)
    have I1 : Inv X pins σ H { s with heap := h' } := I.kept (t' := s.toks) kp
    have I2 : Inv X pins σ (upd H h'.objs.size (.tup ys)) { s with heap := h'.push { cls := .type "tuple",data := .seq its.toArray } } :=
      I1.laid (t' := s.toks) (fun b o e => Heap.get?_push_of_some _ e) (Nat.le_refl _) (show zaU X.prog X.w _ _ _ (.tup ys) from ⟨hz,its,r',IsTup.new _ _,_,Heap.get?_push_size _ rfl,rfl⟩)
    exact ⟨.ref h'.objs.size,_,I2,rfl,q _ (I1.hok.fresh (Nat.le_refl _))⟩
  · obtain ⟨its,r',pl,hz⟩ := I.tuple hq
    exact call_tuple_same pl ⟨.ref p,H,I,rfl,q⟩
noncomputable def tyV (K : PySem.W.Frag) (T : String) (x : V) (H : Hp) : Prop := match x with
  | .str _ => T = "str"
  | .int _ => T = "int"
  | .ref p => (T = "list"∧∃ xs,SqL K H p xs)∨(T = "tuple"∧((∃ o,K.lookup p = some o∧o.cls = .type "tuple"∧o.dict = none)∨∃ xs,Rd H p (.tup xs))) ∨
      (T = "dict"∧((∃ kvs,Rd H p (.dK kvs))∨∃ kvs,H p = some (.dT kvs)))∨(T = "set"∧∃ S n,H p = some (.set S n))
  | _ => False
theorem zmx {pins : List (Addr × Obj)} {σ : St} {H : Hp} {s : Shared} {T : String} {x : V} {v : Value} (I : Inv X pins σ H s) (r : RelV x v) (ty : tyV X.K T x H) :
    s.TypeIs v T∧∀ a,v = .ref a→∃ ob,s.heap.get? a = some ob∧ob.dict = none := by
  cases x with
  | str z =>
    obtain ⟨t,rfl⟩ := r
    cases (show T = "str" from ty)
    exact ⟨typeIs_str s z t,fun _ e => nomatch e⟩
  | int i =>
    obtain ⟨t,rfl⟩ := r
    cases (show T = "int" from ty)
    exact ⟨typeIs_int s i t,fun _ e => nomatch e⟩
  | ref p =>
    cases r
    rcases ty with ⟨rfl,xs,hq⟩ | ⟨rfl,⟨o,hk,hc,hd⟩ | ⟨xs,hq⟩⟩ | ⟨rfl,hk⟩ | ⟨rfl,S,n,hk⟩
    · obtain ⟨its,_,pl,_⟩ := I.list hq
      refine ⟨pl.isList.typeIs,fun a e => ?_⟩
      cases e
      obtain ⟨o,n,e,c,hd,_⟩ := pl
      exact ⟨o,e,hd⟩
    · refine ⟨⟨o,I.kIn p o hk,hc⟩,fun a e => ?_⟩
      cases e
      exact ⟨o,I.kIn _ o hk,hd⟩
    · obtain ⟨_,its,_,⟨o,ho,hc,_⟩,o2,ho2,hd2⟩ := hq.ok I.hok
      refine ⟨⟨o,ho,hc⟩,fun a e => ?_⟩
      cases e
      exact ⟨o2,ho2,hd2⟩
    · have z : ∃ o,s.heap.get? p = some o∧o.ExactDict := by
        rcases hk with ⟨kvs,hk⟩ | ⟨kvs,hk⟩
        · obtain ⟨_,_,_,_,o,_,_,e,ex,_⟩ := (show zaU X.prog X.w H s.heap p (.dK kvs) from hk.ok I.hok)
          exact ⟨o,e,ex⟩
        · obtain ⟨_,_,_,_,o,_,_,e,ex,_⟩ := I.hok p _ hk
          exact ⟨o,e,ex⟩
      obtain ⟨o,e,ex⟩ := z
      refine ⟨⟨o,e,ex.1⟩,fun a e2 => ?_⟩
      cases e2
      exact ⟨o,e,ex.2.1⟩
    · obtain ⟨o,_,_,_,e,ex,_⟩ := I.hok p _ hk
      refine ⟨⟨o,e,ex.1⟩,fun a e2 => ?_⟩
      cases e2
      exact ⟨o,e,ex.2.1⟩
  | _ => exact False.elim ty
noncomputable def tBM0 (K : PySem.W.Frag) (T : String) (r : V→List V→Hp→VK→Prop) (to : TE) : TE := fun σ H Q => to σ H fun x H1 => tyV K T x H1∧r x [] H1 Q
noncomputable def tBM (K : PySem.W.Frag) (T : String) (r : V→List V→Hp→VK→Prop) (to : TE) (t : TA) : TE := fun σ H Q => to σ H fun x H1 => tyV K T x H1∧t σ H1 fun xs H2 => r x xs H2 Q
variable {o e : Expr} {es : List Expr} {to : TE} {t : TA} {name : Str} {apos cpos : Pos} {T id : String} {r : V → List V → Hp → VK → Prop}
theorem zmO (pa : PlainAttrs T) (slot : Slot T name id) (hty : typeOf (.builtin id) = pure (.type "method_descriptor")) (hm : MtR X id r) (ho : PE X o to)
    (hbase : attributeBase o name X.env (eval o X.env) = eval o X.env := by rfl) (hline : (apos.endLine == cpos.line) = true := by rfl) : PE X (.Call (.Attribute o name apos) [] [] cpos) (tBM0 X.K T r to) := by
  intro pins s σ H Q I h
  refine wpAny_Call_method0_late hbase hline (thn (ho pins s σ H _ I h) fun v s1 ⟨x,H1,I1,r1,ty,q1⟩ => ?_)
  obtain ⟨h1,h2⟩ := zmx I1 r1 ty
  exact ⟨T,id,pa,slot,hty,h1,h2,Calls.callWith_builtin rfl (PySem.evalArgs_none (hm pins s1 σ H1 x [] v [] Q I1 r1 .nil q1))⟩
theorem zpv (pa : PlainAttrs T) (slot : Slot T name id) (hty : typeOf (.builtin id) = pure (.type "method_descriptor")) (hm : MtR X id r) (ho : PE X o to) (ha : PA X (e::es) t)
    (hbase : attributeBase o name X.env (eval o X.env) = eval o X.env := by rfl)
    (hfew : ((backTo cpos (starEach (e::es) X.env)).all (fun x => ! x.1) && (backToKw cpos (keywordEach [] X.env)).all (fun x => x.1.isSome)
      && decide ((e::es).length + ([] : List Keyword).length + (if ([] : List Keyword).isEmpty then 0 else 1) < 30)) = true := by rfl)
    (hline : (apos.endLine == cpos.line) = true := by rfl) (hs : starEach (e::es) X.env = (false,eval e X.env)::starEach es X.env := by rfl) (hplain : (backTo cpos (starEach es X.env)).any (·.1) = false := by rfl) :
    PE X (.Call (.Attribute o name apos) (e::es) [] cpos) (tBM X.K T r to t) := by
  intro pins s σ H Q I h
  refine wpAny_Call_method_late hbase hfew hline rfl (thn (ho pins s σ H _ I h) fun v s1 ⟨x,H1,I1,r1,ty,q1⟩ => ?_)
  obtain ⟨h1,h2⟩ := zmx I1 r1 ty
  refine ⟨T,id,pa,slot,hty,h1,h2,?_⟩
  have hA := ha cpos pins s1 σ H1 _ I1 q1
  rw [hs] at hA ⊢
  refine Calls.callWith_builtin (by show (false || (backTo cpos (starEach es X.env)).any (·.1)) = false; rw [hplain] <;> rfl) (Calls.evalArgs_plain ?_)
  exact thn hA fun us s2 ⟨vs,H2,I2,r2,q2⟩ => hm pins s2 σ H2 x vs v us Q I2 r1 r2 q2
end
end L2
namespace L2
open PySem PySem.Spec PyProof.Rows
noncomputable def MtM (X : Cx) (id : String) (r : V→List V→Hp→VK→Prop) : Prop :=
  ∀ (pins : List (Addr × Obj)) (s : Shared) (σ : St) (H : Hp) (x : V) (xs : List V) (v : Value) (us : List Value) (Q : VK),Inv X pins σ H s→RelV x v→Vals xs us→r x xs H Q →
    wpAny (model X.prog X.w) X.A (call (.builtin id) (v::us)) (EP X pins σ Q) X.xe s
theorem Vals.one {x : V} {us : List Value} (h : Vals [x] us) : ∃ u,us = [u]∧RelV x u := by
  cases h with
  | cons r t => cases t; exact ⟨_,rfl,r⟩
theorem Vals.zero : ∀ {us : List Value},Vals [] us→us = []
  | _,.nil => rfl
theorem Vals.eraseIdx : ∀ {xs : List V} {us : List Value} (i : Nat),Vals xs us→Vals (xs.eraseIdx i) (us.eraseIdx i)
  | _,_,_,.nil => .nil
  | _,_,0,.cons _ t => t
  | _,_,i + 1,.cons r t => .cons r (Vals.eraseIdx i t)
theorem Vals.reverse {xs : List V} {us : List Value} (h : Vals xs us) : Vals xs.reverse us.reverse := by
  induction h with
  | nil => exact .nil
  | cons r t ih => rw [List.reverse_cons,List.reverse_cons]; exact Vals.append ih (.cons r .nil)
section
variable {X : Cx} {pins : List (Addr × Obj)} {σ : St} {H : Hp} {s : Shared} {l b : Addr} {xs ys zs : List V}
theorem Inv.lset {its its' : List Value} {n : Nat} {f : Array Value→Array Value} {t' : Nat} (I : Inv X pins σ H s) (hH : H l = some (.lst xs))
    (e : s.heap.get? l = some { cls := .type "list",data := .seq its.toArray n }) (hf : f its.toArray = its'.toArray) (hv : Vals ys its') (hz : ys.length≤sizeLine) :
    Inv X pins σ (upd H l (.lst ys)) { s with heap := s.heap.update l (Obj.mapSeq f),toks := t' } := by
  have q := PySem.IsL.update e f
  rw [hf] at q
  refine I.write (x := l) (e := l) (by rw [hH]; exact trivial) (.inl rfl) (fun b' u hb hu => (Heap.get?_update_other s.heap (Obj.mapSeq f) (Ne.symm hb)).trans hu) ⟨_,q⟩ ?_
  exact ⟨hz,its',_,hv,q⟩
theorem Inv.lnew {its : List Value} {t' : Nat} (I : Inv X pins σ H s) (hv : Vals ys its) (hz : ys.length≤sizeLine) :
    Inv X pins σ (upd H s.heap.objs.size (.lst ys)) { s with heap := s.heap.push { cls := .type "list",data := .seq its.toArray },toks := t' } :=
  I.laid (fun _ _ q => Heap.get?_push_of_some _ q) (Nat.le_refl _) ⟨hz,its,0,hv,Heap.get?_push_size _ rfl⟩
theorem Inv.fresh (I : Inv X pins σ H s) : H s.heap.objs.size = none := I.hok.fresh (Nat.le_refl _)
theorem Inv.lstM (I : Inv X pins σ H s) (hH : H l = some (.lst xs)) : xs.length≤sizeLine∧∃ (its : List Value) (n : Nat),Vals xs its∧xs.length = its.length∧s.heap.get? l = some { cls := .type "list",data := .seq its.toArray n } := by
  obtain ⟨z,its,n,r,e⟩ := I.hok l _ hH
  exact ⟨z,its,n,r,r.length,e⟩
end
section
variable {X : Cx}
noncomputable def zjX : V→List V→Hp→VK→Prop := fun x vs H Q => ∃ l xs y,x = .ref l∧vs = [y]∧H l = some (.lst xs)∧xs.length < sizeLine∧Q .non (upd H l (.lst (xs++[y])))
theorem zaH : MtM X "list.append" zjX := by
  intro pins s σ H x vs v us Q I rx rv h
  obtain ⟨l,xs,y,rfl,rfl,hH,hz,q⟩ := h
  cases rx
  obtain ⟨u,rfl,ru⟩ := rv.one
  obtain ⟨z,its,n,r,hl,e⟩ := I.lstM hH
  refine call_meets F.slot_list_append ⟨_,e,rfl⟩ F.entry_list_append (F.args_list_append_2 _ _) (PySem.list_append l its.toArray n u (by rw [List.size_toArray]; omega)) ⟨e,?_⟩
  refine ⟨.non,_,I.lset (its' := its++[u]) hH e (by simp) (r.append (.cons ru .nil)) ?_,rfl,q⟩
  rw [List.length_append,List.length_singleton]
  omega
noncomputable def zik : V→List V→Hp→VK→Prop := fun x vs H Q => ∃ l xs,x = .ref l∧vs = []∧H l = some (.lst xs)∧Q .non (upd H l (.lst xs.reverse))
theorem zi4 : MtM X "list.reverse" zik := by
  intro pins s σ H x vs v us Q I rx rv h
  obtain ⟨l,xs,rfl,rfl,hH,q⟩ := h
  cases rx
  have hus := rv.zero
  subst hus
  obtain ⟨z,its,n,r,hl,e⟩ := I.lstM hH
  refine call_meets F.slot_list_reverse ⟨_,e,rfl⟩ F.entry_list_reverse (F.args_list_reverse_1 _) (AutoSeq1.list_reverse_list_0 l its.toArray n (by rw [List.size_toArray]; omega)) ⟨e,?_⟩
  refine ⟨.non,_,I.lset (its' := its.reverse) hH e (by simp) r.reverse ?_,rfl,q⟩
  rw [List.length_reverse]
  omega
end
section
variable {prog : Program} {w : World} {A : Around} {E : Value → Shared → Prop} {s : Shared}
end
section
variable {X : Cx}
end
end L2
namespace L2
open PySem PySem.Spec PyProof.Rows
section
variable {κ : Type} [DecidableEq κ]
noncomputable def valV (kvs : List (κ × V)) (k : κ) : Option V := (kvs.find? fun kv => decide (kv.1 = k)).map (·.2)
noncomputable def putK (kvs : List (κ × V)) (k : κ) (v : V) : List (κ × V) :=
  if (kvs.any fun kv => decide (kv.1 = k)) = true then kvs.map (fun kv => if kv.1 = k then (kv.1,v) else kv) else kvs++[(k,v)]
theorem zeS {p : κ × V} {r : List (κ × V)} {k : κ} (e : p.1 = k) : valV (p::r) k = some p.2 := by simp [valV,List.find?_cons,e]
theorem zdL {p : κ × V} {r : List (κ × V)} {k : κ} (e : ¬ p.1 = k) : valV (p::r) k = valV r k := by simp [valV,List.find?_cons,e]
theorem zh8 (k : κ) : ∀ kvs : List (κ × V),(kvs.any fun kv => decide (kv.1 = k)) = (valV kvs k).isSome
  | [] => rfl
  | p::r => by
    rw [List.any_cons]
    by_cases e : p.1 = k
    · simp only [zeS e,decide_eq_true e,Bool.true_or,Option.isSome_some]
    · rw [zdL e,decide_eq_false e,Bool.false_or]; exact zh8 k r
theorem zfk (kvs : List (κ × V)) (k : κ) (v : V) : (putK kvs k v).length≤kvs.length + 1 := by
  unfold putK
  split
  · rw [List.length_map]; omega
  · rw [List.length_append,List.length_cons,List.length_nil]; omega
theorem RelO.isSome_eq {o : Option V} {u : Option Value} (r : RelO o u) : o.isSome = u.isSome := by
  cases o with
  | none => cases u with
    | none => rfl
    | some _ => exact (show False from r).elim
  | some _ => cases u with
    | none => exact (show False from r).elim
    | some _ => rfl
theorem RelO.getD {o : Option V} {u : Option Value} {d : V} {d' : Value} (r : RelO o u) (rd : RelV d d') : RelV (o.getD d) (u.getD d') := by
  cases o with
  | none => cases u with
    | none => exact rd
    | some _ => exact (show False from r).elim
  | some _ => cases u with
    | none => exact (show False from r).elim
    | some _ => exact r
theorem KV.val {kvs : List (κ × V)} {vs : List (κ × Value)} (r : KV kvs vs) (k : κ) : RelO (valV kvs k) (valueAt vs k) := by
  unfold KV at r
  induction r with
  | nil => exact True.intro
  | @cons p q ps qs h t ih =>
    obtain ⟨h1,h2⟩ := h
    by_cases e : p.1 = k
    · have e' : q.1 = k := h1.symm.trans e
      have b : valueAt (q::qs) k = some q.2 := by simp [valueAt,List.find?_cons,e']
      rw [zeS e,b]; exact h2
    · have e' : ¬ q.1 = k := fun z => e (h1.trans z)
      have b : valueAt (q::qs) k = valueAt qs k := by simp [valueAt,List.find?_cons,e']
      rw [zdL e,b]; exact ih
theorem KV.any {kvs : List (κ × V)} {vs : List (κ × Value)} (r : KV kvs vs) (k : κ) : (kvs.any fun kv => decide (kv.1 = k)) = vs.any fun kv => decide (kv.1 = k) := by
  unfold KV at r
  induction r with
  | nil => rfl
  | cons h t ih => rw [List.any_cons,List.any_cons,ih,h.1]
theorem KV.repl {kvs : List (κ × V)} {vs : List (κ × Value)} (r : KV kvs vs) (k : κ) {y : V} {u : Value} (ry : RelV y u) :
    KV (kvs.map fun kv => if kv.1 = k then (kv.1,y) else kv) (vs.map fun kv => if kv.1 = k then (kv.1,u) else kv) := by
  unfold KV at r ⊢
  induction r with
  | nil => exact .nil
  | @cons p q ps qs h t ih =>
    rw [List.map_cons,List.map_cons]
    refine .cons ?_ ih
    obtain ⟨h1,h2⟩ := h
    by_cases e : p.1 = k
    · rw [if_pos e,if_pos (h1.symm.trans e)]; exact ⟨h1,ry⟩
    · rw [if_neg e,if_neg (fun z => e (h1.trans z))]; exact ⟨h1,h2⟩
theorem KV.put {kvs : List (κ × V)} {vs : List (κ × Value)} (r : KV kvs vs) (k : κ) {y : V} {u : Value} (ry : RelV y u) : KV (putK kvs k y) (stored vs k u) := by
  unfold putK stored
  rw [r.any k]
  by_cases e : (vs.any fun kv => decide (kv.1 = k)) = true
  · rw [if_pos e,if_pos e]; exact r.repl k ry
  · rw [if_neg e,if_neg e]; exact Paired.snoc r ⟨rfl,ry⟩
theorem KV.length {kvs : List (κ × V)} {vs : List (κ × Value)} (r : KV kvs vs) : kvs.length = vs.length := Paired.length r
end
theorem zkE {P : Program} {w : World} {k : Key} {u : Value} (r : RelV (kV k) u) : (za3 P w).is k u = true := by
  cases k with
  | inl i => obtain ⟨t,e⟩ := (show ∃ t,u = Value.int i t from r); subst e; exact zhY P w i t
  | inr x => obtain ⟨t,e⟩ := (show ∃ t,u = Value.str x t from r); subst e; exact zhX P w x t
theorem zhn {P : Program} {w : World} : ∀ {ks : List Key} {us : List Value},Vals (ks.map kV) us→ItemsAre (za3 P w) ks us
  | [],_,r => by rw [List.map_nil] at r; cases r; exact .nil
  | k::ks,_,r => by
    rw [List.map_cons] at r
    cases r with
    | cons h t => exact .cons (zkE h) (zhn t)
noncomputable abbrev KT (H : Hp) : List (List Key × V)→List (List Key × Addr × Value)→Prop := Paired fun p q => p.1 = q.1∧H q.2.1 = some (.tup (p.1.map kV))∧RelV p.2 q.2.2
theorem KT.val {H : Hp} {kvs : List (List Key × V)} {xs : List (List Key × Addr × Value)} (r : KT H kvs xs) (k : List Key) : RelO (valV kvs k) ((atKey xs k).map (·.2)) := by
  induction r with
  | nil => exact True.intro
  | @cons p q ps qs h t ih =>
    obtain ⟨h1,_,h2⟩ := h
    by_cases e : p.1 = k
    · have e' : q.1 = k := h1.symm.trans e
      have b : atKey (q::qs) k = some q.2 := by simp [atKey,List.find?_cons,e']
      rw [zeS e,b]; exact h2
    · have e' : ¬ q.1 = k := fun z => e (h1.trans z)
      have b : atKey (q::qs) k = atKey qs k := by simp [atKey,List.find?_cons,e']
      rw [zdL e,b]; exact ih
theorem KT.repl {H : Hp} {kvs : List (List Key × V)} {xs : List (List Key × Addr × Value)} (r : KT H kvs xs) (k : List Key) {y : V} {u : Value} (ry : RelV y u) :
    KT H (kvs.map fun kv => if kv.1 = k then (kv.1,y) else kv) (xs.map (putAt k u)) := by
  induction r with
  | nil => exact .nil
  | @cons p q ps qs h t ih =>
    rw [List.map_cons,List.map_cons]
    refine .cons ?_ ih
    obtain ⟨h1,h2,h3⟩ := h
    unfold putAt
    by_cases e : p.1 = k
    · rw [if_pos e,if_pos (h1.symm.trans e)]; exact ⟨h1,h2,ry⟩
    · rw [if_neg e,if_neg (fun z => e (h1.trans z))]; exact ⟨h1,h2,h3⟩
theorem KT.put {H : Hp} {kvs : List (List Key × V)} {xs : List (List Key × Addr × Value)} (r : KT H kvs xs) (k : List Key) {b : Addr} {y : V} {u : Value} (hb : H b = some (.tup (k.map kV))) (ry : RelV y u) :
    KT H (putK kvs k y) (storedH xs k b u) := by
  have e : (kvs.any fun kv => decide (kv.1 = k)) = (atKey xs k).isSome := by
    rw [zh8,(r.val k).isSome_eq,Option.isSome_map]
  unfold putK storedH
  rw [e]
  by_cases q : (atKey xs k).isSome = true
  · rw [if_pos q,if_pos q]; exact r.repl k ry
  · rw [if_neg q,if_neg q]; exact Paired.snoc r ⟨rfl,hb,ry⟩
theorem KT.keeps {H H' : Hp} {kvs : List (List Key × V)} {xs : List (List Key × Addr × Value)} (r : KT H kvs xs) (ht : ∀ b ys,H b = some (.tup ys)→H' b = some (.tup ys)) : KT H' kvs xs :=
  Paired.mapP r fun _ _ z => ⟨z.1,ht _ _ z.2.1,z.2.2⟩
section
variable {P : Program} {w : World} {H : Hp} {h : Heap} {a : Addr}
theorem zpa {u : HO} (ok : HOk P w H h) (e : Rd H a u) : zaU P w H h a u := e.ok ok
theorem zji {kvs : List (Key × V)} (ok : HOk P w H h) (e : Rd H a (.dK kvs)) : kvs.length≤sizeLine∧(a == sysModules) = false∧∃ vs,KV kvs vs∧h.DictOf (za3 P w) a vs :=
  show zaU P w H h a (.dK kvs) from zpa ok e
theorem zrB {kvs : List (Key × V)} (ok : HOk P w H h) (e : H a = some (.dK kvs)) : kvs.length≤sizeLine∧(a == sysModules) = false∧∃ vs,KV kvs vs∧h.DictOf (za3 P w) a vs := zji ok (.inl e)
theorem zhm {ks : List Key} (ok : HOk P w H h) (e : H a = some (.tup (ks.map kV))) : (tupleKind (za3 P w)).is h ks a := by
  obtain ⟨_,its,r,⟨o,h1,h2,n,h3⟩,_⟩ := (show zaU P w H h a (.tup (ks.map kV)) from ok a _ e)
  exact ⟨o,its.toArray,n,h1,h2,h3,by simpa using zhn r⟩
theorem zkZ {kvs : List (List Key × V)} (ok : HOk P w H h) (e : Rd H a (.dT kvs)) : kvs.length≤sizeLine∧(a == sysModules) = false ∧
    ∃ xs,KT H kvs xs∧h.DictOfH (tupleKind (za3 P w)) a xs := by
  obtain ⟨z,y,xs,r,o,es,ep,h1,h2,h3,h4,h5⟩ := (show zaU P w H h a (.dT kvs) from zpa ok e)
  refine ⟨z,y,xs,r,o,es,ep,h1,h2,h3,h4,fun x hx => ?_,h5⟩
  have all : ∀ {l : List (List Key × V)} {m : List (List Key × Addr × Value)},KT H l m→∀ x∈m,(tupleKind (za3 P w)).is h x.1 x.2.1 := by
    intro l m q
    induction q with
    | nil => intro x hx; exact nomatch hx
    | @cons p q ps qs hq t ih =>
      intro x hx
      rcases List.mem_cons.mp hx with e | hx
      · subst e
        exact zhm ok (by rw [← hq.1]; exact hq.2.1)
      · exact ih x hx
  exact all r x hx
theorem zrA {kvs : List (List Key × V)} (ok : HOk P w H h) (e : H a = some (.dT kvs)) : kvs.length≤sizeLine∧(a == sysModules) = false ∧
    ∃ xs,KT H kvs xs∧h.DictOfH (tupleKind (za3 P w)) a xs := zkZ ok (.inl e)
end
noncomputable def DGet (H : Hp) (a : Addr) (y : V) (r : Option V) : Prop :=
  (∃ kvs k,Rd H a (.dK kvs)∧y = kV k∧r = valV kvs k)∨∃ kvs k b,Rd H a (.dT kvs)∧y = .ref b∧H b = some (.tup (k.map kV))∧r = valV kvs k
noncomputable def DPut (H : Hp) (a : Addr) (y v : V) (H' : Hp) : Prop :=
  (∃ kvs k,H a = some (.dK kvs)∧y = kV k∧kvs.length < sizeLine∧H' = upd H a (.dK (putK kvs k v))) ∨
  ∃ kvs k b,H a = some (.dT kvs)∧y = .ref b∧H b = some (.tup (k.map kV))∧kvs.length < sizeLine∧H' = upd H a (.dT (putK kvs k v))
theorem DGet.k {H : Hp} {a : Addr} {kvs : List (Key × V)} {k : Key} (e : H a = some (.dK kvs)) : DGet H a (kV k) (valV kvs k) := .inl ⟨kvs,k,.inl e,rfl,rfl⟩
theorem DGet.t {H : Hp} {a b : Addr} {kvs : List (List Key × V)} {k : List Key} (e : H a = some (.dT kvs)) (eb : H b = some (.tup (k.map kV))) : DGet H a (.ref b) (valV kvs k) := .inr ⟨kvs,k,b,.inl e,rfl,eb,rfl⟩
theorem DPut.k {H : Hp} {a : Addr} {kvs : List (Key × V)} {k : Key} {v : V} (e : H a = some (.dK kvs)) (hl : kvs.length < sizeLine) : DPut H a (kV k) v (upd H a (.dK (putK kvs k v))) := .inl ⟨kvs,k,e,rfl,hl,rfl⟩
theorem DPut.t {H : Hp} {a b : Addr} {kvs : List (List Key × V)} {k : List Key} {v : V} (e : H a = some (.dT kvs)) (eb : H b = some (.tup (k.map kV))) (hl : kvs.length < sizeLine) :
    DPut H a (.ref b) v (upd H a (.dT (putK kvs k v))) := .inr ⟨kvs,k,b,e,rfl,eb,hl,rfl⟩
section
variable {X : Cx} {pins : List (Addr × Obj)} {σ : St} {H : Hp} {s : Shared} {a : Addr} {y v : V} {u r : Value} {o : Option V} {A : Around} {E : Value → Shared → Prop}
theorem Inv.big (I : Inv X pins σ H s) : sysModules < s.heap.objs.size := by
  have h : mainGlobals < s.heap.objs.size := (I.mod.glob.keeps I.bk).lt
  exact Nat.lt_trans (by decide) h
theorem zk5 {Q : Value→Shared→Prop} (hu : A.units + 1 < cLine) (I : Inv X pins σ H s) (g : DGet H a y (some v)) (ry : RelV y u) (h : ∀ w' s',Inv X pins σ H s'→RelV v w'→Q w' s') :
    wpAny (model X.prog X.w) A (getItem (.ref a) u) Q E s := by
  rcases g with ⟨kvs,k,e,ey,l⟩ | ⟨kvs,k,b,e,ey,eb,l⟩
  · subst ey
    obtain ⟨z,hd,vs,rel,dd⟩ := zji I.hok e
    obtain ⟨w',hw,rw'⟩ := RelO.some_of (v := v) (o := valueAt vs k) (by rw [l]; exact rel.val k)
    exact wpAny_getItem_of (zkE ry) dd.mapOf hw (h w' _ (I.tok _) rw')
  · subst ey
    cases (show u = Value.ref b from ry)
    obtain ⟨z,hd,xs,rel,dd⟩ := zkZ I.hok e
    obtain ⟨w',hw,rw'⟩ := RelO.some_of (v := v) (o := (atKey xs k).map (·.2)) (by rw [l]; exact rel.val k)
    obtain ⟨p,hp,hp2⟩ := Option.map_eq_some_iff.mp hw
    refine wpAny_getItem_heap (tupleKind_room_in1 hu) (zhm I.hok eb) dd hp ?_
    rw [hp2]
    exact h w' _ (I.tok _) rw'
theorem d_in {Q : Value→Shared→Prop} (hu : A.units + 1 < cLine) (I : Inv X pins σ H s) (g : DGet H a y o) (ry : RelV y u) (h : ∀ s',Inv X pins σ H s'→Q (.bool o.isSome) s') :
    wpAny (model X.prog X.w) A (compareOp .In u (.ref a)) Q E s := by
  rcases g with ⟨kvs,k,e,ey,l⟩ | ⟨kvs,k,b,e,ey,eb,l⟩
  · subst ey
    obtain ⟨z,hd,vs,rel,dd⟩ := zji I.hok e
    refine wpAny_in_of (zkE ry) hd dd.mapOf ?_
    rw [← (rel.val k).isSome_eq,← l]
    exact h _ (I.tok _)
  · subst ey
    cases (show u = Value.ref b from ry)
    obtain ⟨z,hd,xs,rel,dd⟩ := zkZ I.hok e
    refine wpAny_in_heap (tupleKind_room_in1 hu) (zhm I.hok eb) hd dd ?_
    have q := (rel.val k).isSome_eq
    rw [Option.isSome_map] at q
    rw [← q,← l]
    exact h _ (I.tok _)
theorem zoi {Q : Value→Shared→Prop} (hu : A.units + 1 < cLine) (I : Inv X pins σ H s) (g : DGet H a y o) (ry : RelV y u) (h : ∀ s',Inv X pins σ H s'→Q (.bool (! o.isSome)) s') :
    wpAny (model X.prog X.w) A (compareOp .NotIn u (.ref a)) Q E s := by
  rcases g with ⟨kvs,k,e,ey,l⟩ | ⟨kvs,k,b,e,ey,eb,l⟩
  · subst ey
    obtain ⟨z,hd,vs,rel,dd⟩ := zji I.hok e
    refine wpAny_notIn_of (zkE ry) hd dd.mapOf ?_
    rw [← (rel.val k).isSome_eq,← l]
    exact h _ (I.tok _)
  · subst ey
    cases (show u = Value.ref b from ry)
    obtain ⟨z,hd,xs,rel,dd⟩ := zkZ I.hok e
    refine wpAny_notIn_heap (tupleKind_room_in1 hu) (zhm I.hok eb) hd dd ?_
    have q := (rel.val k).isSome_eq
    rw [Option.isSome_map] at q
    rw [← q,← l]
    exact h _ (I.tok _)
theorem zk3 {h' : Heap} {t' : Nat} {ob : HO} (I : Inv X pins σ H s) (mu : Mut (H a)) (hs : Heap.SameBut a s.heap h') (he : ∃ q,h'.get? a = some q) (new : zaU X.prog X.w (upd H a ob) h' a ob) :
    Inv X pins σ (upd H a ob) { s with heap := h',toks := t' } :=
  I.write (x := a) (e := a) mu (.inl rfl) (fun b q hb z => (hs.2 b hb).trans z) he new
theorem zqj {P : Program} {w : World} {H' : Hp} {h' : Heap} {kvs : List (Key × V)} {vs : List (Key × Value)} (z : kvs.length≤sizeLine) (hd : (a == sysModules) = false) (rel : KV kvs vs) (dd : h'.DictOf (za3 P w) a vs) :
    zaU P w H' h' a (.dK kvs) := ⟨z,hd,vs,rel,dd⟩
theorem zk4 {H' : Hp} {Q : Unit→Shared→Prop} (hu : A.units + 1 < cLine) (I : Inv X pins σ H s) (g : DPut H a y v H') (ry : RelV y u) (rv : RelV v r) (h : ∀ s',Inv X pins σ H' s'→Q () s') :
    wpAny (model X.prog X.w) A (setItem (.ref a) u r) Q E s := by
  rcases g with ⟨kvs,k,e,ey,l,eH⟩ | ⟨kvs,k,b,e,ey,eb,l,eH⟩
  · subst ey eH
    obtain ⟨z,hd,vs,rel,dd⟩ := zrB I.hok e
    have hz : vs.length≤sizeLine := by rw [← rel.length]; exact z
    have hl : (putK kvs k v).length≤sizeLine := by have := zfk kvs k v; omega
    refine wpAny_setItem_pairs (hsz := hz) (zkE ry) dd fun h' dd' hs => h _ ?_
    have he : ∃ q,h'.get? a = some q := let ⟨q,_,_,hq,_⟩ := dd'; ⟨q,hq⟩
    exact zk3 I (by rw [e]; exact True.intro) hs he (zqj hl hd (rel.put k rv) dd')
  · subst ey eH
    cases (show u = Value.ref b from ry)
    obtain ⟨z,hd,xs,rel,dd⟩ := zrA I.hok e
    have hz : xs.length≤sizeLine := by rw [← Paired.length rel]; exact z
    have hl : (putK kvs k v).length≤sizeLine := by have := zfk kvs k v; omega
    refine wpAny_setItem_heap (hsz := hz) (tupleKind_room_in1 hu) (zhm I.hok eb) dd fun h' dd' hs => h _ ?_
    obtain ⟨q,es,ep,hq,h2,h3,h4,_,h5⟩ := dd'
    refine zk3 I (by rw [e]; exact True.intro) hs ⟨q,hq⟩ ⟨hl,hd,_,(rel.put k eb rv).keeps fun c ys ec => ?_,q,es,ep,hq,h2,h3,h4,h5⟩
    rw [zay (zrd ec e (fun z => nomatch z))]
    exact ec
end
section
variable {X : Cx} {pins : List (Addr × Obj)} {σ : St} {H : Hp} {s : Shared} {a : Addr} {kvs : List (Key × V)} {k : Key} {u : Value} {A : Around} {E : Value → Shared → Prop}
theorem zrD {Q : Value→Shared→Prop} (I : Inv X pins σ H s) (e : Rd H a (.dK kvs)) (h : ∀ t s',Inv X pins σ H s'→Q (.int kvs.length t) s') : wpAny (model X.prog X.w) A (call (.builtin "len") [.ref a]) Q E s := by
  obtain ⟨z,hd,vs,rel,dd⟩ := zji I.hok e
  refine call_len_dict hd dd (by rw [← rel.length]; rw [sizeLine_eq] at z; omega) ?_
  rw [← rel.length]
  exact h _ _ (I.tok _)
end
theorem zh1 {X : Cx} {pins : List (Addr × Obj)} {σ : St} {H : Hp} {s : Shared} {a : Addr} {y : V} {o : Option V} (I : Inv X pins σ H s) (g : DGet H a y o) : s.TypeIs (.ref a) "dict" := by
  rcases g with ⟨kvs,k,e,_,_⟩ | ⟨kvs,k,b,e,_,_,_⟩
  · obtain ⟨_,_,vs,_,dd⟩ := zji I.hok e
    exact dd.typeIs
  · obtain ⟨_,_,xs,_,dd⟩ := zkZ I.hok e
    exact dd.typeIs
section
variable {X : Cx} {o i e value : Expr} {pos pos' tpos : Pos} {td ty tv : TE}
end
theorem zmc {P : Program} {w : World} {H : Hp} (h : Heap) (hb : sysModules < h.objs.size) : zaU P w H (h.push { cls := .type "dict",data := .dict #[] }) h.objs.size (.dK []) :=
  ⟨Nat.zero_le _,beq_eq_false_iff_ne.mpr (Ne.symm (Nat.ne_of_lt hb)),[],.nil,Heap.DictOf.new h⟩
noncomputable def zoN : TE := fun _ H Q => ∀ p,H p = none→Q (.ref p) (upd H p (.dK []))
section
variable {X : Cx} {pos : Pos}
theorem zlN : PE X (.Dict [] [] pos) zoN := fun pins s σ H Q I h =>
  wpAny_Dict_empty ⟨.ref s.heap.objs.size,_,I.laid (a := s.heap.objs.size) (o := .dK []) (t' := s.toks) (fun _ _ q => Heap.get?_push_of_some _ q) (Nat.le_refl _) (zmc s.heap I.big),rfl,h _ (I.hok.fresh (Nat.le_refl _))⟩
end
structure M1 (X : Cx) (o : Expr) (m : Str) (apos : Pos) (e : Expr) (cpos : Pos) : Prop where
  base : attributeBase o m X.env (eval o X.env) = eval o X.env
  few : ((backTo cpos (starEach [e] X.env)).all (fun x => ! x.1) && (backToKw cpos (keywordEach [] X.env)).all (fun x => x.1.isSome)
    && decide (([e] : List Expr).length + ([] : List Keyword).length + (if ([] : List Keyword).isEmpty then 0 else 1) < 30)) = true
  line : (apos.endLine == cpos.line) = true
  trees : backTo cpos (starEach [e] X.env) = [(false,eval e X.env)]
structure M2 (X : Cx) (o : Expr) (m : Str) (apos : Pos) (e f : Expr) (cpos : Pos) : Prop where
  base : attributeBase o m X.env (eval o X.env) = eval o X.env
  few : ((backTo cpos (starEach [e,f] X.env)).all (fun x => ! x.1) && (backToKw cpos (keywordEach [] X.env)).all (fun x => x.1.isSome)
    && decide (([e,f] : List Expr).length + ([] : List Keyword).length + (if ([] : List Keyword).isEmpty then 0 else 1) < 30)) = true
  line : (apos.endLine == cpos.line) = true
  trees : backTo cpos (starEach [e,f] X.env) = [(false,eval e X.env),(false,eval f X.env)]
section
variable {X : Cx} {pins : List (Addr × Obj)} {σ : St} {H : Hp} {s : Shared} {a : Addr} {y d : V} {u r : Value} {o : Option V} {A : Around} {E : Value → Shared → Prop}
end
section
variable {X : Cx} {o e f : Expr} {apos cpos : Pos} {td ty tx : TE}
end
section
variable {X : Cx} {pins : List (Addr × Obj)} {σ : St} {H : Hp} {s : Shared} {a : Addr} {kvs : List (Key × V)} {A : Around} {E : Value → Shared → Prop}
end
section
variable {X : Cx} {pins : List (Addr × Obj)} {σ : St} {H : Hp} {s : Shared} {a : Addr} {y : V} {u : Value} {A : Around} {E : Value → Shared → Prop}
end
end L2
namespace Att
open PySem PySem.W PySem.Calls PyProof.Rows
theorem zfn {P : Params} {h : Heap} : ∀ (ns : List Int) (vs : List Value),WellAll P h vs (ns.map WData.int)→IntsAre vs ns := by
  intro ns
  induction ns with
  | nil =>
    intro vs w
    rw [List.map_nil] at w
    cases w
    exact .nil
  | cons n ns ih =>
    intro vs w
    rw [List.map_cons] at w
    cases w with
    | cons a b =>
      cases a
      exact .cons _ _ (ih _ b)
theorem zjF {l : OpenLaw} {n : Nat} (hn : l.most = some n) {P : Params} {h : Heap} {args : List WData} {vals : List Value}
    (hpre : l.row.toRowW.claim.pre args = true) (hwl : WellAll P h vals args) :
    ∃ a vs ns,vals = [Value.ref a]∧args = [WData.list (ns.map WData.int)]∧h.get? a = some { cls := .type "list",data := .seq vs.toArray }∧IntsAre vs ns∧ns.length≤n := by
  have hsh : WShape.hasAll [] args [.list .int] = true := (pre_splitW hpre).1
  have hc : l.pre.holds [] { args := args } = true := (pre_splitW hpre).2
  obtain ⟨d,r,rfl,h1,h2⟩ := hasAllW_cons hsh
  obtain rfl := hasAllW_nil h2
  obtain ⟨xs,rfl,h3⟩ := hasW_list h1
  obtain ⟨ns,rfl⟩ := items_int h3
  have hlen : ns.length≤n := by
    unfold OpenLaw.pre at hc
    have h4 : (WTm.not (.lt (.lit (.int (n : Int))) (.len (.arg 0)))).holds [] { args := [.list (ns.map .int)] } = true := by
      have h4 := (holds_andW hc).1
      rw [hn] at h4
      exact h4
    have h5 := condW_of h4 (w_not (w_lt w_lit (w_len_list (w_arg rfl))))
    rw [List.length_map] at h5
    refine Nat.le_of_not_lt fun q => ?_
    have q' : (n : Int) < ((ns.length : Nat) : Int) := by omega
    first
      | (rw [decide_eq_true q'] at h5; exact absurd h5 (by decide))
      | (simp at h5; omega)
  cases hwl with
  | cons w1 w2 =>
    cases w2
    cases w1 with
    | list ho hall => exact ⟨_,_,ns,rfl,rfl,ho,zfn ns _ hall,hlen⟩
theorem zj3 (l : OpenLaw) (args : List WData) : l.row.toRowW.claim.post args (.bool true) args = true :=
  postW_of (r := l.row.toRowW) (X := (true == true))
    (show WShape.has [] (.bool true) .bool = true by first | rfl | decide | simp [WShape.has,WShape.arms,WShape.armsAll])
    (show (WTm.eq .res (.lit (.bool true))).value [] { args := args,res := some (.bool true),after := args } = some (.bool (true == true)) from w_eq_bool (w_res rfl) w_lit) rfl
theorem attach_call {l : OpenLaw} {n : Nat} {q : Program} {loose : List Str} {XP : (Str→Option Value)→Heap→Prop} {YP : World→Heap→Prop} {d : DefRec}
    (hn : l.most = some n) (hdf : d.params.defaults = [])
    (call : ∀ (w : World) (s₀ s₁ : Shared) (mg mb : Str→Option Value) (fa : Addr) (o : Obj) (pm cd doc : Value) (a : Addr) (vs : List Value) (ns : List Int),
      Ground q loose [] XP w s₀ mg mb s₁.heap→YP w s₁.heap →
      s₁.heap.get? fa = some o→o.data = .func (docDef d.name d.params d.body d.scope pm cd doc)→s₁.heap.CodeRec cd d.name→mg d.name = some (.ref fa) →
      s₁.heap.get? a = some { cls := .type "list",data := .seq vs.toArray }→IntsAre vs ns→ns.length≤n→s₁.gens = #[] →
      codeAny (model l.prog w) callerA (.call (.ref fa) ⟨[.ref a],[]⟩) (fun r s' => r = .ok (.ret (.bool true))∧OldK s₁.heap s'.heap∧s'.os = s₁.os∧AllBare s'.gens) s₁) :
    WalkO q loose XP YP l.row.toRowW d [] (fun f vs => PySem.call f vs) := by
  intro w s₀ s₁ mg mb G Y fa o pm cd doc dV kV ho hd hcd hD hmg hg args vals as hpre hlay hrd hwl hlo
  obtain rfl : dV = .none := Dflts.none hD hdf
  obtain rfl : kV = .none := Dflts.noKw hD
  obtain ⟨a,vs,ns,rfl,rfl,hobj,hints,hlen⟩ := zjF hn hpre hwl
  refine enter_call (codeAny_mono (call w s₀ s₁ mg mb fa o pm cd doc a vs ns G Y ho (fd_plain hd) hcd hmg hobj hints hlen hg) fun r s' hq => ?_)
  obtain ⟨rfl,h2,h3,h4⟩ := hq
  exact ⟨.inl ⟨.bool true,.bool true,[],rfl,fun _ => rfl,.bool true,zj3 l _,fun _ => ⟨List.Pairwise.nil,fun _ hm => (nomatch hm)⟩⟩,h2,h3,h4⟩
section
variable {prog : Program} {w : World} {A : Around} {E : Value → Shared → Prop} {s : Shared} {K : Frag}
end
end Att
namespace L2
open PySem PySem.Spec PyProof.Rows
theorem zgR : ∀ {vs : List Value} {ns : List Int},IntsAre vs ns→Vals (ns.map V.int) vs
  | _,_,.nil => .nil
  | _,_,.cons n t h => .cons ⟨t,rfl⟩ (zgR h)
noncomputable def Only (H : Hp) : Prop := ∀ b,H b = none∨∃ o xs,H b = some (.frz o (.lst xs))
theorem zlZ {P : Program} {w : World} {K : PySem.W.Frag} {mg mb : Str→Option Value} {CX : CXT} {k : Nat} {fa a : Addr} {fd : FuncData} {x : Str} {sp : Sp} {s₁ : Shared} {vs : List Value} {ns : List Int}
    (KX : K.In s₁.heap) (hns : s₁.heap.Ns mainGlobals mg) (hb : s₁.heap.Ns builtinsNs mb) (hbb : ∀ x : Str,x≠"__name__"→mb x = bootBuiltins x) (hlim : s₁.heap.NoLimit) (hg : s₁.gens = #[])
    (ha : s₁.heap.get? a = some { cls := .type "list",data := .seq vs.toArray }) (hi : IntsAre vs ns) (hl : ns.length≤sizeLine) (hr : Room k callerA)
    (F : ∀ base : Heap,K.In base→base.Ns mainGlobals mg→FnOk P w K mg base CX k fa fd [x] sp) (hbind : ∀ (s : Shared) (u : Value),BindsTo s fd ⟨[u],[]⟩ [(x,u)])
    (hsp : ∀ H : Hp,Only H→SqL K H a (ns.map V.int)→sp [.ref a] H (fun v _ => v = .bl true) fun _ _ _ => False)
    (hCX : ∀ H e s',CX [] H s₁ (fun _ _ _ => False) e s'→False) :
    codeAny (model P w) callerA (.call (.ref fa) ⟨[.ref a],[]⟩) (fun r s' => r = .ok (.ret (.bool true))∧OldK s₁.heap s'.heap∧s'.os = s₁.os∧AllBare s'.gens) s₁ := by
  have rv := zgR hi
  have lenV := hi.length
  have core : ∀ H : Hp,Only H→SqL K H a (ns.map V.int)→HOk P w H s₁.heap→(∀ b,H b≠none→b = a)→(H a≠none→K.lookup a = none) →
      codeAny (model P w) callerA (.call (.ref fa) ⟨[.ref a],[]⟩) (fun r s' => r = .ok (.ret (.bool true))∧OldK s₁.heap s'.heap∧s'.os = s₁.os∧AllBare s'.gens) s₁ := by
    intro H hO hS hok hA hK
    have base_of : ∀ {b : Addr} {o : Obj},s₁.heap.get? b = some o→H b = none→(hidT s₁.heap H).get? b = some o := fun e n => zl3 e n
    have noA : ∀ {b : Addr} {o : Obj} {es : Array DictEntry} {ep : Nat},s₁.heap.get? b = some o→o.data = .dict es ep→H b = none := fun {b o es ep} e d => by
      cases q : H b with
      | none => rfl
      | some u =>
        have e' : b = a := hA b (by rw [q]; simp)
        subst e'
        rw [ha] at e; cases e
        have d' : Data.seq vs.toArray _ = Data.dict es ep := d
        cases d'
    have nsK : ∀ {b : Addr} {m : Str→Option Value},s₁.heap.Ns b m→(hidT s₁.heap H).Ns b m := fun {b m} ⟨o,es,ep,e,d,r⟩ => ⟨o,es,ep,base_of e (noA e d),d,r⟩
    have hKb : K.In (hidT s₁.heap H) := fun b o e => base_of (KX b o e) (by
      cases q : H b with
      | none => rfl
      | some u =>
        have e' : b = a := hA b (by rw [q]; simp)
        subst e'
        rw [hK (by rw [q]; simp)] at e; cases e)
    have hM : Mod K mg (hidT s₁.heap H) := ⟨hKb,nsK hns,⟨mb,nsK hb,hbb⟩,let ⟨mc,h1,h2⟩ := hlim; ⟨mc,nsK h1,h2⟩⟩
    have e0 : Env0 P w K mg (hidT s₁.heap H) callerA [] s₁ H := ⟨rfl,hM,fun b o e => znU e,Nat.le_of_eq (zkP _ _),trivial,fun b hb => absurd (show b∈([] : List Addr) from hb) (by simp),hok,.of_eq hg⟩
    refine codeAny_mono ((F _ hKb (nsK hns)).run callerA [] s₁ H ⟨[.ref a],[]⟩ [.ref a] [.ref a] _ _ hr e0 (hbind s₁ (.ref a)) (.cons rfl .nil) (hsp H hO hS)) fun r s' h => ?_
    cases r with
    | error e => exact (hCX H e s' h).elim
    | ok fl =>
      cases fl with
      | next => exact False.elim h
      | brk => exact False.elim h
      | cont => exact False.elim h
      | ret u =>
        obtain ⟨v,H',os,bare,un,hok',r',q⟩ := h
        have q' : v = .bl true := q
        subst q'
        obtain rfl : u = Value.bool true := r'
        refine ⟨rfl,OldK.of_keep fun b o e => ?_,os,bare⟩
        cases q : H b with
        | none => exact un.keep b o e q (by intro z; exact absurd (show b∈([] : List Addr) from z) (by simp)) (by simp)
        | some u =>
          rcases hO b with z | ⟨ob,xs,z⟩
          · rw [q] at z; cases z
          · have z2 := un.frzs b ob _ z
            obtain ⟨e1,_⟩ := hok b _ z
            obtain ⟨e2,_⟩ := hok' b _ z2
            rw [e] at e1; cases e1
            exact e2
  cases hk : K.lookup a with
  | some o =>
    have e := KX a o hk
    rw [ha] at e
    cases e
    refine core (fun _ => none) (fun _ => .inl rfl) (.inr ⟨_,vs.toArray,_,hk,rfl,rfl,rfl,by rw [List.size_toArray,lenV]; exact hl,by simpa using rv⟩) (fun b u z => by have z' : (none : Option HO) = some u := z; cases z') (fun b z => absurd rfl z) fun z => absurd rfl z
  | none =>
    refine core (fun b => if b = a then some (.frz { cls := .type "list",data := .seq vs.toArray } (.lst (ns.map V.int))) else none) (fun b => ?_) (.inl (.inr ⟨{ cls := .type "list",data := .seq vs.toArray },if_pos rfl⟩)) (fun b u z => ?_) (fun b z => ?_) fun _ => hk
    · by_cases hb : b = a
      · exact .inr ⟨_,_,if_pos hb⟩
      · exact .inl (if_neg hb)
    · by_cases hb : b = a
      · have z' := (if_pos hb).symm.trans z
        cases z'
        subst hb
        exact ⟨ha,by rw [List.length_map]; exact hl,vs,_,rv,ha⟩
      · have z' := (if_neg hb).symm.trans z
        cases z'
    · by_cases hb : b = a
      · exact hb
      · exact absurd (if_neg hb) z
end L2
namespace L2
open PySem PySem.Spec PyProof.Rows
noncomputable abbrev KOf {K : PySem.W.Frag} {h : Heap} (_ : K.In h) : PySem.W.Frag := K
theorem walk_of {l : PySem.W.OpenLaw} {n k : Nat} {q : Program} {loose : List Str} {XP : (Str→Option Value)→Heap→Prop} {YP : World→Heap→Prop} {d : DefRec} {K : Params→PySem.W.Frag} {CX : World→CXT} {sp : World→Sp} {x : Str}
    (hn : l.most = some n) (hn2 : n≤sizeLine) (hdf : d.params.defaults = []) (hr : Room k callerA)
    (hY : ∀ (w : World) (h : Heap),YP w h→(K w.params).In h)
    (F : ∀ (w : World) (mg : Str→Option Value) (fa : Addr) (h : Heap),(K w.params).In h→h.Ns mainGlobals mg→mg d.name = some (.ref fa) →
      ∃ fd : FuncData,(∀ (s : Shared) (u : Value),BindsTo s fd ⟨[u],[]⟩ [(x,u)]) ∧
        ∀ base : Heap,(K w.params).In base→base.Ns mainGlobals mg→FnOk l.prog w (K w.params) mg base (CX w) k fa fd [x] (sp w))
    (hsp : ∀ (w : World) (H : Hp) (a : Addr) (ns : List Int),ns.length≤n→Only H→SqL (K w.params) H a (ns.map V.int)→sp w [.ref a] H (fun v _ => v = .bl true) fun _ _ _ => False)
    (hCX : ∀ (w : World) (H : Hp) (s : Shared) (e : Value) (s' : Shared),CX w [] H s (fun _ _ _ => False) e s'→False) :
    PySem.W.WalkO q loose XP YP l.row.toRowW d [] (fun f vs => PySem.call f vs) := by
  refine Att.attach_call hn hdf fun w s₀ s₁ mg mb fa o pm cd doc a vs ns G Y ho hd hcd hmg hobj hints hlen hg => ?_
  have KX := hY w _ Y
  obtain ⟨fd,hb,hF⟩ := F w mg fa _ KX G.T.g hmg
  exact zlZ KX G.T.g G.T.b G.T.builtins G.T.nolimit hg hobj hints (Nat.le_trans hlen hn2) hr hF hb (fun H hO hS => hsp w H a ns hlen hO hS) fun H e s' => hCX w H s₁ e s'
end L2
namespace L2
open PySem PySem.Spec PyProof.Rows
noncomputable def zbE (s : Stmt) : Arguments := match s with
  | .FunctionDef _ a _ _ _ _ _ _ _ _ => a
  | _ => { posonlyargs := [],args := [],vararg := none,kwonlyargs := [],kw_defaults := [],kwarg := none,defaults := [] }
noncomputable def zaT (s : Stmt) : List Stmt := match s with
  | .FunctionDef _ _ b _ _ _ _ _ _ _ => b
  | _ => []
noncomputable def zab (s : Stmt) : Scope := match s with
  | .FunctionDef _ _ _ _ _ _ sc _ _ _ => sc
  | _ => { kind := .function,names := [],isGenerator := false,isCoroutine := false }
noncomputable abbrev CX0 : CXT := fun _ _ _ _ _ _ => False
noncomputable abbrev E0 : XK := fun _ _ _ => False
theorem zlP {X : Cx} : zll CX0 X E0 := fun _ _ _ _ _ _ _ h => h.elim
structure Fun (K : PySem.W.Frag) (x qual : Str) (st : Stmt) (f : Addr) (fd : FuncData) : Prop where
  ex : ∃ (oc : Value) (od : Option Addr) (kV doc pm : Value) (an : Option Addr) (cdv ct : Value) (osl : Array (Option Value)),
    fd = PySem.W.fnOf x qual (zbE st) (zaT st) (zab st) .none kV doc pm an cdv ct∧K.lookup f = some ⟨oc,od,.func fd,osl⟩∧PySem.W.codeIn K cdv qual = true
  kp : PySem.W.keepIn K (.ref f) = true
section
variable {P : Program} {w : World} {K : PySem.W.Frag} {mg : Str → Option Value} {base : Heap}
theorem Fun.ok {x qual : Str} {st : Stmt} {f : Addr} {fd : FuncData} {N ps : List Str} {k : Nat} {sp : Sp} (F : Fun K x qual st f fd) (S : FnScope N ps (zab st)) (len : ∀ vs H Q E,sp vs H Q E→vs.length = ps.length)
    (hbody : ∀ (cdv : Value) (A : Around) (outer : List Env) (s : Shared) (H : Hp) (vs : List V) (Q : VK) (E : XK),Room k (A.deeper (envOfC qual (zab st) s.heap.objs.size f cdv))→sp vs H Q E →
      ∃ t,PSs (cxOf CX0 P w K mg base N qual (zab st) f cdv A outer s H E).nox (zaT st) t∧t { nx := fun _ H' => Q .non H',rt := Q } (start N vs) H) : FnOk P w K mg base CX0 (k + 1) f fd ps sp := by
  obtain ⟨oc,od,kV,doc,pm,an,cdv,ct,osl,rfl,lk,hcd⟩ := F.ex
  refine zqd lk hcd S len fun A outer s H vs Q E hr hsp => ?_
  obtain ⟨t,h,q⟩ := hbody cdv A outer s H vs Q E hr hsp
  exact ⟨t,h.nox,q⟩
theorem Fun.binds {x qual : Str} {st : Stmt} {f : Addr} {fd : FuncData} {ps : List Str} (F : Fun K x qual st f fd)
    (h : ∀ (kV doc pm : Value) (an : Option Addr) (cdv ct : Value) (us : List Value),us.length = ps.length→bindArgs (PySem.W.fnOf x qual (zbE st) (zaT st) (zab st) .none kV doc pm an cdv ct) ⟨us,[]⟩ = pure (ps.zip us)) : zfO K fd ps [] := by
  obtain ⟨oc,od,kV,doc,pm,an,cdv,ct,osl,rfl,lk,hcd⟩ := F.ex
  exact .all (h kV doc pm an cdv ct)
theorem zqb {x qual : Str} {st : Stmt} {f : Addr} {oc : Value} {od an : Option Addr} {osl : Array (Option Value)} {kV doc pm cdv ct : Value} (l : K.lookup f = some ⟨oc,od,.func (PySem.W.fnOf x qual (zbE st) (zaT st) (zab st) .none kV doc pm an cdv ct),osl⟩)
    (c : PySem.W.codeIn K cdv qual = true) (k : PySem.W.keepIn K (.ref f) = true) : Fun K x qual st f (PySem.W.fnOf x qual (zbE st) (zaT st) (zab st) .none kV doc pm an cdv ct) := ⟨⟨oc,od,kV,doc,pm,an,cdv,ct,osl,rfl,l,c⟩,k⟩
end
theorem zbc {A : Around} {k : Nat} (hr : Room k A) : A.units + 1 < cLine := Nat.lt_of_le_of_lt (Nat.add_le_add_left (by decide : 1≤64) _) hr.units
section
variable {X : Cx}
theorem zlg : zcO X (.builtin "len") (fun xs H Q => ∃ a kvs,xs = [V.ref a]∧Rd H a (.dK kvs)∧Q (.int kvs.length) H) := by
  intro pins s σ H xs us Q I r h
  obtain ⟨a,kvs,rfl,ha,q⟩ := h
  obtain ⟨u,rfl,ru⟩ := zeb r
  cases ru
  exact zrD I ha fun t s' I' => ⟨.int kvs.length,H,I',⟨t,rfl⟩,q⟩
end
noncomputable def Same (H H' : Hp) : Prop := ∀ b o,H b = some o→H' b = some o
theorem Same.refl (H : Hp) : Same H H := fun _ _ h => h
theorem Same.trans {H H1 H2 : Hp} (a : Same H H1) (b : Same H1 H2) : Same H H2 := fun c o h => b c o (a c o h)
theorem Same.free {H H' : Hp} (e : Same H H') {l : Addr} (h : H' l = Option.none) : H l = Option.none := by
  cases q : H l with
  | none => rfl
  | some o =>
    rw [e l o q] at h
    cases h
theorem Same.seq {K : PySem.W.Frag} {H H' : Hp} {a : Addr} {xs : List V} (e : Same H H') (h : SqL K H a xs) : SqL K H' a xs := by
  rcases h with (h | ⟨o,h⟩) | h
  · exact .inl (.inl (e _ _ h))
  · exact .inl (.inr ⟨o,e _ _ h⟩)
  · exact .inr h
section
variable {κ : Type} [DecidableEq κ]
end
end L2
end
section
namespace DL
open PySem
open PySem.SeqAt
open PySem.AutoSeq1 (wpAny_loadPart')
open PySem.MeetsSeq PySem.MeetsSeq2 PySem.MeetsSeq3
end DL
end
section
namespace DL
open PySem PyProof.Rows
section
variable {prog : Program} {w : World} {A : Around} {E : Value → Shared → Prop} {s : Shared}
end
end DL
end
section
namespace DL
open PySem PyProof.Rows PySem.W
noncomputable def zm2 {α : Type} (c : Nat→Nat→Bool) : KasT α→α
  | .ret a => a
  | .ask i j k => zm2 c (k (c i j))
inductive Asks (n : Nat) {α : Type} (P : α→Prop) : KasT α→Prop where
  | ret {a : α} : P a→Asks n P (.ret a)
  | ask {i j : Nat} {k : Bool→KasT α} : i < n→j < n→(∀ b,Asks n P (k b))→Asks n P (.ask i j k)
theorem Asks.bind {n : Nat} {α β : Type} {P : α→Prop} {P' : β→Prop} {t : KasT α} {f : α→KasT β} (h : Asks n P t) (hf : ∀ a,P a→Asks n P' (f a)) : Asks n P' (t.bind f) := by
  induction h with
  | ret h => exact hf _ h
  | ask h1 h2 _ ih => exact .ask h1 h2 ih
theorem Asks.run {n : Nat} {α : Type} {P : α→Prop} {t : KasT α} (h : Asks n P t) (c : Nat→Nat→Bool) : P (zm2 c t) := by
  induction h with
  | ret h => exact h
  | ask _ _ _ ih => exact ih _
theorem Asks.mono {n : Nat} {α : Type} {P P' : α→Prop} {t : KasT α} (h : Asks n P t) (hp : ∀ a,P a→P' a) : Asks n P' t := by
  induction h with
  | ret h => exact .ret (hp _ h)
  | ask h1 h2 _ ih => exact .ask h1 h2 ih
section
variable {n : Nat} (hn : 0 < n)
include hn
end
end DL
end
section
namespace DL
open PySem PyProof.Rows PySem.W PySem.Calls
section
variable {prog : Program} {w : World} {A : Around} {E : Value → Shared → Prop} {s : Shared}
end
end DL
end
section
namespace DL
open PySem PySem.Spec PyProof.Rows L2
inductive D where
  | non | bl (b : Bool) | int (i : Int) | str (x : Str)
  | tup (ds : List D) | lst (ds : List D)
  | dic (kvs : List (Key × D))
  | obj (c : Nat) (fs : List (Str × D))
instance : Inhabited D := ⟨.non⟩
inductive Res (α : Type) where
  | ok (a : α) | exc (x : D) | stuck
noncomputable def Res.bind {α β : Type} (r : Res α) (f : α→Res β) : Res β := match r with
  | .ok a => f a
  | .exc x => .exc x
  | .stuck => .stuck
@[simp] theorem bind_ok {α β : Type} (a : α) (f : α→Res β) : (Res.ok a).bind f = f a := rfl
@[simp] theorem bind_exc {α β : Type} (x : D) (f : α→Res β) : (Res.exc x : Res α).bind f = .exc x := rfl
@[simp] theorem bind_stuck {α β : Type} (f : α→Res β) : (Res.stuck : Res α).bind f = .stuck := rfl
noncomputable def fin {α : Type} (r : Res α) (q : α→Prop) (x : D→Prop) : Prop := match r with
  | .ok a => q a
  | .exc e => x e
  | .stuck => False
theorem zah {α : Type} {r : Res α} {q q' : α→Prop} {x : D→Prop} (h : fin r q x) (hq : ∀ a,q a→q' a) : fin r q' x := by
  cases r with
  | ok a => exact hq a h
  | exc e => exact h
  | stuck => exact h
theorem zaf {α β : Type} {r : Res α} {f : α→Res β} {q : β→Prop} {x : D→Prop} (h : fin (r.bind f) q x) : fin r (fun a => fin (f a) q x) x := by
  cases r with
  | ok a => exact h
  | exc e => exact h
  | stuck => exact h
noncomputable abbrev GH := Addr→Option D
inductive Scl : V→D→Prop where
  | non : Scl .non .non
  | bl (b : Bool) : Scl (.bl b) (.bl b)
  | int (i : Int) : Scl (.int i) (.int i)
  | str (x : Str) : Scl (.str x) (.str x)
inductive KC (K : PySem.W.Frag) (a : Addr) : D→Prop where
  | lst {xs : List V} {ds : List D} : SqL K (fun _ => none) a xs→Paired Scl xs ds→KC K a (.lst ds)
  | tup {xs : List V} {ds : List D} : SqT K (fun _ => none) a xs→Paired Scl xs ds→(∃ o,K.lookup a = some o∧o.cls = .type "tuple"∧o.dict = none)→KC K a (.tup ds)
inductive RG (K : PySem.W.Frag) (G : GH) : V→D→Prop where
  | scl {v : V} {d : D} : Scl v d→RG K G v d
  | ref {a : Addr} {d : D} : G a = some d→RG K G (.ref a) d
  | kc {a : Addr} {d : D} : KC K a d→RG K G (.ref a) d
noncomputable abbrev RGs (K : PySem.W.Frag) (G : GH) : List V→List D→Prop := Paired (RG K G)
noncomputable abbrev RKs (K : PySem.W.Frag) (G : GH) : List (Key × V)→List (Key × D)→Prop := Paired fun p q => p.1 = q.1∧RG K G p.2 q.2
inductive OB (K : PySem.W.Frag) (G : GH) (H : Hp) (a : Addr) : D→Prop where
  | lst {xs : List V} {ds : List D} : Rd H a (.lst xs)→RGs K G xs ds→OB K G H a (.lst ds)
  | tup {xs : List V} {ds : List D} : Rd H a (.tup xs)→RGs K G xs ds→OB K G H a (.tup ds)
  | dic {ob : Obj} {ps : List (Key × V)} {kvs : List (Key × D)} : H a = some (.frz ob (.dK ps))→RKs K G ps kvs→OB K G H a (.dic kvs)
noncomputable def GOk (K : PySem.W.Frag) (G : GH) (H : Hp) : Prop := ∀ a d,G a = some d→OB K G H a d
inductive OwnO (K : PySem.W.Frag) (G : GH) (H : Hp) (a : Addr) : D→Prop where
  | lst {xs : List V} {ds : List D} : H a = some (.lst xs)→RGs K G xs ds→OwnO K G H a (.lst ds)
  | dic {ps : List (Key × V)} {kvs : List (Key × D)} : H a = some (.dK ps)→RKs K G ps kvs→OwnO K G H a (.dic kvs)
structure Own (K : PySem.W.Frag) (G : GH) (H : Hp) (a : Addr) (d : D) : Prop where
  un : G a = none
  ob : OwnO K G H a d
structure Grow (K : PySem.W.Frag) (G : GH) (H : Hp) (G' : GH) (H' : Hp) : Prop where
  ok : GOk K G' H'
  he : ∀ a o,H a = some o→H' a = some o
  ge : ∀ a d,G a = some d→G' a = some d
  gf : ∀ a,H a≠none→G' a = G a
section
variable {K : PySem.W.Frag} {G G' G1 G2 : GH} {H H' H1 H2 : Hp} {a p : Addr} {d : D} {v : V}
theorem Rd.mono {u : HO} (h : Rd H a u) (he : ∀ a o,H a = some o→H' a = some o) : Rd H' a u := by
  rcases h with h | ⟨o,h⟩
  · exact .inl (he _ _ h)
  · exact .inr ⟨o,he _ _ h⟩
theorem Rd.isS {u : HO} (h : Rd H a u) : H a≠none := by
  rcases h with h | ⟨o,h⟩ <;> rw [h] <;> simp
theorem RG.mono (h : RG K G v d) (ge : ∀ a d,G a = some d→G' a = some d) : RG K G' v d := by
  cases h with
  | scl s => exact .scl s
  | ref e => exact .ref (ge _ _ e)
  | kc k => exact .kc k
theorem RGs.mono {xs : List V} {ds : List D} (h : RGs K G xs ds) (ge : ∀ a d,G a = some d→G' a = some d) : RGs K G' xs ds := Paired.mono (fun _ _ r => r.mono ge) h
theorem RKs.mono {xs : List (Key × V)} {ds : List (Key × D)} (h : RKs K G xs ds) (ge : ∀ a d,G a = some d→G' a = some d) : RKs K G' xs ds := Paired.mono (fun _ _ r => ⟨r.1,r.2.mono ge⟩) h
theorem OB.mono (h : OB K G H a d) (ge : ∀ a d,G a = some d→G' a = some d) (he : ∀ o,H a = some o→H' a = some o) : OB K G' H' a d := by
  have rd : ∀ {u : HO},Rd H a u→Rd H' a u := fun r => by
    rcases r with r | ⟨o,r⟩
    · exact .inl (he _ r)
    · exact .inr ⟨o,he _ r⟩
  cases h with
  | lst r s => exact .lst (rd r) (s.mono ge)
  | tup r s => exact .tup (rd r) (s.mono ge)
  | dic r s => exact .dic (he _ r) (RKs.mono s ge)
theorem OB.isS (h : OB K G H a d) : H a≠none := by
  cases h with
  | lst r s => exact Rd.isS r
  | tup r s => exact Rd.isS r
  | dic r s => rw [r]; simp
theorem GOk.isN (g : GOk K G H) (h : H p = none) : G p = none := by
  cases e : G p with
  | none => rfl
  | some d => exact absurd h (g p d e).isS
theorem OwnO.isS (h : OwnO K G H a d) : H a≠none := by
  cases h with
  | lst r s => rw [r]; simp
  | dic r s => rw [r]; simp
theorem OwnO.mono (h : OwnO K G H a d) (ge : ∀ a d,G a = some d→G' a = some d) (he : ∀ o,H a = some o→H' a = some o) : OwnO K G' H' a d := by
  cases h with
  | lst r s => exact .lst (he _ r) (s.mono ge)
  | dic r s => exact .dic (he _ r) (RKs.mono s ge)
theorem Own.mono (h : Own K G H a d) (w : Grow K G H G' H') : Own K G' H' a d :=
  ⟨by rw [w.gf a h.ob.isS]; exact h.un,h.ob.mono w.ge fun o e => w.he _ _ e⟩
noncomputable def fz (H : Hp) (a : Addr) (ob : Obj) : Hp := match H a with
  | some (.dK ps) => upd H a (.frz ob (.dK ps))
  | _ => H
theorem zkU {b : Addr} {ob : Obj} (h : b≠a) : fz H a ob b = H b := by
  unfold fz
  cases e : H a with
  | none => rfl
  | some u => cases u <;> first | rfl | exact zay h
theorem zp9 {xs : List V} {ob : Obj} (h : H a = some (.lst xs)) : fz H a ob = H := by
  unfold fz
  rw [h]
theorem zqa {ps : List (Key × V)} {ob : Obj} (h : H a = some (.dK ps)) : fz H a ob a = some (.frz ob (.dK ps)) := by
  unfold fz
  rw [h]; exact zam
theorem OwnO.fast (h : OwnO K G H a d) (ob : Obj) : OB K G (fz H a ob) a d := by
  cases h with
  | lst r s => rw [zp9 r]; exact .lst (.inl r) s
  | dic r s => exact .dic (zqa r) s
theorem GOk.fast (g : GOk K G H) (hn : G a = none) (ob : Obj) : GOk K G (fz H a ob) := fun b d e => by
  have hb : b≠a := by rintro rfl; rw [hn] at e; cases e
  exact (g b d e).mono (fun _ _ z => z) fun o z => by rw [zkU hb]; exact z
theorem Grow.refl (g : GOk K G H) : Grow K G H G H := ⟨g,fun _ _ e => e,fun _ _ e => e,fun _ _ => rfl⟩
theorem Grow.trans (x : Grow K G H G1 H1) (y : Grow K G1 H1 G2 H2) : Grow K G H G2 H2 :=
  ⟨y.ok,fun a o e => y.he _ _ (x.he _ _ e),fun a d e => y.ge _ _ (x.ge _ _ e),fun a h => by
    have h1 : H1 a≠Option.none := by
      cases e : H a with
      | none => exact absurd e h
      | some o => rw [x.he _ _ e]; simp
    rw [y.gf a h1,x.gf a h]⟩
noncomputable def gset (G : GH) (a : Addr) (d : D) : GH := fun b => if b = a then some d else G b
theorem zat : gset G a d a = some d := if_pos rfl
theorem za4 {b : Addr} (h : b≠a) : gset G a d b = G b := if_neg h
theorem zaR (hn : G a = none) : ∀ b e,G b = some e→gset G a d b = some e := fun b e h => by
  have : b≠a := by rintro rfl; rw [hn] at h; cases h
  rw [za4 this]; exact h
theorem GOk.gset (g : GOk K G H) (hn : G a = none) (o : OB K G H a d) : GOk K (gset G a d) H := fun b e h => by
  by_cases hb : b = a
  · subst hb; rw [zat] at h; cases h
    exact o.mono (zaR hn) fun _ q => q
  · rw [za4 hb] at h
    exact (g b e h).mono (zaR hn) fun _ q => q
theorem zju (hn : H p = none) {o : HO} : ∀ a u,H a = some u→upd H p o a = some u := fun a u e => by
  rw [zay (zbp e hn)]; exact e
theorem Grow.new (g : GOk K G H) (hn : H p = none) (o : HO) : Grow K G H G (upd H p o) :=
  ⟨fun a d e => (g a d e).mono (fun _ _ q => q) fun u q => zju hn _ _ q,fun a u e => zju hn _ _ e,fun _ _ e => e,fun _ _ => rfl⟩
theorem Grow.newF (g : GOk K G H) (hn : H p = none) {o : HO} (ob : OB K G (upd H p o) p d) : Grow K G H (gset G p d) (upd H p o) := by
  have w := Grow.new g hn o
  have gn := g.isN hn
  exact ⟨w.ok.gset gn ob,w.he,fun a e h => zaR gn a e h,fun a h => za4 (by rintro rfl; exact h hn)⟩
theorem Grow.frz (w : Grow K G H G' H') (hn : H a = none) (o : Own K G' H' a d) (ob : Obj) : Grow K G H (gset G' a d) (fz H' a ob) :=
  ⟨(w.ok.fast o.un ob).gset o.un (o.ob.fast ob),fun b u e => by rw [zkU (by rintro rfl; rw [hn] at e; cases e)]; exact w.he b u e,fun b e h => zaR o.un b e (w.ge b e h),fun b h => by rw [za4 (by rintro rfl; exact h hn)]; exact w.gf b h⟩
theorem RG.lst {ds : List D} (g : GOk K G H) (h : RG K G v (.lst ds)) : ∃ a xs,v = .ref a∧SqL K H a xs∧RGs K G xs ds := by
  cases h with
  | scl s => cases s
  | ref e =>
    cases g _ _ e with
    | lst r s => exact ⟨_,_,rfl,.inl r,s⟩
  | kc k =>
    cases k with
    | lst r s =>
      refine ⟨_,_,rfl,?_,Paired.mono (fun _ _ z => .scl z) s⟩
      rcases r with (r | ⟨o,r⟩) | r
      · cases r
      · cases r
      · exact .inr r
theorem RG.tup {ds : List D} (g : GOk K G H) (h : RG K G v (.tup ds)) : ∃ a xs,v = .ref a∧SqT K H a xs∧RGs K G xs ds := by
  cases h with
  | scl s => cases s
  | ref e =>
    cases g _ _ e with
    | tup r s => exact ⟨_,_,rfl,.inl r,s⟩
  | kc k =>
    cases k with
    | tup r s _ =>
      refine ⟨_,_,rfl,?_,Paired.mono (fun _ _ z => .scl z) s⟩
      rcases r with (r | ⟨o,r⟩) | r
      · cases r
      · cases r
      · exact .inr r
theorem RG.dic {kvs : List (Key × D)} (g : GOk K G H) (h : RG K G v (.dic kvs)) : ∃ a ps,v = .ref a∧Rd H a (.dK ps)∧RKs K G ps kvs := by
  cases h with
  | scl s => cases s
  | ref e =>
    cases g _ _ e with
    | dic r s => exact ⟨_,_,rfl,.inr ⟨_,r⟩,s⟩
  | kc k => cases k
theorem RG.int {i : Int} (g : GOk K G H) (h : RG K G v (.int i)) : v = .int i := by
  cases h with
  | scl s => cases s; rfl
  | ref e => cases g _ _ e
  | kc k => cases k
theorem RG.str {x : Str} (g : GOk K G H) (h : RG K G v (.str x)) : v = .str x := by
  cases h with
  | scl s => cases s; rfl
  | ref e => cases g _ _ e
  | kc k => cases k
theorem RG.bl {b : Bool} (g : GOk K G H) (h : RG K G v (.bl b)) : v = .bl b := by
  cases h with
  | scl s => cases s; rfl
  | ref e => cases g _ _ e
  | kc k => cases k
theorem RG.non (g : GOk K G H) (h : RG K G v .non) : v = .non := by
  cases h with
  | scl s => cases s; rfl
  | ref e => cases g _ _ e
  | kc k => cases k
noncomputable def RB (K : PySem.W.Frag) (G : GH) (H : Hp) (v : V) (d : D) : Prop := RG K G v d∨∃ a,v = .ref a∧Own K G H a d
theorem RG.rb (h : RG K G v d) : RB K G H v d := .inl h
theorem RB.mono (h : RB K G H v d) (w : Grow K G H G' H') : RB K G' H' v d := by
  rcases h with h | ⟨a,e,h⟩
  · exact .inl (h.mono w.ge)
  · exact .inr ⟨a,e,h.mono w⟩
theorem RB.lst {ds : List D} (g : GOk K G H) (h : RB K G H v (.lst ds)) : ∃ a xs,v = .ref a∧SqL K H a xs∧RGs K G xs ds := by
  rcases h with h | ⟨a,e,h⟩
  · exact h.lst g
  · cases h.ob with
    | lst r s => exact ⟨a,_,e,SqL.of r,s⟩
theorem RB.tup {ds : List D} (g : GOk K G H) (h : RB K G H v (.tup ds)) : ∃ a xs,v = .ref a∧SqT K H a xs∧RGs K G xs ds := by
  rcases h with h | ⟨a,e,h⟩
  · exact h.tup g
  · cases h.ob
theorem RB.dic {kvs : List (Key × D)} (g : GOk K G H) (h : RB K G H v (.dic kvs)) : ∃ a ps,v = .ref a∧Rd H a (.dK ps)∧RKs K G ps kvs := by
  rcases h with h | ⟨a,e,h⟩
  · exact h.dic g
  · cases h.ob with
    | dic r s => exact ⟨a,_,e,.inl r,s⟩
theorem RB.int {i : Int} (g : GOk K G H) (h : RB K G H v (.int i)) : v = .int i := by
  rcases h with h | ⟨a,e,h⟩
  · exact h.int g
  · cases h.ob
theorem RB.str {x : Str} (g : GOk K G H) (h : RB K G H v (.str x)) : v = .str x := by
  rcases h with h | ⟨a,e,h⟩
  · exact h.str g
  · cases h.ob
theorem RB.bl {b : Bool} (g : GOk K G H) (h : RB K G H v (.bl b)) : v = .bl b := by
  rcases h with h | ⟨a,e,h⟩
  · exact h.bl g
  · cases h.ob
theorem RB.non (g : GOk K G H) (h : RB K G H v .non) : v = .non := by
  rcases h with h | ⟨a,e,h⟩
  · exact h.non g
  · cases h.ob
theorem Paired.get {α β : Type} {F : α→β→Prop} : ∀ {l : List α} {r : List β} {i : Nat} {b : β},Paired F l r→r[i]? = some b→∃ a,l[i]? = some a∧F a b
  | _,_,_,_,.nil,e => by simp at e
  | _,_,0,_,.cons h _,e => by simp at e; subst e; exact ⟨_,rfl,h⟩
  | _,_,i + 1,b,.cons _ t,e => by
    obtain ⟨a,h1,h2⟩ := Paired.get (i := i) t (by simpa using e)
    exact ⟨a,by simpa using h1,h2⟩
theorem Paired.app {α β : Type} {F : α→β→Prop} {l l' : List α} {r r' : List β} (h : Paired F l r) (q : Paired F l' r') : Paired F (l++l') (r++r') := by
  induction h with
  | nil => exact q
  | cons h _ ih => exact .cons h ih
theorem Paired.tk {α β : Type} {F : α→β→Prop} {l : List α} {r : List β} (n : Nat) (h : Paired F l r) : Paired F (l.take n) (r.take n) := by
  induction h generalizing n with
  | nil => cases n <;> exact .nil
  | cons h _ ih => cases n with
    | zero => exact .nil
    | succ n => exact .cons h (ih n)
theorem Paired.dr {α β : Type} {F : α→β→Prop} {l : List α} {r : List β} (n : Nat) (h : Paired F l r) : Paired F (l.drop n) (r.drop n) := by
  induction h generalizing n with
  | nil => cases n <;> exact .nil
  | cons h t ih => cases n with
    | zero => exact .cons h t
    | succ n => exact ih n
theorem Paired.st {α β : Type} {F : α→β→Prop} {a : α} {b : β} (h : F a b) {l : List α} {r : List β} (n : Nat) (p : Paired F l r) : Paired F (l.set n a) (r.set n b) := by
  induction p generalizing n with
  | nil => exact .nil
  | cons q t ih => cases n with
    | zero => exact .cons h t
    | succ n => exact .cons q (ih n)
theorem Paired.er {α β : Type} {F : α→β→Prop} {l : List α} {r : List β} (n : Nat) (p : Paired F l r) : Paired F (l.eraseIdx n) (r.eraseIdx n) := by
  induction p generalizing n with
  | nil => exact .nil
  | cons q t ih => cases n with
    | zero => exact t
    | succ n => exact .cons q (ih n)
end
inductive Md where
  | sh | ow | bw
  deriving DecidableEq
noncomputable abbrev Rho := List (Option D)
structure GE where
  gh : GH
  h0 : Hp
  hd : Nat→Option (Option V × Option D)
noncomputable def Bw (K : PySem.W.Frag) (h0 : Hp) (G : GH) (H : Hp) (v : V) (d : D) : Prop := RG K G v d∨∃ a,v = V.ref a∧Own K G H a d∧h0 a≠none
theorem Bw.grow {K : PySem.W.Frag} {h0 : Hp} {G G' : GH} {H H' : Hp} {v : V} {d : D} (h : Bw K h0 G H v d) (w : Grow K G H G' H') : Bw K h0 G' H' v d := by
  rcases h with h | ⟨a,e,h1,h2⟩
  · exact .inl (h.mono w.ge)
  · exact .inr ⟨a,e,h1.mono w,h2⟩
theorem Bw.rb {K : PySem.W.Frag} {h0 : Hp} {G : GH} {H : Hp} {v : V} {d : D} (h : Bw K h0 G H v d) : RB K G H v d := by
  rcases h with h | ⟨a,e,h1,h2⟩
  · exact .inl h
  · exact .inr ⟨a,e,h1⟩
noncomputable def Lk (r : Rho) (st : L2.St) (i : Nat) (o : Option V × Option D) : Prop := st[i]? = some o.1∧∀ d,r[i]? = some (some d)→o.2 = some d
structure SI (X : Cx) (g : GE) (m : List Md) (r : Rho) (G : GH) (st : L2.St) (H : Hp) : Prop where
  gok : GOk X.K G H
  old : ∀ a o,g.h0 a = some o→H a = some o
  ge : ∀ a d,g.gh a = some d→G a = some d
  gf : ∀ a,g.h0 a≠none→G a = g.gh a
  lm : m.length = st.length
  lr : r.length = st.length
  sh : ∀ (i : Nat) d,r[i]? = some (some d)→m[i]? = some .sh→∃ v,st[i]? = some (some v)∧RG X.K G v d
  ow : ∀ (i : Nat) d,r[i]? = some (some d)→m[i]? = some .ow→∃ a,st[i]? = some (some (V.ref a))∧Own X.K G H a d∧g.h0 a = none
  bw : ∀ (i : Nat) d,r[i]? = some (some d)→m[i]? = some .bw→∃ v,st[i]? = some (some v)∧Bw X.K g.h0 G H v d
  dis : ∀ (i j : Nat) a d e,i≠j→r[i]? = some (some d)→r[j]? = some (some e)→m[i]? = some .ow→m[j]? = some .ow→st[i]? = some (some (V.ref a))→st[j]? = some (some (V.ref a))→False
  lk : ∀ (i : Nat) o,g.hd i = some o→m[i]? = some .bw→Lk r st i o
section
variable {X : Cx} {g : GE} {m : List Md} {r : Rho} {G G' : GH} {st : L2.St} {H H' : Hp}
theorem SI.grow (s : SI X g m r G st H) (w : Grow X.K G H G' H') : SI X g m r G' st H' where
  gok := w.ok
  old := fun a o e => w.he _ _ (s.old a o e)
  ge := fun a d e => w.ge _ _ (s.ge a d e)
  gf := fun a h => by
    have h1 : H a≠none := by
      cases e : g.h0 a with
      | none => exact absurd e h
      | some o => rw [s.old _ _ e]; simp
    rw [w.gf a h1,s.gf a h]
  lm := s.lm
  lr := s.lr
  sh := fun i d h1 h2 => by obtain ⟨v,h3,h4⟩ := s.sh i d h1 h2; exact ⟨v,h3,h4.mono w.ge⟩
  ow := fun i d h1 h2 => by obtain ⟨a,h3,h4,h5⟩ := s.ow i d h1 h2; exact ⟨a,h3,h4.mono w,h5⟩
  bw := fun i d h1 h2 => by obtain ⟨v,h3,h4⟩ := s.bw i d h1 h2; exact ⟨v,h3,h4.grow w⟩
  dis := s.dis
  lk := s.lk
theorem SI.grown (s : SI X g m r G st H) : Grow X.K g.gh g.h0 G H := ⟨s.gok,s.old,s.ge,s.gf⟩
theorem SI.frz (s : SI X g m r G st H) (i : Nat) (hi : m[i]? = some .ow) : (∃ G',(∀ a d,G a = some d→G' a = some d)∧SI X g (m.set i .sh) r G' st H)∨∃ a,∀ ob,∃ G',(∀ a d,G a = some d→G' a = some d)∧SI X g (m.set i .sh) r G' st (fz H a ob) := by
  have hlt : i < m.length := (List.getElem?_eq_some_iff.mp hi).1
  by_cases hb : ∃ d,r[i]? = some (some d)
  · obtain ⟨d,hd⟩ := hb
    obtain ⟨a,h1,h2,h3⟩ := s.ow i d hd hi
    refine .inr ⟨a,fun ob => ⟨gset G a d,zaR h2.un,(s.gok.fast h2.un ob).gset h2.un (h2.ob.fast ob),fun b o e => by rw [zkU (by rintro rfl; rw [h3] at e; cases e)]; exact s.old b o e,fun b e h => zaR h2.un b e (s.ge b e h),fun b h => ?_,by simpa using s.lm,s.lr,?_,?_,?_,?_,fun j o hj hm => ?_⟩⟩
    · rw [za4 (by rintro rfl; exact h h3)]; exact s.gf b h
    · intro j e hj hm
      by_cases hij : i = j
      · subst hij
        rw [hd] at hj; cases hj
        exact ⟨_,h1,.ref zat⟩
      · rw [List.getElem?_set_ne hij] at hm
        obtain ⟨v,q1,q2⟩ := s.sh j e hj hm
        exact ⟨v,q1,q2.mono (zaR h2.un)⟩
    · intro j e hj hm
      by_cases hij : i = j
      · subst hij
        rw [List.getElem?_set_self hlt] at hm; cases hm
      · rw [List.getElem?_set_ne hij] at hm
        obtain ⟨b,q1,q2,q3⟩ := s.ow j e hj hm
        have hba : b≠a := by
          rintro rfl
          exact s.dis i j b d e hij hd hj hi hm h1 q1
        exact ⟨b,q1,⟨by rw [za4 hba]; exact q2.un,q2.ob.mono (zaR h2.un) fun _ z => by rw [zkU hba]; exact z⟩,q3⟩
    · intro j e hj hm
      by_cases hij : i = j
      · subst hij
        rw [List.getElem?_set_self hlt] at hm; cases hm
      · rw [List.getElem?_set_ne hij] at hm
        obtain ⟨v,q1,q2⟩ := s.bw j e hj hm
        refine ⟨v,q1,?_⟩
        rcases q2 with q2 | ⟨b,rfl,q2,q3⟩
        · exact .inl (q2.mono (zaR h2.un))
        · have hba : b≠a := by rintro rfl; exact q3 h3
          exact .inr ⟨b,rfl,⟨by rw [za4 hba]; exact q2.un,q2.ob.mono (zaR h2.un) fun _ z => by rw [zkU hba]; exact z⟩,q3⟩
    · intro j k b e e' hjk hj hk hm hm' q1 q2
      have hij : i≠j := by
        rintro rfl
        rw [List.getElem?_set_self hlt] at hm; cases hm
      have hik : i≠k := by
        rintro rfl
        rw [List.getElem?_set_self hlt] at hm'; cases hm'
      rw [List.getElem?_set_ne hij] at hm
      rw [List.getElem?_set_ne hik] at hm'
      exact s.dis j k b e e' hjk hj hk hm hm' q1 q2
    · refine s.lk j o hj ?_
      by_cases hij : i = j
      · subst hij; rw [List.getElem?_set_self hlt] at hm; cases hm
      · rw [List.getElem?_set_ne hij] at hm; exact hm
  · refine .inl ⟨G,fun _ _ z => z,s.gok,s.old,s.ge,s.gf,by simpa using s.lm,s.lr,?_,?_,?_,?_,fun j o hj hm => ?_⟩
    · intro j e hj hm
      have hij : i≠j := by rintro rfl; exact hb ⟨e,hj⟩
      rw [List.getElem?_set_ne hij] at hm
      exact s.sh j e hj hm
    · intro j e hj hm
      have hij : i≠j := by rintro rfl; exact hb ⟨e,hj⟩
      rw [List.getElem?_set_ne hij] at hm
      exact s.ow j e hj hm
    · intro j e hj hm
      have hij : i≠j := by rintro rfl; exact hb ⟨e,hj⟩
      rw [List.getElem?_set_ne hij] at hm
      exact s.bw j e hj hm
    · intro j k b e e' hjk hj hk hm hm' q1 q2
      have hij : i≠j := by rintro rfl; exact hb ⟨e,hj⟩
      have hik : i≠k := by rintro rfl; exact hb ⟨e',hk⟩
      rw [List.getElem?_set_ne hij] at hm
      rw [List.getElem?_set_ne hik] at hm'
      exact s.dis j k b e e' hjk hj hk hm hm' q1 q2
    · refine s.lk j o hj ?_
      by_cases hij : i = j
      · subst hij; rw [List.getElem?_set_self hlt] at hm; cases hm
      · rw [List.getElem?_set_ne hij] at hm; exact hm
end
end DL
end
section
namespace DL
open PySem PySem.Spec PyProof.Rows L2
theorem PE.imp {X : Cx} {e : Expr} {t t' : TE} (h : PE X e t) (i : ∀ σ H Q,t' σ H Q→t σ H Q) : PE X e t' := fun pins s σ H Q I q => h pins s σ H Q I (i σ H Q q)
theorem PT.imp {X : Cx} {e : Expr} {t t' : TT} (h : PT X e t) (i : ∀ σ H Q,t' σ H Q→t σ H Q) : PT X e t' := fun pins s σ H Q I q => h pins s σ H Q I (i σ H Q q)
theorem PW.imp {X : Cx} {e : Expr} {t t' : TT} (h : PW X e t) (i : ∀ σ H Q,t' σ H Q→t σ H Q) : PW X e t' := fun whole pins s σ H Q I q => h whole pins s σ H Q I (i σ H Q q)
theorem PA.imp {X : Cx} {e : List Expr} {t t' : TA} (h : PA X e t) (i : ∀ σ H Q,t' σ H Q→t σ H Q) : PA X e t' := fun pos pins s σ H Q I q => h pos pins s σ H Q I (i σ H Q q)
theorem PS.imp {X : Cx} {e : Stmt} {t t' : TS} (h : PS X e t) (i : ∀ D σ H,t' D σ H→t D σ H) : PS X e t' := fun pins s σ H D I q => h pins s σ H D I (i D σ H q)
theorem PSs.imp {X : Cx} {e : List Stmt} {t t' : TS} (h : PSs X e t) (i : ∀ D σ H,t' D σ H→t D σ H) : PSs X e t' := fun pins s σ H D I q => h pins s σ H D I (i D σ H q)
noncomputable def ExV (_X : Cx) (_G : GH) (_H : Hp) (_e : Value) (_x : D) : Prop := False
noncomputable def XW (X : Cx) (σ : L2.St) (G : GH) (H : Hp) (x : D) : Prop := ∀ pins e s' G' H',Grow X.K G H G' H'→Inv X pins σ H' s'→ExV X G' H' e x→X.xe e s'
theorem XW.grow {X : Cx} {σ : L2.St} {G G1 : GH} {H H1 : Hp} {x : D} (h : XW X σ G H x) (w : Grow X.K G H G1 H1) : XW X σ G1 H1 x := fun pins e s' G' H' w' I q => h pins e s' G' H' (w.trans w') I q
noncomputable abbrev FE := Rho→Res D
noncomputable def tE (X : Cx) (g : GE) (m : List Md) (f : FE) : TE := fun σ H Q => ∃ r G,SI X g m r G σ H∧fin (f r) (fun d => ∀ v G' H',Grow X.K G H G' H'→RG X.K G' v d→Q v H') (XW X σ G H)
noncomputable def tB (X : Cx) (g : GE) (m : List Md) (f : FE) : TE := fun σ H Q => ∃ r G,SI X g m r G σ H∧fin (f r) (fun d => ∀ v G' H',Grow X.K G H G' H'→RB X.K G' H' v d→Q v H') (XW X σ G H)
noncomputable def tO (X : Cx) (g : GE) (m : List Md) (f : FE) : TE := fun σ H Q => ∃ r G,SI X g m r G σ H∧fin (f r) (fun d => ∀ a G' H',Grow X.K G H G' H'→H a = none→Own X.K G' H' a d→Q (.ref a) H') (XW X σ G H)
noncomputable def tQ (X : Cx) (g : GE) (m : List Md) (f : Rho→Res Bool) : TT := fun σ H Q => ∃ r G,SI X g m r G σ H∧fin (f r) (fun b => ∀ G' H',Grow X.K G H G' H'→Q b H') (XW X σ G H)
noncomputable def tL (X : Cx) (g : GE) (m : List Md) (f : Rho→Res (List D)) : TA := fun σ H Q => ∃ r G,SI X g m r G σ H∧fin (f r) (fun ds => ∀ vs G' H',Grow X.K G H G' H'→RGs X.K G' vs ds→Q vs H') (XW X σ G H)
noncomputable def tLB (X : Cx) (g : GE) (m : List Md) (f : Rho→Res (List D)) : TA := fun σ H Q => ∃ r G,SI X g m r G σ H∧fin (f r) (fun ds => ∀ vs G' H',Grow X.K G H G' H'→Paired (RB X.K G' H') vs ds→Q vs H') (XW X σ G H)
noncomputable def SE (X : Cx) (g : GE) (m : List Md) (e : Expr) (f : FE) : Prop := PE X e (tE X g m f)
noncomputable def SB (X : Cx) (g : GE) (m : List Md) (e : Expr) (f : FE) : Prop := PE X e (tB X g m f)
noncomputable def SO (X : Cx) (g : GE) (m : List Md) (e : Expr) (f : FE) : Prop := PE X e (tO X g m f)
noncomputable def SQ (X : Cx) (g : GE) (m : List Md) (e : Expr) (f : Rho→Res Bool) : Prop := PT X e (tQ X g m f)
noncomputable def SW (X : Cx) (g : GE) (m : List Md) (e : Expr) (f : Rho→Res Bool) : Prop := PW X e (tQ X g m f)
noncomputable def SA (X : Cx) (g : GE) (m : List Md) (es : List Expr) (f : Rho→Res (List D)) : Prop := PA X es (tL X g m f)
noncomputable def SAB (X : Cx) (g : GE) (m : List Md) (es : List Expr) (f : Rho→Res (List D)) : Prop := PA X es (tLB X g m f)
section
variable {X : Cx} {g : GE} {m : List Md} {e a b c : Expr} {f fa fb fc : FE} {pos : Pos}
theorem SE.toB (h : SE X g m e f) : SB X g m e f := PE.imp h fun σ H Q ⟨r,G,si,q⟩ => ⟨r,G,si,zah q fun d k v G' H' w z => k v G' H' w z.rb⟩
theorem Inv.fast {pins : List (Addr × Obj)} {σ : L2.St} {H : Hp} {s : Shared} (I : Inv X pins σ H s) (a : Addr) : ∃ ob,Inv X pins σ (fz H a ob) s := by
  cases e : H a with
  | none => exact ⟨{ cls := .none,data := .fields #[] },by unfold fz; rw [e]; exact I⟩
  | some u =>
    cases u with
    | dK ps =>
      obtain ⟨z1,z2,vs,z3,o,es,ep,z4,z5⟩ := (show zaU X.prog X.w H s.heap a (.dK ps) from I.hok a _ e)
      have ef : fz H a o = upd H a (.frz o (.dK ps)) := by unfold fz; rw [e]
      refine ⟨o,?_⟩
      rw [ef]
      exact I.write (t' := s.toks) (h' := s.heap) (x := a) (e := a) (by rw [e]; exact trivial) (.inl rfl) (fun b u _ q => q) ⟨o,z4⟩ (show zaU X.prog X.w _ s.heap a (.frz o (.dK ps)) from ⟨z4,z1,z2,vs,z3,o,es,ep,z4,z5⟩)
    | _ => exact ⟨{ cls := .none,data := .fields #[] },by unfold fz; rw [e]; exact I⟩
theorem SO.toE (h : SO X g m e f) : SE X g m e f := by
  intro pins s σ H Q I ⟨r,G,si,q⟩
  refine thn (h pins s σ H (fun v H' => ∃ a,v = .ref a∧∀ ob,Q v (fz H' a ob)) I ⟨r,G,si,zah q fun d k a G' H' w hn o => ⟨a,rfl,fun ob => k _ _ _ (w.frz hn o ob) (.ref zat)⟩⟩) fun u s' ⟨v,H',I',rv,a,_,z⟩ => ?_
  obtain ⟨ob,I2⟩ := Inv.fast I' a
  exact ⟨v,_,I2,rv,z ob⟩
theorem SO.toB (h : SO X g m e f) : SB X g m e f := h.toE.toB
theorem zgt {v : V} {d : D} (h : PE X e (tC v)) (s : Scl v d) : SE X g m e fun _ => .ok d :=
  PE.imp h fun σ H Q ⟨r,G,si,q⟩ => q v G H (Grow.refl si.gok) (.scl s)
theorem zar {i : Int} {j} : SE X g m (.Constant (.int i) j pos) fun _ => .ok (.int i) := zgt zpu (.int i)
theorem s_bl {i : Bool} {j} : SE X g m (.Constant (.bool i) j pos) fun _ => .ok (.bl i) := zgt zq5 (.bl i)
theorem zed {j} : SE X g m (.Constant .none j pos) fun _ => .ok .non := zgt zps .non
theorem zeN {i : Str} {j} : SE X g m (.Constant (.str i) j pos) fun _ => .ok (.str i) := zgt zpp (.str i)
noncomputable def getV (r : Rho) (i : Nat) : Res D := match r[i]? with
  | some (some d) => .ok d
  | _ => .stuck
theorem zeX {r : Rho} {i : Nat} {q : D→Prop} {x : D→Prop} (h : fin (getV r i) q x) : ∃ d,r[i]? = some (some d)∧q d := by
  unfold getV at h
  split at h
  · rename_i d e; exact ⟨d,e,h⟩
  · exact h.elim
theorem zqP (i : Nat) {x : Str} (hm : m[i]? = some .sh) (hN : X.N[i]? = some x) (hv : Vis X.env.scope x) (hd : (x == ("__debug__" : Str)) = false := by decide) (hcd : (x == ("__classdict__" : Str)) = false := by decide) :
    SE X g m (.Name x pos) fun r => getV r i := by
  refine PE.imp (zfd hN hv hd hcd) fun σ H Q ⟨r,G,si,q⟩ => ?_
  obtain ⟨d,e,k⟩ := zeX q
  obtain ⟨v,e1,e2⟩ := si.sh i d e hm
  exact ⟨v,e1,k v G H (Grow.refl si.gok) e2⟩
theorem zoU (i : Nat) {x : Str} (hm : i < m.length) (hN : X.N[i]? = some x) (hv : Vis X.env.scope x) (hd : (x == ("__debug__" : Str)) = false := by decide) (hcd : (x == ("__classdict__" : Str)) = false := by decide) :
    SB X g m (.Name x pos) fun r => getV r i := by
  refine PE.imp (zfd hN hv hd hcd) fun σ H Q ⟨r,G,si,q⟩ => ?_
  obtain ⟨d,e,k⟩ := zeX q
  have hm' : m[i]? = some m[i] := List.getElem?_eq_getElem hm
  cases h : m[i] with
  | sh =>
    obtain ⟨v,e1,e2⟩ := si.sh i d e (hm'.trans (by rw [h]))
    exact ⟨v,e1,k v G H (Grow.refl si.gok) e2.rb⟩
  | ow =>
    obtain ⟨v,e1,e2,_⟩ := si.ow i d e (hm'.trans (by rw [h]))
    exact ⟨_,e1,k _ G H (Grow.refl si.gok) (.inr ⟨v,rfl,e2⟩)⟩
  | bw =>
    obtain ⟨v,e1,e2⟩ := si.bw i d e (hm'.trans (by rw [h]))
    exact ⟨_,e1,k _ G H (Grow.refl si.gok) e2.rb⟩
theorem seq2 {β : Type} {k : D→D→Res β} {q : β→Prop} {R : V→V→Hp→Prop} {r : Rho} {G : GH} {σ : L2.St} {H : Hp} (si : SI X g m r G σ H)
    (h : fin ((fa r).bind fun d1 => (fb r).bind fun d2 => k d1 d2) q (XW X σ G H))
    (hk : ∀ d1 d2 v1 v2 G2 H2,Grow X.K G H G2 H2→RB X.K G2 H2 v1 d1→RB X.K G2 H2 v2 d2→fin (k d1 d2) q (XW X σ G H)→R v1 v2 H2) :
    tB X g m fa σ H fun v1 H1 => tB X g m fb σ H1 fun v2 H2 => R v1 v2 H2 := by
  refine ⟨r,G,si,zah (zaf h) fun d1 h1 v1 G1 H1 w1 r1 => ⟨r,G1,si.grow w1,?_⟩⟩
  cases e : fb r with
  | ok d2 =>
    rw [e] at h1
    exact fun v2 G2 H2 w2 r2 => hk d1 d2 v1 v2 G2 H2 (w1.trans w2) (r1.mono w2) r2 h1
  | exc x =>
    rw [e] at h1
    exact (show XW X σ G H x from h1).grow w1
  | stuck =>
    rw [e] at h1
    exact h1
noncomputable def opt {α : Type} : Option α→Res α
  | some a => .ok a
  | none => .stuck
@[simp] theorem opt_some {α : Type} (a : α) : opt (some a) = .ok a := rfl
@[simp] theorem opt_none {α : Type} : opt (none : Option α) = .stuck := rfl
theorem zax {α : Type} {o : Option α} {q : α→Prop} {x : D→Prop} (h : fin (opt o) q x) : ∃ a,o = some a∧q a := by
  cases o with
  | none => exact h.elim
  | some a => exact ⟨a,rfl,h⟩
noncomputable def OpD (K : PySem.W.Frag) (r : R2) (k : D→D→Option D) : Prop := ∀ (G : GH) (H : Hp) (v1 v2 : V) (d1 d2 d : D) (Q : VK),GOk K G H→RB K G H v1 d1→RB K G H v2 d2→k d1 d2 = some d →
  (∀ v G' H',Grow K G H G' H'→RG K G' v d→Q v H')→r v1 v2 H Q
noncomputable def f2 (fa fb : FE) (k : D→D→Option D) : FE := fun r => (fa r).bind fun d1 => (fb r).bind fun d2 => opt (k d1 d2)
theorem znp {R : R2} {k : D→D→Option D} (ho : OpD X.K R k) (h : PE X e (tOp R (tB X g m fa) (tB X g m fb))) : SE X g m e (f2 fa fb k) := by
  refine PE.imp h fun σ H Q ⟨r,G,si,q⟩ => ?_
  refine seq2 si q fun d1 d2 v1 v2 G2 H2 w r1 r2 q2 => ?_
  obtain ⟨d,e,q2⟩ := zax q2
  exact ho G2 H2 v1 v2 d1 d2 d Q w.ok r1 r2 e fun v G' H' w' z => q2 v G' H' (w.trans w') z
theorem zhO {op : Operator} {R : R2} {k : D→D→Option D} (hr : OpR X (binaryOp op) R) (ho : OpD X.K R k) (ha : SB X g m a fa) (hb : SB X g m b fb) : SE X g m (.BinOp a op b pos) (f2 fa fb k) := znp ho (zq3 hr ha hb)
theorem zo4 {op : CmpOp} {R : R2} {k : D→D→Option D} (hr : OpR X (compareOp op) R) (ho : OpD X.K R k) (ha : SB X g m a fa) (hb : SB X g m b fb) (hm : behindInMarks op b = false) : SE X g m (.Compare a [op] [b] pos) (f2 fa fb k) := znp ho (znI hr ha hb hm)
noncomputable def asB : D→Option Bool
  | .bl b => some b
  | _ => none
noncomputable def zav (f : FE) : Rho→Res Bool := fun r => (f r).bind fun d => opt (asB d)
theorem zhd {op : CmpOp} {R : R2} {k : D→D→Option D} (hr : OpR X (compareOp op) R) (ho : OpD X.K R k) (ha : SB X g m a fa) (hb : SB X g m b fb) (hm : behindInMarks op b = false) : SQ X g m (.Compare a [op] [b] pos) (zav (f2 fa fb k)) := by
  refine PT.imp (znA hr ha hb hm) fun σ H Q ⟨r,G,si,q⟩ => ?_
  have e : zav (f2 fa fb k) r = (fa r).bind fun d1 => (fb r).bind fun d2 => (opt (k d1 d2)).bind fun d => opt (asB d) := by
    unfold zav f2
    cases fa r with
    | ok d1 => cases fb r <;> rfl
    | exc _ => rfl
    | stuck => rfl
  rw [e] at q
  refine seq2 (R := fun x y H2 => R x y H2 fun x H' => ∃ k,x = V.bl k∧Q k H') si q fun d1 d2 v1 v2 G2 H2 w r1 r2 q3 => ?_
  obtain ⟨d,e,q3⟩ := zax (zaf q3)
  obtain ⟨b,eb,q3⟩ := zax q3
  cases d with
  | bl b' =>
    cases eb
    exact ho G2 H2 v1 v2 d1 d2 _ _ w.ok r1 r2 e fun v G' H' w' z => ⟨_,z.bl w'.ok,q3 G' H' (w.trans w')⟩
  | _ => cases eb
end
end DL
end
section
namespace DL
open PySem PySem.Spec PyProof.Rows L2
instance decMul (i j : Int) : Decidable (CMul i j) := by unfold CMul; infer_instance
instance decDiv (i j : Int) : Decidable (CDiv i j) := by unfold CDiv; infer_instance
instance decPow (i j : Int) : Decidable (CPow i j) := by unfold CPow; infer_instance
noncomputable def zhZ (k : Int→Int→D) : D→D→Option D
  | .int a,.int b => some (k a b)
  | _,_ => none
noncomputable def zho (C : Int→Int→Prop) [∀ a b,Decidable (C a b)] (k : Int→Int→D) : D→D→Option D
  | .int a,.int b => if C a b then some (k a b) else none
  | _,_ => none
@[simp] theorem ints2_int (k : Int→Int→D) (a b : Int) : zhZ k (.int a) (.int b) = some (k a b) := rfl
@[simp] theorem intsC_int (C : Int→Int→Prop) [∀ a b,Decidable (C a b)] (k : Int→Int→D) (a b : Int) : zho C k (.int a) (.int b) = if C a b then some (k a b) else none := rfl
section
variable {K : PySem.W.Frag}
theorem zfe {gv : Int→Int→V} {gd : Int→Int→D} (hs : ∀ i j,Scl (gv i j) (gd i j)) : OpD K (rI0 gv) (zhZ gd) := by
  intro G H v1 v2 d1 d2 d Q g r1 r2 e q
  unfold zhZ at e
  split at e
  · cases e
    exact ⟨_,_,r1.int g,r2.int g,q _ G H (Grow.refl g) (.scl (hs _ _))⟩
  · cases e
theorem zeU {C : Int→Int→Prop} [∀ a b,Decidable (C a b)] {gv : Int→Int→V} {gd : Int→Int→D} (hs : ∀ i j,Scl (gv i j) (gd i j)) : OpD K (rI C gv) (zho C gd) := by
  intro G H v1 v2 d1 d2 d Q g r1 r2 e q
  unfold zho at e
  split at e
  · split at e
    · rename_i hc
      cases e
      exact ⟨_,_,r1.int g,r2.int g,hc,q _ G H (Grow.refl g) (.scl (hs _ _))⟩
    · cases e
  · cases e
end
noncomputable abbrev subI : D→D→Option D := zhZ fun a b => .int (a - b)
noncomputable abbrev mulI : D→D→Option D := zho CMul fun a b => .int (a * b)
noncomputable abbrev zgJ : D→D→Option D := zho CDiv fun a b => .int (a / b)
noncomputable abbrev modI : D→D→Option D := zho (fun _ b => 0 < b) fun a b => .int (a % b)
noncomputable abbrev powI : D→D→Option D := zho CPow fun a b => .int (a ^ b.toNat)
noncomputable abbrev ltI : D→D→Option D := zhZ fun a b => .bl (decide (a < b))
noncomputable abbrev leI : D→D→Option D := zhZ fun a b => .bl (decide (a≤b))
noncomputable abbrev gtI : D→D→Option D := zhZ fun a b => .bl (decide (b < a))
section
variable {X : Cx} {g : GE} {m : List Md} {e a b c : Expr} {f fa fb fc : FE} {pos : Pos}
theorem zqQ (ha : SB X g m a fa) (hb : SB X g m b fb) : SE X g m (.BinOp a .Sub b pos) (f2 fa fb subI) := zhO zpx (zfe fun _ _ => .int _) ha hb
theorem zhM (ha : SB X g m a fa) (hb : SB X g m b fb) : SE X g m (.BinOp a .Mult b pos) (f2 fa fb mulI) := zhO zpz (zeU fun _ _ => .int _) ha hb
theorem zih (ha : SB X g m a fa) (hb : SB X g m b fb) : SE X g m (.BinOp a .FloorDiv b pos) (f2 fa fb zgJ) := zhO znM (zeU fun _ _ => .int _) ha hb
theorem zeO (ha : SB X g m a fa) (hb : SB X g m b fb) : SE X g m (.BinOp a .Mod b pos) (f2 fa fb modI) := zhO zpA (zeU fun _ _ => .int _) ha hb
theorem zqR (ha : SB X g m a fa) (hb : SB X g m b fb) : SE X g m (.BinOp a .Pow b pos) (f2 fa fb powI) := zhO zpy (zeU fun _ _ => .int _) ha hb
theorem q_lt (ha : SB X g m a fa) (hb : SB X g m b fb) : SQ X g m (.Compare a [.Lt] [b] pos) (zav (f2 fa fb ltI)) := zhd zpB (zfe fun _ _ => .bl _) ha hb (zey _)
theorem q_gt (ha : SB X g m a fa) (hb : SB X g m b fb) : SQ X g m (.Compare a [.Gt] [b] pos) (zav (f2 fa fb gtI)) := zhd zq8 (zfe fun _ _ => .bl _) ha hb (zey _)
noncomputable def f1 (fa : FE) (k : D→Option D) : FE := fun r => (fa r).bind fun d => opt (k d)
noncomputable def negI : D→Option D
  | .int a => some (.int (-a))
  | _ => none
@[simp] theorem negI_int (a : Int) : negI (.int a) = some (.int (-a)) := rfl
theorem zoY (ha : SB X g m a fa) : SE X g m (.UnaryOp .USub a pos) (f1 fa negI) := by
  refine PE.imp (zq1 zoC ha) fun σ H Q ⟨r,G,si,q⟩ => ⟨r,G,si,zah (zaf q) fun d q1 v G1 H1 w1 r1 => ?_⟩
  obtain ⟨d',e,q2⟩ := zax q1
  cases d with
  | int i =>
    cases e
    exact ⟨i,r1.int w1.ok,q2 _ G1 H1 w1 (.scl (.int _))⟩
  | _ => cases e
noncomputable def truD : D→Option Bool
  | .non => some false
  | .bl b => some b
  | .int i => some (i != 0)
  | .str y => if y.length≤sizeLine then some ((y.length : Int) != 0) else none
  | .lst ds => some (! ds.isEmpty)
  | .tup ds => some (! ds.isEmpty)
  | .dic kvs => some (! kvs.isEmpty)
  | .obj _ _ => none
theorem zfm {α β : Type} {F : α→β→Prop} {l : List α} {r : List β} (h : Paired F l r) : l.isEmpty = r.isEmpty := by cases h <;> rfl
theorem zni {K : PySem.W.Frag} {G : GH} {H : Hp} {v : V} {d : D} {b : Bool} (gk : GOk K G H) (h : RB K G H v d) (e : truD d = some b) : TruV K v H b := by
  cases d with
  | non => cases e; rw [h.non gk]; rfl
  | bl b' => cases e; rw [h.bl gk]; rfl
  | int i => cases e; rw [h.int gk]; rfl
  | str y =>
    rw [h.str gk]
    have e' : (if y.length≤sizeLine then some ((y.length : Int) != 0) else none) = some b := e
    by_cases hy : y.length≤sizeLine
    · rw [if_pos hy] at e'; cases e'; exact ⟨hy,rfl⟩
    · rw [if_neg hy] at e'; cases e'
  | lst ds =>
    cases e
    obtain ⟨a,xs,rfl,s,r⟩ := h.lst gk
    exact .inl ⟨xs,s,by rw [zfm r]⟩
  | tup ds =>
    cases e
    obtain ⟨a,xs,rfl,s,r⟩ := h.tup gk
    exact .inr (.inl ⟨xs,s,by rw [zfm r]⟩)
  | dic kvs =>
    cases e
    obtain ⟨a,xs,rfl,s,r⟩ := h.dic gk
    exact .inr (.inr ⟨xs,s,by rw [zfm r]⟩)
  | obj _ _ => cases e
noncomputable def fTru (f : FE) : Rho→Res Bool := fun r => (f r).bind fun d => opt (truD d)
theorem zdV (ha : SB X g m a fa) (he : ∀ whole,isTrue a X.env whole = (do let v ← whole; standAt a.pos; holding [v] (truthy v)) := by intro _; rfl) : SQ X g m a (fTru fa) := by
  refine PT.imp (zlG ha he) fun σ H Q ⟨r,G,si,q⟩ => ⟨r,G,si,zah (zaf q) fun d q1 v G1 H1 w1 r1 => ?_⟩
  obtain ⟨b,e,q2⟩ := zax q1
  exact ⟨b,zni w1.ok r1 e,q2 G1 H1 w1⟩
noncomputable abbrev FQ := Rho→Res Bool
noncomputable def fAnd (p q : FQ) : FQ := fun r => (p r).bind fun c => if c = true then q r else .ok false
noncomputable def fOr (p q : FQ) : FQ := fun r => (p r).bind fun c => if c = true then .ok true else q r
noncomputable def fNot (p : FQ) : FQ := fun r => (p r).bind fun c => .ok (! c)
variable {p q : FQ} {rest : List Expr}
theorem zrt {α : Type} {r : Res α} {q : α→Prop} {x x' : D→Prop} (h : fin r q x) (hx : ∀ e,x e→x' e) : fin r q x' := by
  cases r with
  | ok a => exact h
  | exc e => exact hx e h
  | stuck => exact h
theorem zaB {α : Type} {r : Res α} {σ : L2.St} {G G1 : GH} {H H1 : Hp} {P P' : α→Prop} (h : fin r P (XW X σ G H)) (w : Grow X.K G H G1 H1) (hp : ∀ a,P a→P' a) : fin r P' (XW X σ G1 H1) := zrt (zah h hp) fun _ x => x.grow w
theorem zmI (ha : SQ X g m a p) : SW X g m (.BoolOp .And [a] pos) p := zny ha
theorem zgw (ha : SQ X g m a p) : SW X g m (.BoolOp .Or [a] pos) p := zph ha
theorem zpg (ha : SQ X g m a p) (hb : SW X g m (.BoolOp .And (b::rest) pos) q) : SW X g m (.BoolOp .And (a::b::rest) pos) (fAnd p q) := by
  refine PW.imp (zpi ha hb) fun σ H Q ⟨r,G,si,k⟩ => ⟨r,G,si,zah (zaf k) fun c k1 G1 H1 w1 => ?_⟩
  cases c with
  | true => rw [if_pos rfl] at k1 ⊢; exact ⟨r,G1,si.grow w1,zaB k1 w1 fun b z G' H' w' => z G' H' (w1.trans w')⟩
  | false => rw [if_neg Bool.false_ne_true] at k1 ⊢; exact k1 G1 H1 w1
theorem q_or (ha : SQ X g m a p) (hb : SW X g m (.BoolOp .Or (b::rest) pos) q) : SW X g m (.BoolOp .Or (a::b::rest) pos) (fOr p q) := by
  refine PW.imp (zqY ha hb) fun σ H Q ⟨r,G,si,k⟩ => ⟨r,G,si,zah (zaf k) fun c k1 G1 H1 w1 => ?_⟩
  cases c with
  | true => rw [if_pos rfl] at k1 ⊢; exact k1 G1 H1 w1
  | false => rw [if_neg Bool.false_ne_true] at k1 ⊢; exact ⟨r,G1,si.grow w1,zaB k1 w1 fun b z G' H' w' => z G' H' (w1.trans w')⟩
theorem SW.toQ (h : SW X g m e p) : SQ X g m e p := PW.pt h
theorem zeP (ha : SQ X g m a p) : SQ X g m (.UnaryOp .Not a pos) (fNot p) :=
  PT.imp (zpk ha) fun σ H Q ⟨r,G,si,k⟩ => ⟨r,G,si,zah (zaf k) fun c k1 G1 H1 w1 => k1 G1 H1 w1⟩
noncomputable def vAnd (fa fb : FE) : FE := fun r => (fa r).bind fun d => (opt (asB d)).bind fun c => if c = true then fb r else .ok (.bl false)
noncomputable def vOr (fa fb : FE) : FE := fun r => (fa r).bind fun d => (opt (asB d)).bind fun c => if c = true then .ok (.bl true) else fb r
noncomputable def vNot (fa : FE) : FE := fun r => (fa r).bind fun d => (opt (asB d)).bind fun c => .ok (.bl (! c))
theorem ziR {op} (h : SE X g m a fa) : SE X g m (.BoolOp op [a] pos) fa := zpq h
theorem ziS (ha : SE X g m a fa) (hb : SE X g m (.BoolOp .And (b::rest) pos) fb) : SE X g m (.BoolOp .And (a::b::rest) pos) (vAnd fa fb) := by
  refine PE.imp (zpw ha hb) fun σ H Q ⟨r,G,si,k⟩ => ⟨r,G,si,zah (zaf k) fun d k1 v G1 H1 w1 r1 => ?_⟩
  obtain ⟨c,e,k2⟩ := zax (zaf k1)
  cases d with
  | bl c' =>
    cases e
    refine ⟨_,r1.bl w1.ok,?_⟩
    cases c with
    | true => rw [if_pos rfl] at k2 ⊢; exact ⟨r,G1,si.grow w1,zaB k2 w1 fun b z v G' H' w' => z v G' H' (w1.trans w')⟩
    | false => rw [if_neg Bool.false_ne_true] at k2 ⊢; exact k2 _ G1 H1 w1 (.scl (.bl _))
  | _ => cases e
theorem s_or (ha : SE X g m a fa) (hb : SE X g m (.BoolOp .Or (b::rest) pos) fb) : SE X g m (.BoolOp .Or (a::b::rest) pos) (vOr fa fb) := by
  refine PE.imp (zq2 ha hb) fun σ H Q ⟨r,G,si,k⟩ => ⟨r,G,si,zah (zaf k) fun d k1 v G1 H1 w1 r1 => ?_⟩
  obtain ⟨c,e,k2⟩ := zax (zaf k1)
  cases d with
  | bl c' =>
    cases e
    refine ⟨_,r1.bl w1.ok,?_⟩
    cases c with
    | false => rw [if_neg Bool.false_ne_true] at k2 ⊢; exact ⟨r,G1,si.grow w1,zaB k2 w1 fun b z v G' H' w' => z v G' H' (w1.trans w')⟩
    | true => rw [if_pos rfl] at k2 ⊢; exact k2 _ G1 H1 w1 (.scl (.bl _))
  | _ => cases e
theorem zoX (ha : SE X g m a fa) : SE X g m (.UnaryOp .Not a pos) (vNot fa) := by
  refine PE.imp (zpr ha) fun σ H Q ⟨r,G,si,k⟩ => ⟨r,G,si,zah (zaf k) fun d k1 v G1 H1 w1 r1 => ?_⟩
  obtain ⟨c,e,k2⟩ := zax (zaf k1)
  cases d with
  | bl c' => cases e; exact ⟨_,r1.bl w1.ok,k2 _ G1 H1 w1 (.scl (.bl _))⟩
  | _ => cases e
noncomputable def fIf (p : FQ) (fa fb : FE) : FE := fun r => (p r).bind fun c => if c = true then fa r else fb r
theorem zqT (hc : SQ X g m c p) (ha : SE X g m a fa) (hb : SE X g m b fb) : SE X g m (.IfExp c a b pos) (fIf p fa fb) := by
  refine PE.imp (zlM hc ha hb) fun σ H Q ⟨r,G,si,k⟩ => ⟨r,G,si,zah (zaf k) fun c k1 G1 H1 w1 => ?_⟩
  cases c with
  | true => rw [if_pos rfl] at k1 ⊢; exact ⟨r,G1,si.grow w1,zaB k1 w1 fun b z v G' H' w' => z v G' H' (w1.trans w')⟩
  | false => rw [if_neg Bool.false_ne_true] at k1 ⊢; exact ⟨r,G1,si.grow w1,zaB k1 w1 fun b z v G' H' w' => z v G' H' (w1.trans w')⟩
variable {es : List Expr} {fl fr : Rho → Res (List D)}
noncomputable def lNil : Rho→Res (List D) := fun _ => .ok []
noncomputable def zac (fa : FE) (fl : Rho→Res (List D)) : Rho→Res (List D) := fun r => (fa r).bind fun d => (fl r).bind fun ds => .ok (d::ds)
theorem zaL : SA X g m [] lNil := PA.imp zdX fun σ H Q ⟨r,G,si,k⟩ => k [] G H (Grow.refl si.gok) .nil
theorem zaq (ha : SE X g m e fa) (hr : SA X g m es fl) (hs : starEach (e::es) X.env = (false,eval e X.env)::starEach es X.env := by rfl) : SA X g m (e::es) (zac fa fl) := by
  refine PA.imp (zbo ha hr hs) fun σ H Q ⟨r,G,si,k⟩ => ⟨r,G,si,zah (zaf k) fun d k1 v G1 H1 w1 r1 => ⟨r,G1,si.grow w1,?_⟩⟩
  exact zaB (zaf k1) w1 fun ds z vs G2 H2 w2 r2 => z (v::vs) G2 H2 (w1.trans w2) (.cons (r1.mono w2.ge) r2)
theorem zaJ : SAB X g m [] lNil := PA.imp zdX fun σ H Q ⟨r,G,si,k⟩ => k [] G H (Grow.refl si.gok) .nil
theorem zas (ha : SB X g m e fa) (hr : SAB X g m es fl) (hs : starEach (e::es) X.env = (false,eval e X.env)::starEach es X.env := by rfl) : SAB X g m (e::es) (zac fa fl) := by
  refine PA.imp (zbo ha hr hs) fun σ H Q ⟨r,G,si,k⟩ => ⟨r,G,si,zah (zaf k) fun d k1 v G1 H1 w1 r1 => ⟨r,G1,si.grow w1,?_⟩⟩
  exact zaB (zaf k1) w1 fun ds z vs G2 H2 w2 r2 => z (v::vs) G2 H2 (w1.trans w2) (.cons (r1.mono w2) r2)
noncomputable def sz (ds : List D) : Option (List D) := if ds.length≤sizeLine then some ds else none
theorem znl {ds ds' : List D} (h : sz ds = some ds') : ds' = ds∧ds.length≤sizeLine := by
  unfold sz at h; split at h
  · rename_i hl; cases h; exact ⟨rfl,hl⟩
  · cases h
theorem zqO {ds : List D} (h : ds.length≤sizeLine) : sz ds = some ds := if_pos h
noncomputable def mkT (fl : Rho→Res (List D)) : FE := fun r => (fl r).bind fun ds => (opt (sz ds)).bind fun ds => .ok (.tup ds)
noncomputable def mkL (fl : Rho→Res (List D)) : FE := fun r => (fl r).bind fun ds => (opt (sz ds)).bind fun ds => .ok (.lst ds)
theorem zec {x1} (h : SA X g m es fl) : SE X g m (.Tuple es x1 pos) (mkT fl) := by
  refine PE.imp (zpo h) fun σ H Q ⟨r,G,si,k⟩ => ⟨r,G,si,zah (zaf k) fun ds k1 vs G1 H1 w1 r1 => ?_⟩
  obtain ⟨ds',e,k2⟩ := zax (zaf k1)
  obtain ⟨rfl,hl⟩ := znl e
  have hlen := Paired.length r1
  refine ⟨by omega,fun p hp => ?_⟩
  exact k2 _ _ _ (w1.trans (Grow.newF (d := .tup ds') w1.ok hp (.tup (.inl zam) r1))) (.ref zat)
theorem zee (h : SA X g m es fl) : SO X g m (.List es pos) (mkL fl) := by
  refine PE.imp (zpt h) fun σ H Q ⟨r,G,si,k⟩ => ⟨r,G,si,zah (zaf k) fun ds k1 vs G1 H1 w1 r1 => ?_⟩
  obtain ⟨ds',e,k2⟩ := zax (zaf k1)
  obtain ⟨rfl,hl⟩ := znl e
  have hlen := Paired.length r1
  refine ⟨by omega,fun p hp => ?_⟩
  have hn : H p = none := by
    cases q : H p with
    | none => rfl
    | some o => rw [w1.he _ _ q] at hp; cases hp
  exact k2 p G1 _ (w1.trans (Grow.new w1.ok hp _)) hn ⟨w1.ok.isN hp,.lst zam r1⟩
end
end DL
end
section
namespace DL
open PySem PySem.Spec PyProof.Rows L2
noncomputable def zjm (K : PySem.W.Frag) (r : List V→Hp→VK→Prop) (k : List D→Option D) : Prop := ∀ (G : GH) (H : Hp) (vs : List V) (ds : List D) (d : D) (Q : VK),GOk K G H→Paired (RB K G H) vs ds→k ds = some d →
  (∀ v G' H',Grow K G H G' H'→RG K G' v d→Q v H')→r vs H Q
noncomputable def zqx (K : PySem.W.Frag) (r : List V→Hp→VK→Prop) (k : List D→Option D) : Prop := ∀ (G : GH) (H : Hp) (vs : List V) (ds : List D) (d : D) (Q : VK),GOk K G H→Paired (RB K G H) vs ds→k ds = some d →
  (∀ a G' H',Grow K G H G' H'→H a = none→Own K G' H' a d→Q (.ref a) H')→r vs H Q
noncomputable def fC (fl : Rho→Res (List D)) (k : List D→Option D) : FE := fun r => (fl r).bind fun ds => opt (k ds)
theorem Grow.back {K : PySem.W.Frag} {G G1 : GH} {H H1 : Hp} (w : Grow K G H G1 H1) {a : Addr} (hn : H1 a = none) : H a = none := by
  cases q : H a with
  | none => rfl
  | some o => rw [w.he _ _ q] at hn; cases hn
section
variable {X : Cx} {g : GE} {m : List Md} {e a b c : Expr} {f fa fb fc : FE} {pos p p2 : Pos} {es : List Expr} {fl : Rho → Res (List D)} {x : Str} {id T : String} {R : List V → Hp → VK → Prop} {k : List D → Option D}
theorem s_cb (hk : zjm X.K R k) (h : PE X e (tCB R (tLB X g m fl))) : SE X g m e (fC fl k) := by
  refine PE.imp h fun σ H Q ⟨r,G,si,q⟩ => ⟨r,G,si,zah (zaf q) fun ds q1 vs G1 H1 w1 r1 => ?_⟩
  obtain ⟨d,e,q2⟩ := zax q1
  exact hk G1 H1 vs ds d Q w1.ok r1 e fun v G' H' w' z => q2 v G' H' (w1.trans w') z
theorem zqU (hk : zqx X.K R k) (h : PE X e (tCB R (tLB X g m fl))) : SO X g m e (fC fl k) := by
  refine PE.imp h fun σ H Q ⟨r,G,si,q⟩ => ⟨r,G,si,zah (zaf q) fun ds q1 vs G1 H1 w1 r1 => ?_⟩
  obtain ⟨d,e,q2⟩ := zax q1
  exact hk G1 H1 vs ds d Q w1.ok r1 e fun v G' H' w' hn z => q2 v G' H' (w1.trans w') (w1.back hn) z
noncomputable def lenD : List D→Option D
  | [.str y] => if y.length≤sizeLine then some (.int y.length) else none
  | [.lst ds] => some (.int ds.length)
  | [.tup ds] => some (.int ds.length)
  | [.dic kvs] => some (.int kvs.length)
  | _ => none
theorem zpM {K : PySem.W.Frag} : zjm K (fun xs H Q => (∃ x n,xs = [x]∧LenV K x H n∧Q (.int n) H)∨∃ a kvs,xs = [V.ref a]∧Rd H a (.dK kvs)∧Q (.int kvs.length) H) lenD := by
  intro G H vs ds d Q gk rs e q
  unfold lenD at e
  split at e
  · split at e
    · cases e
      cases rs with
      | cons r t => cases t; exact .inl ⟨_,_,rfl,by rw [r.str gk]; exact ⟨by assumption,rfl⟩,q _ G H (Grow.refl gk) (.scl (.int _))⟩
    · cases e
  · cases e
    cases rs with
    | cons r t =>
      cases t
      obtain ⟨a,xs,rfl,s,r⟩ := r.lst gk
      have := Paired.length r
      exact .inl ⟨_,_,rfl,.inl ⟨xs,s,rfl⟩,q _ G H (Grow.refl gk) (.scl (by rw [this]; exact .int _))⟩
  · cases e
    cases rs with
    | cons r t =>
      cases t
      obtain ⟨a,xs,rfl,s,r⟩ := r.tup gk
      have := Paired.length r
      exact .inl ⟨_,_,rfl,.inr ⟨xs,s,rfl⟩,q _ G H (Grow.refl gk) (.scl (by rw [this]; exact .int _))⟩
  · cases e
    cases rs with
    | cons r t =>
      cases t
      obtain ⟨a,xs,rfl,s,r⟩ := r.dic gk
      have := Paired.length r
      exact .inr ⟨_,_,rfl,s,q _ G H (Grow.refl gk) (.scl (by rw [this]; exact .int _))⟩
  · cases e
theorem zcM (hg : Gl X "len") (hm : X.mg "len" = none) (ha : SAB X g m (e::es) fl) (he : starEach (e::es) X.env = (false,eval e X.env)::starEach es X.env := by rfl) (hpl : (backTo pos (starEach es X.env)).any (·.1) = false := by rfl) :
    SE X g m (.Call (.Name "len" p) (e::es) [] pos) (fC fl lenD) := s_cb zpM (zdW (zcO.or zmj zlg) hg hm PySem.boot_len ha (by decide) (by decide) he hpl)
noncomputable def zgA : List D→Option D
  | [.lst ds] => some (.lst ds)
  | [.tup ds] => some (.lst ds)
  | _ => none
theorem zn3 {K : PySem.W.Frag} : zqx K (fun xs H Q => ∃ p ys,xs = [.ref p]∧(SqL K H p ys∨SqT K H p ys)∧∀ l,H l = none→Q (.ref l) (upd H l (.lst ys))) zgA := by
  intro G H vs ds d Q gk rs e q
  have fin : ∀ {ys : List V} {zs : List D},RGs K G ys zs→(∀ (a : Addr) (G' : GH) (H' : Hp),Grow K G H G' H'→H a = none→Own K G' H' a (.lst zs)→Q (.ref a) H')→∀ l,H l = none→Q (.ref l) (upd H l (.lst ys)) :=
    fun r q l hl => q l G _ (Grow.new gk hl _) hl ⟨gk.isN hl,.lst zam r⟩
  unfold zgA at e
  split at e
  · cases e
    cases rs with
    | cons r t =>
      cases t
      obtain ⟨a,xs,rfl,s,r⟩ := r.lst gk
      exact ⟨a,xs,rfl,.inl s,fin r q⟩
  · cases e
    cases rs with
    | cons r t =>
      cases t
      obtain ⟨a,xs,rfl,s,r⟩ := r.tup gk
      exact ⟨a,xs,rfl,.inr s,fin r q⟩
  · cases e
theorem ziq (hg : Gl X "list") (hm : X.mg "list" = none) (ha : SAB X g m (e::es) fl) (he : starEach (e::es) X.env = (false,eval e X.env)::starEach es X.env := by rfl) (hpl : (backTo pos (starEach es X.env)).any (·.1) = false := by rfl) :
    SO X g m (.Call (.Name "list" p) (e::es) [] pos) (fC fl zgA) := zqU zn3 (zcU zhw hg hm rfl ha (by decide) (by decide) he hpl)
noncomputable def tupD : List D→Option D
  | [.lst ds] => some (.tup ds)
  | [.tup ds] => some (.tup ds)
  | _ => none
theorem zoG {K : PySem.W.Frag} : zjm K (fun xs H Q => ∃ p ys,xs = [.ref p]∧((SqL K H p ys∧∀ l,H l = none→Q (.ref l) (upd H l (.tup ys)))∨(SqT K H p ys∧Q (.ref p) H))) tupD := by
  intro G H vs ds d Q gk rs e q
  unfold tupD at e
  split at e
  · cases e
    cases rs with
    | cons r t =>
      cases t
      obtain ⟨a,xs,rfl,s,r⟩ := r.lst gk
      exact ⟨a,xs,rfl,.inl ⟨s,fun l hl => q _ _ _ (Grow.newF gk hl (.tup (.inl zam) r)) (.ref zat)⟩⟩
  · cases e
    cases rs with
    | cons r t =>
      cases t
      rcases r with r | ⟨a,_,o⟩
      · obtain ⟨a,xs,rfl,s,r'⟩ := r.tup gk
        exact ⟨a,xs,rfl,.inr ⟨s,q _ G H (Grow.refl gk) r⟩⟩
      · cases o.ob
  · cases e
theorem ze8 (hg : Gl X "tuple") (hm : X.mg "tuple" = none) (ha : SAB X g m (e::es) fl) (he : starEach (e::es) X.env = (false,eval e X.env)::starEach es X.env := by rfl) (hpl : (backTo pos (starEach es X.env)).any (·.1) = false := by rfl) :
    SE X g m (.Call (.Name "tuple" p) (e::es) [] pos) (fC fl tupD) := s_cb zoG (zcU zgM hg hm rfl ha (by decide) (by decide) he hpl)
noncomputable def ixD : D→D→Option D
  | .lst ds,.int i => atI ds i
  | .tup ds,.int i => atI ds i
  | .str z,.int i => if z.length≤sizeLine then (atI z.cps.toList i).map fun c => .str ⟨#[c]⟩ else none
  | _,_ => none
theorem zqp {K : PySem.W.Frag} {G : GH} {xs : List V} {ds : List D} {i : Int} {d : D} (r : RGs K G xs ds) (h : atI ds i = some d) : ∃ v,atI xs i = some v∧RG K G v d := by
  unfold atI at h ⊢
  rw [Paired.length r]
  cases e : ixN ds.length i with
  | none => rw [e] at h; cases h
  | some j =>
    rw [e] at h
    exact Paired.get r h
theorem zn6 {K : PySem.W.Frag} : OpD K (rIx K) ixD := by
  intro G H v1 v2 d1 d2 d Q gk r1 r2 e q
  unfold ixD at e
  split at e
  · obtain ⟨a,xs,rfl,s,r⟩ := r1.lst gk
    obtain ⟨v,ev,rv⟩ := zqp r e
    exact .inl ⟨a,xs,_,v,rfl,r2.int gk,s,ev,q v G H (Grow.refl gk) rv⟩
  · obtain ⟨a,xs,rfl,s,r⟩ := r1.tup gk
    obtain ⟨v,ev,rv⟩ := zqp r e
    exact .inr (.inl ⟨a,xs,_,v,rfl,r2.int gk,s,ev,q v G H (Grow.refl gk) rv⟩)
  · split at e
    · rename_i z i hz
      cases ec : atI z.cps.toList i with
      | none => rw [ec] at e; cases e
      | some c =>
        rw [ec] at e; cases e
        exact .inr (.inr ⟨z,i,c,r1.str gk,r2.int gk,hz,ec,q _ G H (Grow.refl gk) (.scl (.str _))⟩)
    · cases e
  · cases e
noncomputable def cutL {α : Type} (xs : List α) (lo hi : Option Int) : List α := (xs.drop (HT.sIx xs.length 0 lo)).take (HT.sIx xs.length xs.length hi - HT.sIx xs.length 0 lo)
theorem zmd {α β : Type} {F : α→β→Prop} {xs : List α} {ds : List β} (r : Paired F xs ds) (lo hi : Option Int) : Paired F (cutL xs lo hi) (cutL ds lo hi) := by
  unfold cutL
  rw [Paired.length r]
  exact Paired.tk _ (Paired.dr _ r)
noncomputable abbrev FP := Rho→Res (Option Int)
noncomputable def tP (X : Cx) (g : GE) (m : List Md) (f : FP) : TO := fun σ H Q => ∃ r G,SI X g m r G σ H∧fin (f r) (fun o => ∀ G' H',Grow X.K G H G' H'→Q o H') (XW X σ G H)
noncomputable def SP1 (X : Cx) (g : GE) (m : List Md) (e : Option Expr) (f : FP) : Prop := PO X e (tP X g m f)
theorem PO.imp {X : Cx} {e : Option Expr} {t t' : TO} (h : PO X e t) (i : ∀ σ H Q,t' σ H Q→t σ H Q) : PO X e t' := fun pins s σ H Q I q => h pins s σ H Q I (i σ H Q q)
noncomputable def asI : D→Option Int
  | .int i => some i
  | _ => none
noncomputable def zeR (f : FE) : FP := fun r => (f r).bind fun d => (opt (asI d)).bind fun i => .ok (some i)
theorem zdZ : SP1 X g m none fun _ => .ok none := PO.imp znD fun σ H Q ⟨r,G,si,q⟩ => q G H (Grow.refl si.gok)
theorem zdY (h : SB X g m e f) : SP1 X g m (some e) (zeR f) := by
  refine PO.imp (znC h) fun σ H Q ⟨r,G,si,q⟩ => ⟨r,G,si,zah (zaf q) fun d q1 v G1 H1 w1 r1 => ?_⟩
  obtain ⟨i,e,q2⟩ := zax (zaf q1)
  cases d with
  | int j => cases e; exact ⟨_,r1.int w1.ok,q2 G1 H1 w1⟩
  | _ => cases e
noncomputable def slD (d : D) (lo hi : Option Int) : Option D := match d with
  | .tup ds => if HT.sIx ds.length 0 lo = 0∧HT.sIx ds.length ds.length hi = ds.length then none else some (.tup (cutL ds lo hi))
  | .lst ds => some (.lst (cutL ds lo hi))
  | _ => none
noncomputable def fSl (fa : FE) (fl fh : FP) : FE := fun r => (fa r).bind fun d => (fl r).bind fun lo => (fh r).bind fun hi => opt (slD d lo hi)
theorem zoR {R : V→Option Int→Option Int→Hp→Prop} {fl fh : FP} {r : Rho} {G : GH} {σ : L2.St} {H : Hp} {q : D→Prop} (si : SI X g m r G σ H) (h : fin (fSl fa fl fh r) q (XW X σ G H))
    (hk : ∀ d lo hi v G2 H2 d',Grow X.K G H G2 H2→RB X.K G2 H2 v d→slD d lo hi = some d'→q d'→R v lo hi H2) :
    tB X g m fa σ H fun x H1 => tP X g m fl σ H1 fun l H2 => tP X g m fh σ H2 fun u H3 => R x l u H3 := by
  refine ⟨r,G,si,zah (zaf h) fun d h1 v G1 H1 w1 r1 => ⟨r,G1,si.grow w1,zaB (zaf h1) w1 fun lo h2 G2 H2 w2 => ⟨r,G2,(si.grow w1).grow w2,?_⟩⟩⟩
  refine zaB (zaf h2) (w1.trans w2) fun hi h3 G3 H3 w3 => ?_
  obtain ⟨d',e,h4⟩ := zax h3
  exact hk d lo hi v G3 H3 d' ((w1.trans w2).trans w3) ((r1.mono w2).mono w3) e h4
theorem zhL {lo hi : Option Expr} {fl fh : FP} (he : SB X g m e f) (hl : SP1 X g m lo fl) (hu : SP1 X g m hi fh) : SE X g m (.Subscript e (.Slice lo hi none p2) pos) (fSl f fl fh) := by
  refine PE.imp (zim (SlR.or zjB zmA) he hl hu) fun σ H Q ⟨r,G,si,q⟩ => ?_
  refine zoR si q fun d lo hi v G2 H2 d' w r1 e q2 => ?_
  cases d with
  | tup ds =>
    obtain ⟨a,xs,rfl,s,r⟩ := r1.tup w.ok
    have e' : (if HT.sIx ds.length 0 lo = 0∧HT.sIx ds.length ds.length hi = ds.length then none else some (D.tup (cutL ds lo hi))) = some d' := e
    by_cases hw : HT.sIx ds.length 0 lo = 0∧HT.sIx ds.length ds.length hi = ds.length
    · rw [if_pos hw] at e'; cases e'
    rw [if_neg hw] at e'
    cases e'
    rw [← Paired.length r] at hw
    refine .inr ⟨a,xs,rfl,s,hw,fun p hp => ?_⟩
    exact q2 _ _ _ (w.trans (Grow.newF w.ok hp (.tup (.inl zam) (zmd r lo hi)))) (.ref zat)
  | lst ds =>
    cases e
    obtain ⟨a,xs,rfl,s,r⟩ := r1.lst w.ok
    exact .inl ⟨a,xs,rfl,s,fun p hp => q2 _ _ _ (w.trans (Grow.newF w.ok hp (.lst (.inl zam) (zmd r lo hi)))) (.ref zat)⟩
  | _ => cases e
end
end DL
end
section
namespace DL
open PySem PySem.Spec PyProof.Rows L2
inductive Out where
  | nx (r : Rho) | rt (d : D) | bk (r : Rho) | ct (r : Rho) | exc (x : D) (r : Rho) | stuck
noncomputable abbrev FS := Rho→Out
noncomputable def Gle (G G' : GH) : Prop := ∀ a d,G a = some d→G' a = some d
theorem Gle.refl (G : GH) : Gle G G := fun _ _ e => e
theorem Gle.trans {G G1 G2 : GH} (a : Gle G G1) (b : Gle G1 G2) : Gle G G2 := fun x d e => b x d (a x d e)
noncomputable def forget (m : List Md) (r : Rho) : Rho := List.zipWith (fun md o => if md = Md.sh then o else none) m r
noncomputable def zfZ (m : List Md) : List Md := m.map fun _ => Md.sh
theorem zcd {m : List Md} {r : Rho} {i : Nat} {d : D} (h : (forget m r)[i]? = some (some d)) : r[i]? = some (some d)∧m[i]? = some .sh := by
  unfold forget at h
  rw [List.getElem?_zipWith] at h
  cases e1 : m[i]? with
  | none => rw [e1] at h; cases h
  | some md =>
    cases e2 : r[i]? with
    | none => rw [e1,e2] at h; cases h
    | some o =>
      rw [e1,e2] at h
      have h' : (if md = Md.sh then o else none) = some d := Option.some.inj h
      split at h'
      · rename_i hm; subst hm; rw [h']; exact ⟨rfl,rfl⟩
      · cases h'
section
variable {X : Cx} {g : GE} {m : List Md} {r : Rho} {G : GH} {st : L2.St} {H : Hp}
theorem SI.forget (s : SI X g m r G st H) : SI X g (zfZ m) (forget m r) G st H where
  gok := s.gok
  old := s.old
  ge := s.ge
  gf := s.gf
  lm := by rw [zfZ,List.length_map]; exact s.lm
  lr := by rw [DL.forget,List.length_zipWith,s.lm,s.lr,Nat.min_self]
  sh := fun i d h _ => s.sh i d (zcd h).1 (zcd h).2
  ow := fun i d h hm => by rw [zfZ,List.getElem?_map,(zcd h).2] at hm; cases hm
  bw := fun i d h hm => by rw [zfZ,List.getElem?_map,(zcd h).2] at hm; cases hm
  dis := fun i j a d e _ h _ hm => by rw [zfZ,List.getElem?_map,(zcd h).2] at hm; cases hm
  lk := fun i o _ hm => by rw [zfZ,List.getElem?_map] at hm; cases q : m[i]? <;> rw [q] at hm <;> cases hm
theorem SI.set (s : SI X g m r G st H) (i : Nat) {v : V} {d : D} (hv : RG X.K G v d) : SI X g (m.set i .sh) (r.set i (some d)) G (st.set i (some v)) H where
  gok := s.gok
  old := s.old
  ge := s.ge
  gf := s.gf
  lm := by simp [s.lm]
  lr := by simp [s.lr]
  sh := fun j e h hm => by
    by_cases hij : i = j
    · subst hij
      have hl : i < r.length := by
        have := (List.getElem?_eq_some_iff.mp h).1
        simpa using this
      rw [List.getElem?_set_self hl] at h
      cases h
      exact ⟨v,by rw [List.getElem?_set_self (by rw [← s.lr]; exact hl)],hv⟩
    · rw [List.getElem?_set_ne hij] at h hm
      rw [List.getElem?_set_ne hij]
      exact s.sh j e h hm
  ow := fun j e h hm => by
    by_cases hij : i = j
    · subst hij
      have hl : i < m.length := by
        have := (List.getElem?_eq_some_iff.mp hm).1
        simpa using this
      rw [List.getElem?_set_self hl] at hm; cases hm
    · rw [List.getElem?_set_ne hij] at h hm
      rw [List.getElem?_set_ne hij]
      exact s.ow j e h hm
  bw := fun j e h hm => by
    by_cases hij : i = j
    · subst hij
      have hl : i < m.length := by
        have := (List.getElem?_eq_some_iff.mp hm).1
        simpa using this
      rw [List.getElem?_set_self hl] at hm; cases hm
    · rw [List.getElem?_set_ne hij] at h hm
      rw [List.getElem?_set_ne hij]
      exact s.bw j e h hm
  dis := fun j k a d1 d2 hjk h1 h2 hm hm' q1 q2 => by
    have hij : i≠j := by
      rintro rfl
      have hl : i < m.length := by
        have := (List.getElem?_eq_some_iff.mp hm).1
        simpa using this
      rw [List.getElem?_set_self hl] at hm; cases hm
    have hik : i≠k := by
      rintro rfl
      have hl : i < m.length := by
        have := (List.getElem?_eq_some_iff.mp h2).1
        rw [List.length_set,s.lr,← s.lm] at this; exact this
      rw [List.getElem?_set_self hl] at hm'; cases hm'
    rw [List.getElem?_set_ne hij] at h1 hm q1
    rw [List.getElem?_set_ne hik] at h2 hm' q2
    exact s.dis j k a d1 d2 hjk h1 h2 hm hm' q1 q2
  lk := fun j o hj hm => by
    have hij : i≠j := by
      rintro rfl
      have hl : i < m.length := by
        have := (List.getElem?_eq_some_iff.mp hm).1
        simpa using this
      rw [List.getElem?_set_self hl] at hm; cases hm
    rw [List.getElem?_set_ne hij] at hm
    have := s.lk j o hj hm
    exact ⟨by rw [List.getElem?_set_ne hij]; exact this.1,fun d h => this.2 d (by rw [List.getElem?_set_ne hij] at h; exact h)⟩
theorem SI.setO (s : SI X g m r G st H) (i : Nat) {a : Addr} {d : D} (ho : Own X.K G H a d) (h0 : g.h0 a = none) (hx : ∀ (j : Nat) (b : Addr) (e : D),r[j]? = some (some e)→m[j]? = some Md.ow→st[j]? = some (some (V.ref b))→b≠a) :
    SI X g (m.set i .ow) (r.set i (some d)) G (st.set i (some (V.ref a))) H where
  gok := s.gok
  old := s.old
  ge := s.ge
  gf := s.gf
  lm := by simp [s.lm]
  lr := by simp [s.lr]
  sh := fun j e h hm => by
    by_cases hij : i = j
    · subst hij
      have hl : i < m.length := by
        have := (List.getElem?_eq_some_iff.mp hm).1
        simpa using this
      rw [List.getElem?_set_self hl] at hm; cases hm
    · rw [List.getElem?_set_ne hij] at h hm
      rw [List.getElem?_set_ne hij]
      exact s.sh j e h hm
  ow := fun j e h hm => by
    by_cases hij : i = j
    · subst hij
      have hl : i < r.length := by
        have := (List.getElem?_eq_some_iff.mp h).1
        simpa using this
      rw [List.getElem?_set_self hl] at h
      cases h
      exact ⟨a,by rw [List.getElem?_set_self (by rw [← s.lr]; exact hl)],ho,h0⟩
    · rw [List.getElem?_set_ne hij] at h hm
      rw [List.getElem?_set_ne hij]
      exact s.ow j e h hm
  bw := fun j e h hm => by
    by_cases hij : i = j
    · subst hij
      have hl : i < m.length := by
        have := (List.getElem?_eq_some_iff.mp hm).1
        simpa using this
      rw [List.getElem?_set_self hl] at hm; cases hm
    · rw [List.getElem?_set_ne hij] at h hm
      rw [List.getElem?_set_ne hij]
      exact s.bw j e h hm
  dis := fun j k b d1 d2 hjk h1 h2 hm hm' q1 q2 => by
    by_cases hij : i = j
    · subst hij
      rw [List.getElem?_set_ne hjk] at h2 hm' q2
      have hl : i < st.length := by
        have := (List.getElem?_eq_some_iff.mp q1).1
        simpa using this
      rw [List.getElem?_set_self hl] at q1
      have e : a = b := by injection q1 with q1; injection q1 with q1; injection q1
      exact hx k b d2 h2 hm' q2 e.symm
    · by_cases hik : i = k
      · subst hik
        rw [List.getElem?_set_ne hij] at h1 hm q1
        have hl : i < st.length := by
          have := (List.getElem?_eq_some_iff.mp q2).1
          simpa using this
        rw [List.getElem?_set_self hl] at q2
        have e : a = b := by injection q2 with q2; injection q2 with q2; injection q2
        exact hx j b d1 h1 hm q1 e.symm
      · rw [List.getElem?_set_ne hij] at h1 hm q1
        rw [List.getElem?_set_ne hik] at h2 hm' q2
        exact s.dis j k b d1 d2 hjk h1 h2 hm hm' q1 q2
  lk := fun j o hj hm => by
    have hij : i≠j := by
      rintro rfl
      have hl : i < m.length := by
        have := (List.getElem?_eq_some_iff.mp hm).1
        simpa using this
      rw [List.getElem?_set_self hl] at hm; cases hm
    rw [List.getElem?_set_ne hij] at hm
    have := s.lk j o hj hm
    exact ⟨by rw [List.getElem?_set_ne hij]; exact this.1,fun d h => this.2 d (by rw [List.getElem?_set_ne hij] at h; exact h)⟩
theorem SI.other (s : SI X g m r G st H) {p : Addr} (hp : G p = none) (h0 : g.h0 p = none) (hm : ∀ (i : Nat),m[i]?≠some Md.ow) (o : HO) : SI X g m r G st (upd H p o) where
  gok := fun b e h => (s.gok b e h).mono (fun _ _ z => z) fun o' q => by rw [zay (by rintro rfl; rw [hp] at h; cases h)]; exact q
  old := fun b o' h => by rw [zay (by rintro rfl; rw [h0] at h; cases h)]; exact s.old b o' h
  ge := s.ge
  gf := s.gf
  lm := s.lm
  lr := s.lr
  sh := s.sh
  ow := fun i d _ h => absurd h (hm i)
  bw := fun i d h1 h2 => by
    obtain ⟨v,h3,h4⟩ := s.bw i d h1 h2
    refine ⟨v,h3,?_⟩
    rcases h4 with h4 | ⟨a,rfl,h4,h5⟩
    · exact .inl h4
    · have ha : a≠p := by rintro rfl; exact h5 h0
      exact .inr ⟨a,rfl,⟨h4.un,h4.ob.mono (fun _ _ z => z) fun o' z => by rw [zay ha]; exact z⟩,h5⟩
  dis := fun i j a d e _ _ _ h => absurd h (hm i)
  lk := s.lk
theorem SI.less (s : SI X g m r G st H) {r' : Rho} (hl : r'.length = r.length) (h : ∀ (i : Nat) d,r'[i]? = some (some d)→r[i]? = some (some d)) : SI X g m r' G st H :=
  ⟨s.gok,s.old,s.ge,s.gf,s.lm,hl.trans s.lr,fun i d a b => s.sh i d (h i d a) b,fun i d a b => s.ow i d (h i d a) b,fun i d a b => s.bw i d (h i d a) b,fun i j a d e n p q x y => s.dis i j a d e n (h i d p) (h j e q) x y,fun i o hi hm => by
    have := s.lk i o hi hm
    exact ⟨this.1,fun d hd => this.2 d (h i d hd)⟩⟩
theorem SI.held (s : SI X g m r G st H) {j : Nat} {b : Addr} {e : D} (h : r[j]? = some (some e)) (hm : m[j]? = some .ow) (hs : st[j]? = some (some (V.ref b))) : H b≠none := by
  obtain ⟨a,h1,h2,_⟩ := s.ow j e h hm
  rw [hs] at h1
  injection h1 with h1; injection h1 with h1; injection h1 with h1
  rw [h1]; exact h2.ob.isS
theorem SI.new (s : SI X g m r G st H) {a : Addr} (hn : H a = none) : g.h0 a = none := by
  cases q : g.h0 a with
  | none => rfl
  | some o => rw [s.old _ _ q] at hn; cases hn
theorem SI.setN (s : SI X g m r G st H) {G' : GH} {H' : Hp} (w : Grow X.K G H G' H') (i : Nat) {a : Addr} {d : D} (hn : H a = none) (ho : Own X.K G' H' a d) : SI X g (m.set i .ow) (r.set i (some d)) G' (st.set i (some (V.ref a))) H' := by
  refine (s.grow w).setO i ho ?_ fun j b e h1 h2 h3 => ?_
  · cases q : g.h0 a with
    | none => rfl
    | some o => rw [s.old _ _ q] at hn; cases hn
  · rintro rfl
    exact s.held h1 h2 h3 hn
theorem SI.mut (s : SI X g m r G st H) {i : Nat} {d : D} (hm : m[i]? = some .ow) (hd : r[i]? = some (some d)) :
    ∃ a,st[i]? = some (some (V.ref a))∧Own X.K G H a d∧∀ (o' : HO) (d' : D),OwnO X.K G (upd H a o') a d'→SI X g m (r.set i (some d')) G st (upd H a o') := by
  obtain ⟨a,h1,h2,h3⟩ := s.ow i d hd hm
  have hl : i < r.length := (List.getElem?_eq_some_iff.mp hd).1
  refine ⟨a,h1,h2,fun o' d' ob => ?_⟩
  have oth : ∀ (j : Nat) (b : Addr) (e : D),j≠i→r[j]? = some (some e)→m[j]? = some .ow→st[j]? = some (some (V.ref b))→b≠a := fun j b e hj q1 q2 q3 z => by
    subst z
    exact s.dis i j b d e (Ne.symm hj) hd q1 hm q2 h1 q3
  refine ⟨fun b e h => ?_,fun b o h => ?_,s.ge,s.gf,s.lm,by simp [s.lr],?_,?_,?_,?_,fun j o hj hm' => ?_⟩
  · have hb : b≠a := by rintro rfl; rw [h2.un] at h; cases h
    exact (s.gok b e h).mono (fun _ _ z => z) fun o q => by rw [zay hb]; exact q
  · have hb : b≠a := by rintro rfl; rw [h3] at h; cases h
    rw [zay hb]; exact s.old b o h
  · intro j e h hm'
    have hij : i≠j := by rintro rfl; rw [hm] at hm'; cases hm'
    rw [List.getElem?_set_ne hij] at h
    exact s.sh j e h hm'
  · intro j e h hm'
    by_cases hij : i = j
    · subst hij
      rw [List.getElem?_set_self hl] at h; cases h
      exact ⟨a,h1,⟨h2.un,ob⟩,h3⟩
    · rw [List.getElem?_set_ne hij] at h
      obtain ⟨b,q1,q2,q3⟩ := s.ow j e h hm'
      have hb := oth j b e (Ne.symm hij) h hm' q1
      exact ⟨b,q1,⟨q2.un,q2.ob.mono (fun _ _ z => z) fun o z => by rw [zay hb]; exact z⟩,q3⟩
  · intro j e h hm'
    have hij : i≠j := by rintro rfl; rw [hm] at hm'; cases hm'
    rw [List.getElem?_set_ne hij] at h
    obtain ⟨v,q1,q2⟩ := s.bw j e h hm'
    refine ⟨v,q1,?_⟩
    rcases q2 with q2 | ⟨b,rfl,q2,q3⟩
    · exact .inl q2
    · have hb : b≠a := by rintro rfl; exact q3 h3
      exact .inr ⟨b,rfl,⟨q2.un,q2.ob.mono (fun _ _ z => z) fun o z => by rw [zay hb]; exact z⟩,q3⟩
  · have bound : ∀ (j : Nat) e,(r.set i (some d'))[j]? = some (some e)→∃ e',r[j]? = some (some e') := fun j e h => by
      by_cases hij : i = j
      · subst hij; exact ⟨d,hd⟩
      · rw [List.getElem?_set_ne hij] at h; exact ⟨e,h⟩
    intro j k b d1 d2 hjk q1 q2 p1 p2 z1 z2
    obtain ⟨e1,q1⟩ := bound j d1 q1
    obtain ⟨e2,q2⟩ := bound k d2 q2
    exact s.dis j k b e1 e2 hjk q1 q2 p1 p2 z1 z2
  · have hij : i≠j := by rintro rfl; rw [hm] at hm'; cases hm'
    have := s.lk j o hj hm'
    exact ⟨this.1,fun d'' h => this.2 d'' (by rw [List.getElem?_set_ne hij] at h; exact h)⟩
end
noncomputable def RV (ro : Bool) (K : PySem.W.Frag) (H0 : Hp) (G : GH) (H : Hp) (v : V) (d : D) : Prop := match ro with
  | false => RG K G v d
  | true => (∃ a,v = .ref a∧H0 a = none∧Own K G H a d)∨(d = .non∧v = .non)
theorem RV.toF {K : PySem.W.Frag} {H0 : Hp} {G0 G : GH} {H : Hp} {v : V} {d : D} (w : Grow K G0 H0 G H) (h : RV true K H0 G H v d) : (∃ G',Grow K G0 H0 G' H∧RG K G' v d)∨∃ a,∀ ob,∃ G',Grow K G0 H0 G' (fz H a ob)∧RG K G' v d := by
  rcases h with ⟨a,rfl,hn,ho⟩ | ⟨rfl,rfl⟩
  · exact .inr ⟨a,fun ob => ⟨_,w.frz hn ho ob,.ref zat⟩⟩
  · exact .inl ⟨G,w,.scl .non⟩
noncomputable def oTo (X : Cx) (g : GE) (ro : Bool) (m' mb : List Md) (G : GH) (D : Ends) : Out→Prop
  | .nx r' => ∀ σ' G' H',Gle G G'→SI X g m' r' G' σ' H'→D.nx σ' H'
  | .rt d => ∀ v G' H',Grow X.K g.gh g.h0 G' H'→RV ro X.K g.h0 G' H' v d→D.rt v H'
  | .bk r' => ∀ σ' G' H',Gle G G'→SI X g mb r' G' σ' H'→D.bk σ' H'
  | .ct r' => ∀ σ' G' H',Gle G G'→SI X g mb r' G' σ' H'→D.ct σ' H'
  | .exc x r' => ∀ pins e s' σ' G' H',Gle G G'→SI X g (zfZ m') r' G' σ' H'→Inv X pins σ' H' s'→ExV X G' H' e x→X.xe e s'
  | .stuck => False
noncomputable def tS (X : Cx) (g : GE) (ro : Bool) (m m' mb : List Md) (f : FS) : TS := fun D σ H => ∃ r G,SI X g m r G σ H∧oTo X g ro m' mb G D (f r)
noncomputable def SS (X : Cx) (g : GE) (ro : Bool) (mb m : List Md) (st : Stmt) (f : FS) (m' : List Md) : Prop := m'.length = m.length∧PS X st (tS X g ro m m' mb f)
noncomputable def SSs (X : Cx) (g : GE) (ro : Bool) (mb m : List Md) (st : List Stmt) (f : FS) (m' : List Md) : Prop := m'.length = m.length∧PSs X st (tS X g ro m m' mb f)
theorem zfD {m m' : List Md} (h : m'.length = m.length) : zfZ m' = zfZ m := by
  unfold zfZ
  rw [List.map_const',List.map_const',h]
theorem oTo.x {X : Cx} {g : GE} {ro : Bool} {m m' mb : List Md} {r : Rho} {G : GH} {D : Ends} {σ : L2.St} {H : Hp} {x : DL.D} (h : oTo X g ro m' mb G D (.exc x (forget m r))) (si : SI X g m r G σ H) (hl : m'.length = m.length) : XW X σ G H x :=
  fun pins e s' G' H' w I ex => h pins e s' σ G' H' w.ge (by rw [zfD hl]; exact (si.grow w).forget) I ex
section
variable {X : Cx} {g : GE} {ro : Bool} {m m' m1 mb : List Md} {e a b c tg : Expr} {f fa fb fc : FE} {p : FQ} {pos pos' : Pos} {st : Stmt} {sts sts' : List Stmt} {s1 s2 : FS}
theorem oTo.gle {G G1 : GH} {D : Ends} {o : Out} (h : oTo X g ro m' mb G D o) (w : Gle G G1) : oTo X g ro m' mb G1 D o := by
  cases o with
  | nx r' => exact fun σ' G' H' q si => h σ' G' H' (w.trans q) si
  | rt d => exact h
  | bk r' => exact fun σ' G' H' q si => h σ' G' H' (w.trans q) si
  | ct r' => exact fun σ' G' H' q si => h σ' G' H' (w.trans q) si
  | exc x r' => exact fun pins e s' σ' G' H' q => h pins e s' σ' G' H' (w.trans q)
  | stuck => exact h
noncomputable def seqF (s1 s2 : FS) : FS := fun r => match s1 r with
  | .nx r' => s2 r'
  | o => o
noncomputable def zak : FS := fun r => .nx r
theorem zag : SSs X g ro mb m [] zak m := ⟨rfl,PSs.imp znB fun D σ H ⟨r,G,si,q⟩ => q σ G H (Gle.refl G) si⟩
theorem zaa (h1 : SS X g ro mb m st s1 m1) (h2 : SSs X g ro mb m1 sts s2 m') : SSs X g ro mb m (st::sts) (seqF s1 s2) m' := by
  refine ⟨h2.1.trans h1.1,PSs.imp (zlH h1.2 h2.2) fun D σ H ⟨r,G,si,q⟩ => ⟨r,G,si,?_⟩⟩
  unfold seqF at q
  cases e : s1 r with
  | nx r' =>
    rw [e] at q
    exact fun σ' G' H' w si' => ⟨r',G',si',oTo.gle q w⟩
  | rt d => rw [e] at q; exact q
  | bk r' => rw [e] at q; exact q
  | ct r' => rw [e] at q; exact q
  | exc x r' => rw [e] at q; exact fun pins e s' σ' G' H' w si' => q pins e s' σ' G' H' w (by rw [zfD h2.1]; exact si')
  | stuck => rw [e] at q; exact q
theorem zo3 : SS X g ro m m (.Continue pos) (fun r => .ct r) m := ⟨rfl,PS.imp zhU fun D σ H ⟨r,G,si,q⟩ => q σ G H (Gle.refl G) si⟩
theorem znq : SS X g ro mb m st (fun _ => .stuck) m := ⟨rfl,PS.imp zlJ fun D σ H ⟨r,G,si,q⟩ => q⟩
theorem zo2 (i : Nat) (hi : m[i]? = some .ow) (h : SS X g ro mb (m.set i .sh) st s1 m') : SS X g ro mb m st s1 m' := by
  refine ⟨h.1.trans (by simp),fun pins s σ H D I ⟨r,G,si,q⟩ => ?_⟩
  rcases si.frz i hi with ⟨G',le,si'⟩ | ⟨a,z⟩
  · exact h.2 pins s σ H D I ⟨r,G',si',oTo.gle q le⟩
  · obtain ⟨ob,I2⟩ := Inv.fast I a
    obtain ⟨G',le,si'⟩ := z ob
    exact h.2 pins s σ _ D I2 ⟨r,G',si',oTo.gle q le⟩
noncomputable def onE {α : Type} (m : List Md) (r : Rho) (x : Res α) (k : α→Out) : Out := match x with
  | .ok a => k a
  | .exc e => .exc e (forget m r)
  | .stuck => .stuck
@[simp] theorem onE_ok {α : Type} (m : List Md) (r : Rho) (a : α) (k : α→Out) : onE m r (.ok a) k = k a := rfl
theorem zba {α : Type} {x : Res α} {k : α→Out} {r : Rho} {G : GH} {D : Ends} {σ : L2.St} {H : Hp} (si : SI X g m r G σ H) (hl : m'.length = m.length) (h : oTo X g ro m' mb G D (onE m r x k)) : fin x (fun a => oTo X g ro m' mb G D (k a)) (XW X σ G H) := by
  cases x with
  | ok a => exact h
  | exc e => exact oTo.x h si hl
  | stuck => exact h
noncomputable def setF (m : List Md) (i : Nat) (f : FE) : FS := fun r => onE m r (f r) fun d => .nx (r.set i (some d))
theorem zaZ (i : Nat) {x : Str} (hN : X.N.Nodup) (hi : X.N[i]? = some x) (hx : Loc X.env.scope x) (he : SE X g m e f) (hs : swapsWith e (some (.Name x pos')) pos.line X.env = pure false := by rfl)
    (hf : X.fn x = true∨X.env.scope.names.lookup x = some .local := by first | exact .inl rfl | exact .inr rfl | assumption) : SS X g ro mb m (.Assign [.Name x pos'] e pos) (setF m i f) (m.set i .sh) := by
  have hl : (m.set i .sh).length = m.length := by simp
  refine ⟨hl,PS.imp (zmL hN hi hx he hs hf) fun D σ H ⟨r,G,si,q⟩ => ⟨r,G,si,?_⟩⟩
  exact zah (zba si hl q) fun d q v G' H' w rv => q _ G' H' w.ge ((si.grow w).set i rv)
theorem zbR (i : Nat) {x : Str} (hN : X.N.Nodup) (hi : X.N[i]? = some x) (hx : Loc X.env.scope x) (he : SO X g m e f) (hs : swapsWith e (some (.Name x pos')) pos.line X.env = pure false := by rfl)
    (hf : X.fn x = true∨X.env.scope.names.lookup x = some .local := by first | exact .inl rfl | exact .inr rfl | assumption) : SS X g ro mb m (.Assign [.Name x pos'] e pos) (setF m i f) (m.set i .ow) := by
  have hl : (m.set i .ow).length = m.length := by simp
  refine ⟨hl,PS.imp (zmL hN hi hx he hs hf) fun D σ H ⟨r,G,si,q⟩ => ⟨r,G,si,?_⟩⟩
  exact zah (zba si hl q) fun d q a G' H' w hn ho => q _ G' H' w.ge (si.setN w i hn ho)
noncomputable def retF (m : List Md) (f : FE) : FS := fun r => onE m r (f r) fun d => .rt d
theorem zaK (he : SE X g m e f) : SS X g false mb m (.Return (some e) pos) (retF m f) m :=
  ⟨rfl,PS.imp (zj0 he) fun D σ H ⟨r,G,si,q⟩ => ⟨r,G,si,zah (zba si rfl q) fun d q v G' H' w rv => q v G' H' (si.grow w).grown rv⟩⟩
theorem zmE (he : SO X g m e f) : SS X g true mb m (.Return (some e) pos) (retF m f) m :=
  ⟨rfl,PS.imp (zj0 he) fun D σ H ⟨r,G,si,q⟩ => ⟨r,G,si,zah (zba si rfl q) fun d q a G' H' w hn ho => q (.ref a) G' H' (si.grow w).grown (.inl ⟨a,rfl,si.new hn,ho⟩)⟩⟩
theorem zmD (i : Nat) {x : Str} (hm : m[i]? = some .ow) (hN : X.N[i]? = some x) (hv : Vis X.env.scope x) (hd : (x == ("__debug__" : Str)) = false := by decide) (hcd : (x == ("__classdict__" : Str)) = false := by decide) :
    SS X g true mb m (.Return (some (.Name x pos')) pos) (retF m fun r => getV r i) m := by
  refine ⟨rfl,PS.imp (zj0 (zfd hN hv hd hcd)) fun D σ H ⟨r,G,si,q⟩ => ?_⟩
  obtain ⟨d,e,q⟩ := zeX (zba si rfl q)
  obtain ⟨a,h1,h2,h3⟩ := si.ow i d e hm
  exact ⟨_,h1,q _ G H si.grown (.inl ⟨a,rfl,h3,h2⟩)⟩
noncomputable def ifF (m : List Md) (p : FQ) (s1 s2 : FS) : FS := fun r => onE m r (p r) fun c => if c = true then s1 r else s2 r
theorem s_if (hc : SQ X g m c p) (h1 : SSs X g ro mb m sts s1 m') (h2 : SSs X g ro mb m sts' s2 m') : SS X g ro mb m (.If c sts sts' pos) (ifF m p s1 s2) m' := by
  refine ⟨h1.1,PS.imp (zq0 hc h1.2 h2.2) fun D σ H ⟨r,G,si,q⟩ => ⟨r,G,si,zah (zba si h1.1 q) fun c q G' H' w => ?_⟩⟩
  cases c with
  | true => rw [if_pos rfl] at q ⊢; exact ⟨r,G',si.grow w,oTo.gle q w.ge⟩
  | false => rw [if_neg Bool.false_ne_true] at q ⊢; exact ⟨r,G',si.grow w,oTo.gle q w.ge⟩
theorem zcQ (i : Nat) (h : SSs X g ro mb m sts s1 m') (hi : m'[i]? = some .ow) : SSs X g ro mb m sts s1 (m'.set i .sh) := by
  refine ⟨by simp [h.1],fun pins s σ H D I ⟨r,G,si,q⟩ => ?_⟩
  refine thn (h.2 pins s σ H ⟨fun σ' H' => D.nx σ' H'∨∃ a,∀ ob,D.nx σ' (fz H' a ob),D.rt,D.bk,D.ct⟩ I ⟨r,G,si,?_⟩) fun f s' p => ?_
  · cases e : s1 r with
    | nx r' =>
      rw [e] at q
      intro σ' G' H' w si'
      rcases si'.frz i hi with ⟨G2,le,si2⟩ | ⟨a,z⟩
      · exact .inl (q σ' G2 H' (w.trans le) si2)
      · refine .inr ⟨a,fun ob => ?_⟩
        obtain ⟨G2,le,si2⟩ := z ob
        exact q σ' G2 _ (w.trans le) si2
    | rt d => rw [e] at q; exact q
    | bk r' => rw [e] at q; exact q
    | ct r' => rw [e] at q; exact q
    | exc x r' => rw [e] at q; exact fun pins e s' σ' G' H' w si' => q pins e s' σ' G' H' w (by rw [zfD (m := m') (by simp)]; exact si')
    | stuck => rw [e] at q; exact q
  · cases f with
    | next =>
      obtain ⟨σ',H',I',z | ⟨a,z⟩⟩ := p
      · exact ⟨σ',H',I',z⟩
      · obtain ⟨ob,I2⟩ := Inv.fast I' a
        exact ⟨σ',_,I2,z ob⟩
    | brk => exact p
    | cont => exact p
    | ret u => exact p
end
end DL
end
section
namespace DL
open PySem PySem.Spec PyProof.Rows L2
noncomputable abbrev FT := D→Rho→Option Rho
noncomputable abbrev FTs := List D→Rho→Option Rho
noncomputable def tG (X : Cx) (g : GE) (m m' : List Md) (ft : FT) : TG := fun v σ H Q => ∃ r G d,SI X g m r G σ H∧RG X.K G v d∧∃ r',ft d r = some r'∧∀ σ',SI X g m' r' G σ' H→Q σ' H
noncomputable def tGs (X : Cx) (g : GE) (m m' : List Md) (ft : FTs) : TGs := fun vs σ H Q => ∃ r G ds,SI X g m r G σ H∧RGs X.K G vs ds∧∃ r',ft ds r = some r'∧∀ σ',SI X g m' r' G σ' H→Q σ' H
theorem PG.imp {X : Cx} {e : Expr} {t t' : TG} (h : PG X e t) (i : ∀ v σ H Q,t' v σ H Q→t v σ H Q) : PG X e t' := fun pins s σ H v u Q I r q => h pins s σ H v u Q I r (i v σ H Q q)
theorem PGs.imp {X : Cx} {e : List Expr} {t t' : TGs} (h : PGs X e t) (i : ∀ v σ H Q,t' v σ H Q→t v σ H Q) : PGs X e t' := fun pins s σ H v u Q I r q => h pins s σ H v u Q I r (i v σ H Q q)
noncomputable def SG (X : Cx) (g : GE) (m : List Md) (tg : Expr) (ft : FT) (m' : List Md) : Prop := m'.length = m.length∧PG X tg (tG X g m m' ft)
structure SGs (X : Cx) (g : GE) (m : List Md) (ts : List Expr) (n : Nat) (ft : FTs) (m' : List Md) : Prop where
  ml : m'.length = m.length
  ln : ∀ ds r r',ft ds r = some r'→ds.length = n
  pg : PGs X ts (tGs X g m m' ft)
noncomputable def ftN (i : Nat) : FT := fun d r => some (r.set i (some d))
noncomputable def ftT (ft : FTs) : FT := fun d r => match d with
  | .tup ds => ft ds r
  | _ => none
noncomputable def zfX : FTs := fun ds r => match ds with
  | [] => some r
  | _ => none
noncomputable def zbg (ft : FT) (fts : FTs) : FTs := fun ds r => match ds with
  | [] => none
  | d::ds => (ft d r).bind fun r' => fts ds r'
section
variable {X : Cx} {g : GE} {m m' m1 : List Md} {tg : Expr} {ts : List Expr} {ft : FT} {fts : FTs} {pos : Pos} {n : Nat}
theorem zaI (i : Nat) {x : Str} (hN : X.N.Nodup) (hi : X.N[i]? = some x) (hx : Loc X.env.scope x) (hf : X.fn x = true∨X.env.scope.names.lookup x = some .local := by first | exact .inl rfl | exact .inr rfl | assumption) :
    SG X g m (.Name x pos) (ftN i) (m.set i .sh) :=
  ⟨by simp,PG.imp (znG hN hi hx hf) fun v σ H Q ⟨r,G,d,si,rv,r',e,k⟩ => by cases e; exact k _ (si.set i rv)⟩
theorem zkT : SGs X g m [] 0 zfX m := by
  refine ⟨rfl,fun ds r r' e => ?_,PGs.imp znF fun v σ H Q ⟨r,G,ds,si,rv,r',e,k⟩ => ?_⟩
  · cases ds with
    | nil => rfl
    | cons _ _ => cases e
  · cases rv with
    | nil => cases e; exact ⟨rfl,k σ si⟩
    | cons _ _ => cases e
theorem zcX (h1 : SG X g m tg ft m1) (h2 : SGs X g m1 ts n fts m') (hs : (assignEach (tg::ts) X.env).map (·.2) = assign tg X.env::(assignEach ts X.env).map (·.2) := by rfl) : SGs X g m (tg::ts) (n + 1) (zbg ft fts) m' := by
  refine ⟨h2.ml.trans h1.1,fun ds r r' e => ?_,PGs.imp (zlL h1.2 h2.pg hs) fun v σ H Q ⟨r,G,ds,si,rv,r',e,k⟩ => ?_⟩
  · cases ds with
    | nil => cases e
    | cons d ds =>
      have e' : ((ft d r).bind fun r' => fts ds r') = some r' := e
      cases q : ft d r with
      | none => rw [q] at e'; cases e'
      | some r1 =>
        rw [q] at e'
        have := h2.ln ds r1 r' e'
        simp [this]
  · cases rv with
    | nil => cases e
    | @cons v0 d vs ds rv rs =>
      have e' : ((ft d r).bind fun r' => fts ds r') = some r' := e
      cases q : ft d r with
      | none => rw [q] at e'; cases e'
      | some r1 =>
        rw [q] at e'
        exact ⟨_,_,rfl,r,G,d,si,rv,r1,q,fun σ' si' => ⟨r1,G,ds,si',rs,r',e',k⟩⟩
theorem zkS {k : Nat} (hc : X.calm = true) (h : SGs X g m ts n fts m') (hn : (assignEach ts X.env).length = n := by rfl) (hst : (assignEach ts X.env).findIdx? (·.1) = none := by rfl) : SG X g m (.Tuple ts k pos) (ftT fts) m' := by
  refine ⟨h.ml,PG.imp (zpm hc h.pg hn hst) fun v σ H Q ⟨r,G,d,si,rv,r',e,k⟩ => ?_⟩
  cases d with
  | tup ds =>
    obtain ⟨a,xs,rfl,s,rs⟩ := rv.tup si.gok
    exact ⟨a,xs,rfl,s,(Paired.length rs).trans (h.ln ds r r' e),r,G,ds,si,rs,r',e,k⟩
  | _ => cases e
end
structure Yields (K : PySem.W.Frag) (J : It) (ds : List D) (G0 : GH) : Prop where
  go : ∀ G H (i : Nat),Gle G0 G→GOk K G H→i < ds.length→J.go i H
  yld : ∀ G H (i : Nat) x H' d,Gle G0 G→GOk K G H→J.yld i H x H'→ds[i]? = some d→∃ G',Grow K G H G' H'∧RG K G' x d
  stop : ∀ G H,Gle G0 G→GOk K G H→J.stop ds.length H
noncomputable abbrev FI := Rho→Res (List D)
noncomputable def tI (X : Cx) (g : GE) (m : List Md) (f : FI) : TI := fun σ H R => ∃ r G,SI X g m r G σ H∧fin (f r) (fun ds => ∀ J G' H',Grow X.K G H G' H'→Yields X.K J ds G'→R J H') (XW X σ G H)
noncomputable def SIt (X : Cx) (g : GE) (m : List Md) (tg iter : Expr) (f : FI) : Prop := PI X tg iter (tI X g m f)
theorem PI.imp {X : Cx} {tg e : Expr} {t t' : TI} (h : PI X tg e t) (i : ∀ σ H Q,t' σ H Q→t σ H Q) : PI X tg e t' := fun pins s σ H R I q => h pins s σ H R I (i σ H R q)
theorem zhD {K : PySem.W.Frag} {a : Addr} {ds : List D} {G0 : GH} (h0 : RG K G0 (.ref a) (.lst ds)) : Yields K (Itl K a) ds G0 := by
  have at_ : ∀ G H,Gle G0 G→GOk K G H→∃ xs,SqL K H a xs∧RGs K G xs ds := fun G H w gk => by
    obtain ⟨b,xs,e,s,r⟩ := (h0.mono w).lst gk
    cases e
    exact ⟨xs,s,r⟩
  refine ⟨fun G H i w gk hi => ?_,fun G H i x H' d w gk y e => ?_,fun G H w gk => ?_⟩
  · obtain ⟨xs,s,r⟩ := at_ G H w gk
    have hl := Paired.length r
    exact ⟨xs,xs[i],s,List.getElem?_eq_getElem (by omega)⟩
  · obtain ⟨xs,s,r⟩ := at_ G H w gk
    obtain ⟨rfl,y⟩ := y
    obtain ⟨v,e1,rv⟩ := Paired.get r e
    have := y xs s
    rw [e1] at this; cases this
    exact ⟨G,Grow.refl gk,rv⟩
  · obtain ⟨xs,s,r⟩ := at_ G H w gk
    exact ⟨xs,s,Nat.le_of_eq (Paired.length r)⟩
theorem zjq {K : PySem.W.Frag} {a : Addr} {ds : List D} {G0 : GH} (h0 : RG K G0 (.ref a) (.tup ds)) : Yields K (Itt K a) ds G0 := by
  have at_ : ∀ G H,Gle G0 G→GOk K G H→∃ xs,SqT K H a xs∧RGs K G xs ds := fun G H w gk => by
    obtain ⟨b,xs,e,s,r⟩ := (h0.mono w).tup gk
    cases e
    exact ⟨xs,s,r⟩
  refine ⟨fun G H i w gk hi => ?_,fun G H i x H' d w gk y e => ?_,fun G H w gk => ?_⟩
  · obtain ⟨xs,s,r⟩ := at_ G H w gk
    have hl := Paired.length r
    exact ⟨xs,xs[i],s,List.getElem?_eq_getElem (by omega)⟩
  · obtain ⟨xs,s,r⟩ := at_ G H w gk
    obtain ⟨rfl,y⟩ := y
    obtain ⟨v,e1,rv⟩ := Paired.get r e
    have := y xs s
    rw [e1] at this; cases this
    exact ⟨G,Grow.refl gk,rv⟩
  · obtain ⟨xs,s,r⟩ := at_ G H w gk
    exact ⟨xs,s,Nat.le_of_eq (Paired.length r)⟩
noncomputable def rngD (lo : Int) (n : Nat) : List D := (List.range n).map fun (i : Nat) => D.int (lo + (i : Int))
theorem zox {K : PySem.W.Frag} {lo : Int} {n : Nat} {G0 : GH} : Yields K (Itr lo n) (rngD lo n) G0 := by
  have hl : (rngD lo n).length = n := by simp [rngD]
  refine ⟨fun G H i w gk hi => (by rw [hl] at hi; exact hi),fun G H i x H' d w gk y e => ?_,fun G H w gk => (by rw [hl]; exact Nat.le_refl _)⟩
  obtain ⟨rfl,rfl⟩ := y
  have hi : i < n := by
    have := (List.getElem?_eq_some_iff.mp e).1
    rw [hl] at this; exact this
  unfold rngD at e
  rw [List.getElem?_map,List.getElem?_range hi] at e
  cases e
  exact ⟨G,Grow.refl gk,.scl (.int _)⟩
noncomputable def zbA : D→Option (List D)
  | .lst ds => some ds
  | .tup ds => some ds
  | _ => none
section
variable {X : Cx} {g : GE} {m m' m1 mb : List Md} {tg e a b c iter : Expr} {f fa fb : FE} {p : FQ} {pos pos' : Pos} {ro : Bool} {fl : Rho → Res (List D)} {sts : List Stmt} {s1 : FS}
noncomputable def fSeq (k : D→Option (List D)) (f : FE) : FI := fun r => (f r).bind fun d => opt (k d)
theorem zj4 {l : Expr} {tl : TE} (hl : PE X l tl) : PI X tg l (fun σ H R => tl σ H fun x H1 => (∃ a,x = .ref a∧(∃ xs,SqL X.K H1 a xs)∧R (Itl X.K a) H1)∨∃ a,x = .ref a∧(∃ xs,SqT X.K H1 a xs)∧R (Itt X.K a) H1) := by
  intro pins s σ H R I h
  refine thn (hl pins s σ H _ I h) fun v s1 ⟨x,H1,I1,r1,q1⟩ => ?_
  rcases q1 with ⟨a,e,⟨xs,hq⟩,q⟩ | ⟨a,e,⟨xs,hq⟩,q⟩
  · subst e
    cases r1
    obtain ⟨its,rv,p,hz⟩ := I1.list hq
    refine wpAny_pyIter_list p.isList ?_
    refine ⟨s1.heap.objs.size,[s1.heap.objs.size],_,_,H1,rfl,I1.kept (t' := s1.toks) fun b o e => Heap.get?_push_of_some _ e,zjv a _,⟨_,Heap.get?_push_size _ rfl,rfl,rfl⟩,fun b hb => ?_,q⟩
    have e : b = s1.heap.objs.size := by simpa using hb
    subst e
    exact I1.fpOk (Nat.le_refl _) (I1.hok.fresh (Nat.le_refl _))
  · subst e
    cases r1
    obtain ⟨its,rv,p,hz⟩ := I1.tuple hq
    refine wpAny_pyIter_tuple (show s1.heap.IsTuple a its.toArray from p) ?_
    refine ⟨s1.heap.objs.size,[s1.heap.objs.size],_,_,H1,rfl,I1.kept (t' := s1.toks) fun b o e => Heap.get?_push_of_some _ e,ziM a _,⟨_,Heap.get?_push_size _ rfl,rfl,rfl⟩,fun b hb => ?_,q⟩
    have e : b = s1.heap.objs.size := by simpa using hb
    subst e
    exact I1.fpOk (Nat.le_refl _) (I1.hok.fresh (Nat.le_refl _))
theorem zoa (h : SE X g m e f) : SIt X g m tg e (fSeq zbA f) := by
  refine PI.imp (zj4 h) fun σ H R ⟨r,G,si,q⟩ => ⟨r,G,si,zah (zaf q) fun d q v G' H' w rv => ?_⟩
  obtain ⟨ds,e,q⟩ := zax q
  cases d with
  | lst ds' =>
    cases e
    obtain ⟨a,xs,rfl,s,rs⟩ := rv.lst w.ok
    exact .inl ⟨a,rfl,⟨xs,s⟩,q _ G' H' w (zhD rv)⟩
  | tup ds' =>
    cases e
    obtain ⟨a,xs,rfl,s,rs⟩ := rv.tup w.ok
    exact .inr ⟨a,rfl,⟨xs,s⟩,q _ G' H' w (zjq rv)⟩
  | _ => cases e
structure YieldsC (K : PySem.W.Frag) (J : It) (ds : List D) (G0 : GH) (H0 : Hp) : Prop where
  go : ∀ G H (i : Nat),Grow K G0 H0 G H→i < ds.length→J.go i H
  yld : ∀ G H (i : Nat) x H' d,Grow K G0 H0 G H→J.yld i H x H'→ds[i]? = some d→∃ G',Grow K G H G' H'∧RG K G' x d
  stop : ∀ G H,Grow K G0 H0 G H→J.stop ds.length H
theorem Yields.toC {K : PySem.W.Frag} {J : It} {ds : List D} {G0 : GH} {H0 : Hp} (y : Yields K J ds G0) : YieldsC K J ds G0 H0 :=
  ⟨fun G H i w hi => y.go G H i w.ge w.ok hi,fun G H i x H' d w q e => y.yld G H i x H' d w.ge w.ok q e,fun G H w => y.stop G H w.ge w.ok⟩
noncomputable def tIC (X : Cx) (g : GE) (m : List Md) (f : FI) : TI := fun σ H R => ∃ r G,SI X g m r G σ H∧fin (f r) (fun ds => ∀ J G' H',Grow X.K G H G' H'→YieldsC X.K J ds G' H'→R J H') (XW X σ G H)
noncomputable def SItC (X : Cx) (g : GE) (m : List Md) (tg iter : Expr) (f : FI) : Prop := PI X tg iter (tIC X g m f)
theorem SIt.toC {fi : FI} (h : SIt X g m tg iter fi) : SItC X g m tg iter fi := PI.imp h fun σ H R ⟨r,G,si,q⟩ => ⟨r,G,si,zah q fun ds k J G' H' w y => k J G' H' w y.toC⟩
theorem zoy {K : PySem.W.Frag} {a : Addr} {ds : List D} {G0 : GH} {H0 : Hp} (o : Own K G0 H0 a (.lst ds)) : YieldsC K (Itl K a) ds G0 H0 := by
  have at_ : ∀ G H,Grow K G0 H0 G H→∃ xs,SqL K H a xs∧RGs K G xs ds := fun G H w => by
    cases (o.mono w).ob with
    | lst r s => exact ⟨_,SqL.of r,s⟩
  refine ⟨fun G H i w hi => ?_,fun G H i x H' d w y e => ?_,fun G H w => ?_⟩
  · obtain ⟨xs,s,r⟩ := at_ G H w
    have hl := Paired.length r
    exact ⟨xs,xs[i],s,List.getElem?_eq_getElem (by omega)⟩
  · obtain ⟨xs,s,r⟩ := at_ G H w
    obtain ⟨rfl,y⟩ := y
    obtain ⟨v,e1,rv⟩ := Paired.get r e
    have := y xs s
    rw [e1] at this; cases this
    exact ⟨G,Grow.refl w.ok,rv⟩
  · obtain ⟨xs,s,r⟩ := at_ G H w
    exact ⟨xs,s,Nat.le_of_eq (Paired.length r)⟩
theorem zcW (h : SB X g m e f) : SItC X g m tg e (fSeq zbA f) := by
  refine PI.imp (zj4 h) fun σ H R ⟨r,G,si,q⟩ => ⟨r,G,si,zah (zaf q) fun d q v G' H' w rv => ?_⟩
  obtain ⟨ds,e,q⟩ := zax q
  cases d with
  | lst ds' =>
    cases e
    rcases rv with rv | ⟨a,rfl,o⟩
    · obtain ⟨a,xs,rfl,s,rs⟩ := rv.lst w.ok
      exact .inl ⟨a,rfl,⟨xs,s⟩,q _ G' H' w (zhD rv).toC⟩
    · cases o.ob with
      | lst r s => exact .inl ⟨a,rfl,⟨_,SqL.of r⟩,q _ G' H' w (zoy o)⟩
  | tup ds' =>
    cases e
    rcases rv with rv | ⟨a,rfl,o⟩
    · obtain ⟨a,xs,rfl,s,rs⟩ := rv.tup w.ok
      exact .inr ⟨a,rfl,⟨xs,s⟩,q _ G' H' w (zjq rv).toC⟩
    · cases o.ob
  | _ => cases e
noncomputable def rng1 : List D→Option (List D)
  | [.int j] => if -(2 ^ 62)≤j∧j < 2 ^ 62 then some (rngD 0 j.toNat) else none
  | _ => none
noncomputable def fRng (k : List D→Option (List D)) (fl : Rho→Res (List D)) : FI := fun r => (fl r).bind fun ds => opt (k ds)
theorem zd3 {pn : Pos} (hg : Gl X "range") (hm : X.mg "range" = none) (ha : SAB X g m [a] fl) (hs : starEach [a] X.env = [(false,eval a X.env)] := by rfl) : SIt X g m tg (.Call (.Name "range" pn) [a] [] pos) (fRng rng1 fl) := by
  refine PI.imp (zj5 hg hm ha hs) fun σ H R ⟨r,G,si,q⟩ => ⟨r,G,si,zah (zaf q) fun ds q vs G' H' w rs => ?_⟩
  obtain ⟨zs,e,q⟩ := zax q
  unfold rng1 at e
  split at e
  · split at e
    · rename_i j hj
      cases e
      cases rs with
      | cons r1 t => cases t; exact ⟨j,by rw [r1.int w.ok],hj.1,hj.2,q _ G' H' w zox⟩
    · cases e
  · cases e
noncomputable def forF (ft : FT) (body : FS) : List D→FS
  | [],r => .nx r
  | d::ds,r => match ft d r with
    | none => .stuck
    | some r1 => match body r1 with
      | .nx r' => forF ft body ds r'
      | .ct r' => forF ft body ds r'
      | .bk r' => .nx r'
      | o => o
noncomputable def zcN (m : List Md) (fi : FI) (ft : FT) (body : FS) : FS := fun r => onE m r (fi r) fun ds => forF ft body ds r
theorem zhN (hp : PassesOwn (model X.prog X.w) X.A X.env X.xe) (hc : X.calm = true) {ft : FT} {fi : FI} (hi : SIt X g m tg iter fi) (hg : SG X g m tg ft m) (hb : SSs X g ro m m sts s1 m)
    (hs : ∀ x,foldedSetIterable iter X.env x = pure x := by intro _; rfl) : SS X g ro mb m (.For tg iter sts [] pos) (zcN m fi ft s1) m := by
  refine ⟨rfl,PS.imp (zj1 hp hc hi hg.2 hb.2 hs) fun D σ H ⟨r,G,si,q⟩ => ⟨r,G,si,zah (zba si rfl q) fun ds q J G0 H0 w0 Y => ?_⟩⟩
  refine ⟨fun i n σ H => ∃ r G,SI X g m r G σ H∧Gle G0 G∧i≤ds.length∧n = ds.length - i∧oTo X g ro m mb G D (forF ft s1 (ds.drop i) r),⟨ds.length,r,G0,si.grow w0,Gle.refl G0,Nat.zero_le _,rfl,oTo.gle q w0.ge⟩,?_⟩
  rintro i n σ1 H1 ⟨r1,G1,si1,le1,hi,rfl,q1⟩
  by_cases hlt : i < ds.length
  · have hd : ds.drop i = ds[i]::ds.drop (i + 1) := List.drop_eq_getElem_cons hlt
    rw [hd] at q1
    unfold forF at q1
    refine .inr ⟨Y.go G1 H1 i le1 si1.gok hlt,fun σ' H' => ∃ r G,SI X g m r G σ' H'∧Gle G0 G∧oTo X g ro m mb G D (forF ft s1 (ds.drop (i + 1)) r),fun σ' H' ⟨r',G',si',le',q'⟩ => ⟨ds.length - (i + 1),by omega,r',G',si',le',hlt,rfl,q'⟩,fun x H' y => ?_⟩
    obtain ⟨G',w',rv⟩ := Y.yld G1 H1 i x H' ds[i] le1 si1.gok y (List.getElem?_eq_getElem hlt)
    have le' : Gle G0 G' := le1.trans w'.ge
    cases eft : ft ds[i] r1 with
    | none => simp only [eft] at q1; exact q1.elim
    | some r2 =>
      simp only [eft] at q1
      refine ⟨r1,G',ds[i],si1.grow w',rv,r2,eft,fun σ2 si2 => ⟨r2,G',si2,?_⟩⟩
      cases eb : s1 r2 with
      | nx r' => simp only [eb] at q1; exact fun σ3 G3 H3 le3 si3 => ⟨r',G3,si3,le'.trans le3,oTo.gle q1 (Gle.trans w'.ge le3)⟩
      | ct r' => simp only [eb] at q1; exact fun σ3 G3 H3 le3 si3 => ⟨r',G3,si3,le'.trans le3,oTo.gle q1 (Gle.trans w'.ge le3)⟩
      | bk r' => simp only [eb] at q1; exact fun σ3 G3 H3 le3 si3 => q1 σ3 G3 H3 (Gle.trans w'.ge le3) si3
      | rt d => simp only [eb] at q1; exact q1
      | exc x r' => simp only [eb] at q1; exact fun pins e s' σ3 G3 H3 le3 => q1 pins e s' σ3 G3 H3 (Gle.trans w'.ge le3)
      | stuck => simp only [eb] at q1; exact q1
  · have e : i = ds.length := by omega
    subst e
    rw [List.drop_length] at q1
    exact .inl ⟨Y.stop G1 H1 le1 si1.gok,q1 σ1 G1 H1 (Gle.refl _) si1⟩
noncomputable def zby (m : List Md) : List Md := m.map fun x => if x = Md.sh then Md.sh else Md.bw
noncomputable def zi9 (m : List Md) (r : Rho) (st : L2.St) (G : GH) (H : Hp) : GE := ⟨G,H,fun i => if m[i]? = some Md.ow∨m[i]? = some Md.bw then some ((st[i]?).join,(r[i]?).join) else none⟩
theorem zcV {m : List Md} {i : Nat} {x : Md} (h : m[i]? = some x) : (zby m)[i]? = some (if x = Md.sh then Md.sh else Md.bw) := by
  unfold zby; rw [List.getElem?_map,h]; rfl
theorem zlY {m : List Md} {i : Nat} (h : (zby m)[i]? = some Md.sh) : m[i]? = some Md.sh := by
  cases q : m[i]? with
  | none => unfold zby at h; rw [List.getElem?_map,q] at h; cases h
  | some x =>
    rw [zcV q] at h
    cases x <;> first | rfl | (simp at h)
theorem ziv {m : List Md} {i : Nat} (h : (zby m)[i]? = some Md.ow) : False := by
  cases q : m[i]? with
  | none => unfold zby at h; rw [List.getElem?_map,q] at h; cases h
  | some x =>
    rw [zcV q] at h
    cases x <;> simp at h
theorem lockM_bw {m : List Md} {i : Nat} (h : (zby m)[i]? = some Md.bw) : m[i]? = some Md.ow∨m[i]? = some Md.bw := by
  cases q : m[i]? with
  | none => unfold zby at h; rw [List.getElem?_map,q] at h; cases h
  | some x =>
    rw [zcV q] at h
    cases x with
    | sh => simp at h
    | ow => exact .inl rfl
    | bw => exact .inr rfl
theorem SI.lock {r : Rho} {G : GH} {st : L2.St} {H : Hp} (s : SI X g m r G st H) : SI X (zi9 m r st G H) (zby m) r G st H where
  gok := s.gok
  old := fun _ _ e => e
  ge := fun _ _ e => e
  gf := fun _ _ => rfl
  lm := by unfold zby; rw [List.length_map]; exact s.lm
  lr := s.lr
  sh := fun i d h hm => s.sh i d h (zlY hm)
  ow := fun i d h hm => (ziv hm).elim
  bw := fun i d h hm => by
    rcases lockM_bw hm with z | z
    · obtain ⟨a,h1,h2,_⟩ := s.ow i d h z
      exact ⟨_,h1,.inr ⟨a,rfl,h2,h2.ob.isS⟩⟩
    · obtain ⟨v,h1,h2⟩ := s.bw i d h z
      refine ⟨v,h1,?_⟩
      rcases h2 with h2 | ⟨a,e,h2,_⟩
      · exact .inl h2
      · exact .inr ⟨a,e,h2,h2.ob.isS⟩
  dis := fun i j a d e _ _ _ hm => (ziv hm).elim
  lk := fun i o h hm => by
    have h' : (if m[i]? = some Md.ow∨m[i]? = some Md.bw then some ((st[i]?).join,(r[i]?).join) else none) = some o := h
    rw [if_pos (lockM_bw hm)] at h'
    cases h'
    have hi : i < st.length := by
      have := (List.getElem?_eq_some_iff.mp hm).1
      unfold zby at this
      rw [List.length_map,s.lm] at this; exact this
    refine ⟨?_,fun d hd => by rw [hd]; rfl⟩
    rw [List.getElem?_eq_getElem hi]; rfl
theorem SI.unlock {r r' : Rho} {G G' : GH} {st st' : L2.St} {H H' : Hp} (s : SI X g m r G st H) (s' : SI X (zi9 m r st G H) (zby m) r' G' st' H') : SI X g m r' G' st' H' := by
  have w : Grow X.K G H G' H' := s'.grown
  have hlk : ∀ (i : Nat),(m[i]? = some Md.ow∨m[i]? = some Md.bw)→st'[i]? = some (st[i]?).join∧∀ d,r'[i]? = some (some d)→r[i]? = some (some d) := fun i hi => by
    have hm : (zby m)[i]? = some Md.bw := by
      rcases hi with z | z <;> rw [zcV z] <;> simp
    obtain ⟨h1,h2⟩ := s'.lk i ((st[i]?).join,(r[i]?).join) (if_pos hi) hm
    refine ⟨h1,fun d hd => ?_⟩
    have := h2 d hd
    cases q : r[i]? with
    | none => rw [q] at this; cases this
    | some o => rw [q] at this; rw [show o = some d from this]
  have hst : ∀ (i : Nat) v,(m[i]? = some Md.ow∨m[i]? = some Md.bw)→st[i]? = some (some v)→st'[i]? = some (some v) := fun i v hi h => by
    rw [(hlk i hi).1,h]; rfl
  refine ⟨s'.gok,fun a o e => s'.old a o (s.old a o e),fun a d e => s'.ge a d (s.ge a d e),fun a h => ?_,?_,s'.lr,fun i d h hm => ?_,fun i d h hm => ?_,fun i d h hm => ?_,fun i j a d e hij h1 h2 m1 m2 q1 q2 => ?_,fun i o hi hm => ?_⟩
  · have h1 : H a≠none := by
      cases e : g.h0 a with
      | none => exact absurd e h
      | some o => rw [s.old _ _ e]; simp
    rw [w.gf a h1,s.gf a h]
  · have := s'.lm
    unfold zby at this
    rw [List.length_map] at this; exact this
  · exact s'.sh i d h (by rw [zcV hm]; simp)
  · obtain ⟨a,h1,h2,h3⟩ := s.ow i d ((hlk i (.inl hm)).2 d h) hm
    exact ⟨a,hst i _ (.inl hm) h1,h2.mono w,h3⟩
  · obtain ⟨v,h1,h2⟩ := s.bw i d ((hlk i (.inr hm)).2 d h) hm
    exact ⟨v,hst i _ (.inr hm) h1,h2.grow w⟩
  · have e1 := (hlk i (.inl m1)).2 d h1
    have e2 := (hlk j (.inl m2)).2 e h2
    obtain ⟨b,z1,_,_⟩ := s.ow i d e1 m1
    obtain ⟨c,z2,_,_⟩ := s.ow j e e2 m2
    have y1 := hst i _ (.inl m1) z1
    have y2 := hst j _ (.inl m2) z2
    rw [q1] at y1
    rw [q2] at y2
    cases y1
    cases y2
    exact s.dis i j a d e hij e1 e2 m1 m2 z1 z2
  · obtain ⟨h1,h2⟩ := s.lk i o hi hm
    refine ⟨?_,fun d hd => h2 d ((hlk i (.inr hm)).2 d hd)⟩
    rw [(hlk i (.inr hm)).1,h1]; rfl
theorem zjG (hp : PassesOwn (model X.prog X.w) X.A X.env X.xe) (hc : X.calm = true) {ft : FT} {fi : FI} (hi : SItC X g m tg iter fi) (hg : ∀ g',SG X g' (zby m) tg ft (zby m)) (hb : ∀ g',SSs X g' ro (zby m) (zby m) sts s1 (zby m))
    (hs : ∀ x,foldedSetIterable iter X.env x = pure x := by intro _; rfl) : SS X g ro mb m (.For tg iter sts [] pos) (zcN m fi ft s1) m := by
  have hgA : PG X tg (fun v σ H Q => ∃ g',tG X g' (zby m) (zby m) ft v σ H Q) := fun pins s σ H v u Q I r ⟨g',q⟩ => (hg g').2 pins s σ H v u Q I r q
  have hbA : PSs X sts (fun D σ H => ∃ g',tS X g' ro (zby m) (zby m) (zby m) s1 D σ H) := fun pins s σ H D I ⟨g',q⟩ => (hb g').2 pins s σ H D I q
  refine ⟨rfl,PS.imp (zj1 hp hc hi hgA hbA hs) fun D σ H ⟨r,G,si,q⟩ => ⟨r,G,si,zah (zba si rfl q) fun ds q J G0 H0 w0 Y => ?_⟩⟩
  have si0 := si.grow w0
  refine ⟨fun i n σ1 H1 => ∃ r1 G1,SI X (zi9 m r σ G0 H0) (zby m) r1 G1 σ1 H1∧i≤ds.length∧n = ds.length - i∧oTo X g ro m mb G1 D (forF ft s1 (ds.drop i) r1),⟨ds.length,r,G0,si0.lock,Nat.zero_le _,rfl,oTo.gle q w0.ge⟩,?_⟩
  rintro i n σ1 H1 ⟨r1,G1,si1,hi,rfl,q1⟩
  have wg : Grow X.K G0 H0 G1 H1 := si1.grown
  by_cases hlt : i < ds.length
  · have hd : ds.drop i = ds[i]::ds.drop (i + 1) := List.drop_eq_getElem_cons hlt
    rw [hd] at q1
    unfold forF at q1
    refine .inr ⟨Y.go G1 H1 i wg hlt,fun σ' H' => ∃ r' G',SI X (zi9 m r σ G0 H0) (zby m) r' G' σ' H'∧oTo X g ro m mb G' D (forF ft s1 (ds.drop (i + 1)) r'),fun σ' H' ⟨r',G',si',q'⟩ => ⟨ds.length - (i + 1),by omega,r',G',si',hlt,rfl,q'⟩,fun x H' y => ?_⟩
    obtain ⟨G',w',rv⟩ := Y.yld G1 H1 i x H' ds[i] wg y (List.getElem?_eq_getElem hlt)
    cases eft : ft ds[i] r1 with
    | none => simp only [eft] at q1; exact q1.elim
    | some r2 =>
      simp only [eft] at q1
      refine ⟨zi9 m r σ G0 H0,r1,G',ds[i],si1.grow w',rv,r2,eft,fun σ2 si2 => ⟨zi9 m r σ G0 H0,r2,G',si2,?_⟩⟩
      cases eb : s1 r2 with
      | nx r' => simp only [eb] at q1; exact fun σ3 G3 H3 le3 si3 => ⟨r',G3,si3,oTo.gle q1 (Gle.trans w'.ge le3)⟩
      | ct r' => simp only [eb] at q1; exact fun σ3 G3 H3 le3 si3 => ⟨r',G3,si3,oTo.gle q1 (Gle.trans w'.ge le3)⟩
      | bk r' => simp only [eb] at q1; exact fun σ3 G3 H3 le3 si3 => q1 σ3 G3 H3 (Gle.trans w'.ge le3) (si0.unlock si3)
      | rt d =>
        simp only [eb] at q1
        intro v G2 H2 wr rv2
        refine q1 v G2 H2 (si0.grown.trans wr) ?_
        cases ro with
        | false => exact rv2
        | true =>
          rcases rv2 with ⟨a,e1,e2,e3⟩ | z
          · exact .inl ⟨a,e1,si0.grown.back e2,e3⟩
          · exact .inr z
      | exc x r' => exact fun pins e s' σ3 G3 H3 le3 _ _ ex => (show False from ex).elim
      | stuck => simp only [eb] at q1; exact q1
  · have e : i = ds.length := by omega
    subst e
    rw [List.drop_length] at q1
    exact .inl ⟨Y.stop G1 H1 wg,q1 σ1 G1 H1 (Gle.refl _) (si0.unlock si1)⟩
noncomputable def zbn (m : List Md) (p : FQ) (body : FS) : Nat→FS
  | 0,_ => .stuck
  | n + 1,r => onE m r (p r) fun c => if c = true then (match body r with
      | .nx r' => zbn m p body n r'
      | .ct r' => zbn m p body n r'
      | .bk r' => .nx r'
      | o => o) else .nx r
theorem zhK (n : Nat) (hp : PassesOwn (model X.prog X.w) X.A X.env X.xe) (hc : SQ X g m c p) (hb : SSs X g ro m m sts s1 m) : SS X g ro mb m (.While c sts [] pos) (zbn m p s1 n) m := by
  refine ⟨rfl,PS.imp (zlI hp hc hb.2) fun D σ H ⟨r,G,si,q⟩ => ?_⟩
  refine ⟨fun n σ H => ∃ r G,SI X g m r G σ H∧oTo X g ro m mb G D (zbn m p s1 n r),⟨n,r,G,si,q⟩,?_⟩
  rintro n σ1 H1 ⟨r1,G1,si1,q1⟩
  cases n with
  | zero => exact q1.elim
  | succ n =>
    unfold zbn at q1
    refine ⟨r1,G1,si1,zah (zba si1 rfl q1) fun c q2 G2 H2 w2 => ?_⟩
    cases c with
    | false => rw [if_neg Bool.false_ne_true] at q2 ⊢; exact q2 σ1 G2 H2 w2.ge (si1.grow w2)
    | true =>
      rw [if_pos rfl] at q2 ⊢
      refine ⟨fun σ' H' => ∃ r G,SI X g m r G σ' H'∧oTo X g ro m mb G D (zbn m p s1 n r),fun σ' H' h => ⟨n,Nat.lt_succ_self _,h⟩,r1,G2,si1.grow w2,?_⟩
      cases eb : s1 r1 with
      | nx r' => simp only [eb] at q2; exact fun σ3 G3 H3 le3 si3 => ⟨r',G3,si3,oTo.gle q2 (Gle.trans w2.ge le3)⟩
      | ct r' => simp only [eb] at q2; exact fun σ3 G3 H3 le3 si3 => ⟨r',G3,si3,oTo.gle q2 (Gle.trans w2.ge le3)⟩
      | bk r' => simp only [eb] at q2; exact fun σ3 G3 H3 le3 si3 => q2 σ3 G3 H3 (Gle.trans w2.ge le3) si3
      | rt d => simp only [eb] at q2; exact q2
      | exc x r' => simp only [eb] at q2; exact fun pins e s' σ3 G3 H3 le3 => q2 pins e s' σ3 G3 H3 (Gle.trans w2.ge le3)
      | stuck => simp only [eb] at q2; exact q2
noncomputable def asgF (m : List Md) (f : FE) (ft : FT) : FS := fun r => onE m r (f r) fun d => match ft d r with
  | some r' => .nx r'
  | none => .stuck
theorem zqV {ft : FT} (he : SE X g m e f) (hg : SG X g m tg ft m') (hs : swapsWithSole [tg] e pos.line X.env = pure false := by rfl) (hw : swappedStores [tg] e X.env = pure none := by rfl)
    (h1 : (assignEach [tg] X.env).map (·.2) = [assign tg X.env] := by rfl) : SS X g ro mb m (.Assign [tg] e pos) (asgF m f ft) m' := by
  refine ⟨hg.1,PS.imp (zmM he hg.2 hs hw h1) fun D σ H ⟨r,G,si,q⟩ => ⟨r,G,si,zah (zba si hg.1 q) fun d q v G' H' w rv => ?_⟩⟩
  cases e1 : ft d r with
  | none => simp only [e1] at q; exact q.elim
  | some r' =>
    simp only [e1] at q
    exact ⟨r,G',d,si.grow w,rv,r',e1,fun σ' si' => q σ' G' H' w.ge si'⟩
end
noncomputable def noX : Res D→Res D
  | .ok d => .ok d
  | _ => .stuck
@[simp] theorem noX_ok (d : D) : noX (.ok d) = .ok d := rfl
inductive ArgsOk (K : PySem.W.Frag) (G : GH) (H : Hp) : List Md→List V→List D→Prop where
  | nil : ArgsOk K G H [] [] []
  | sh {v : V} {d : D} {ms : List Md} {vs : List V} {ds : List D} : RG K G v d→ArgsOk K G H ms vs ds→ArgsOk K G H (.sh::ms) (v::vs) (d::ds)
  | bw {v : V} {d : D} {ms : List Md} {vs : List V} {ds : List D} : RB K G H v d→ArgsOk K G H ms vs ds→ArgsOk K G H (.bw::ms) (v::vs) (d::ds)
section
variable {K : PySem.W.Frag} {G G' : GH} {H H' : Hp}
theorem ArgsOk.mono : ∀ {ms : List Md} {vs : List V} {ds : List D},ArgsOk K G H ms vs ds→Grow K G H G' H'→ArgsOk K G' H' ms vs ds
  | _,_,_,.nil,_ => .nil
  | _,_,_,.sh h t,w => .sh (h.mono w.ge) (t.mono w)
  | _,_,_,.bw h t,w => .bw (h.mono w) (t.mono w)
theorem ArgsOk.len {ms : List Md} {vs : List V} {ds : List D} (h : ArgsOk K G H ms vs ds) : vs.length = ms.length∧ds.length = ms.length := by
  induction h with
  | nil => exact ⟨rfl,rfl⟩
  | sh h t ih => exact ⟨congrArg (· + 1) ih.1,congrArg (· + 1) ih.2⟩
  | bw h t ih => exact ⟨congrArg (· + 1) ih.1,congrArg (· + 1) ih.2⟩
theorem ArgsOk.app {dvs : List V} {dds : List D} (hs : Paired Scl dvs dds) : ∀ {ms : List Md} {vs : List V} {ds : List D},ArgsOk K G H ms vs ds→ArgsOk K G H (ms++List.replicate dds.length .sh) (vs++dvs) (ds++dds)
  | _,_,_,.nil => by
    induction hs with
    | nil => exact .nil
    | cons h t ih => exact .sh (.scl h) ih
  | _,_,_,.sh h t => .sh h (t.app hs)
  | _,_,_,.bw h t => .bw h (t.app hs)
theorem ArgsOk.get : ∀ {ms : List Md} {vs : List V} {ds : List D} {i : Nat} {d : D},ArgsOk K G H ms vs ds→ds[i]? = some d→∃ v,vs[i]? = some v∧((ms[i]? = some .sh∧RG K G v d)∨(ms[i]? = some .bw∧RB K G H v d))
  | _,_,_,_,_,.nil,e => by simp at e
  | _,_,_,0,_,.sh h t,e => by simp at e; subst e; exact ⟨_,rfl,.inl ⟨rfl,h⟩⟩
  | _,_,_,0,_,.bw h t,e => by simp at e; subst e; exact ⟨_,rfl,.inr ⟨rfl,h⟩⟩
  | _,_,_,i + 1,d,.sh h t,e => by
    obtain ⟨v,h1,h2⟩ := t.get (i := i) (d := d) (by simpa using e)
    exact ⟨v,by simpa using h1,by simpa using h2⟩
  | _,_,_,i + 1,d,.bw h t,e => by
    obtain ⟨v,h1,h2⟩ := t.get (i := i) (d := d) (by simpa using e)
    exact ⟨v,by simpa using h1,by simpa using h2⟩
end
noncomputable def spM (K : PySem.W.Frag) (ro : Bool) (ms : List Md) (F : List D→Res D) : Sp := fun vs H Q _ => ∃ G ds,GOk K G H∧ArgsOk K G H ms vs ds∧fin (F ds) (fun d => ∀ v G' H',Grow K G H G' H'→RV ro K H G' H' v d→Q v H') fun _ => False
noncomputable def outR (ro : Bool) : Out→Res D
  | .nx _ => if ro = true then .stuck else .ok .non
  | .rt d => .ok d
  | .exc x _ => .exc x
  | _ => .stuck
noncomputable def zap (n : Nat) (ds : List D) : Rho := ds.map some++List.replicate (n - ds.length) none
noncomputable def zbG (n : Nat) (ms : List Md) : List Md := ms++List.replicate (n - ms.length) .sh
section
variable {P : Program} {w : World} {K : PySem.W.Frag} {mg : Str → Option Value} {base : Heap}
theorem zgm {X : Cx} {N : List Str} {ms : List Md} {vs : List V} {ds : List D} {G : GH} {H : Hp} (gk : GOk X.K G H) (rs : ArgsOk X.K G H ms vs ds) (hn : ms.length≤N.length) : SI X ⟨G,H,fun _ => none⟩ (zbG N.length ms) (zap N.length ds) G (L2.start N vs) H := by
  obtain ⟨l1,l2⟩ := rs.len
  have e1 : (L2.start N vs).length = N.length := by unfold L2.start; rw [List.length_append,List.length_map,List.length_replicate]; omega
  have e2 : (zap N.length ds).length = N.length := by unfold zap; rw [List.length_append,List.length_map,List.length_replicate]; omega
  have e3 : (zbG N.length ms).length = N.length := by unfold zbG; rw [List.length_append,List.length_replicate]; omega
  have at_ : ∀ (i : Nat) d,(zap N.length ds)[i]? = some (some d)→i < ms.length∧(zbG N.length ms)[i]? = ms[i]?∧∃ v,(L2.start N vs)[i]? = some (some v)∧((ms[i]? = some .sh∧RG X.K G v d)∨(ms[i]? = some .bw∧RB X.K G H v d)) := fun i d h => by
    unfold zap at h
    by_cases hi : i < ds.length
    · rw [List.getElem?_append_left (by simpa using hi),List.getElem?_map] at h
      have hd : ds[i]? = some d := by
        cases z : ds[i]? with
        | none => rw [z] at h; cases h
        | some d' => rw [z] at h; cases h; rfl
      obtain ⟨v,hv,rv⟩ := rs.get hd
      refine ⟨by omega,?_,v,?_,rv⟩
      · unfold zbG
        rw [List.getElem?_append_left (by omega)]
      · unfold L2.start
        rw [List.getElem?_append_left (by rw [List.length_map]; omega),List.getElem?_map,hv]
        rfl
    · rw [List.getElem?_append_right (by simpa using hi),List.getElem?_replicate] at h
      split at h <;> cases h
  refine ⟨gk,fun _ _ e => e,fun _ _ e => e,fun _ _ => rfl,by rw [e3,e1],by rw [e1,e2],fun i d h hm => ?_,fun i d h hm => ?_,fun i d h hm => ?_,fun i j a d e _ h _ hm => ?_,fun i o h => nomatch h⟩
  · obtain ⟨_,hq,v,h1,h2⟩ := at_ i d h
    rw [hq] at hm
    rcases h2 with ⟨_,h2⟩ | ⟨h3,h2⟩
    · exact ⟨v,h1,h2⟩
    · rw [hm] at h3; cases h3
  · obtain ⟨_,hq,v,h1,h2⟩ := at_ i d h
    rw [hq] at hm
    rcases h2 with ⟨h3,h2⟩ | ⟨h3,h2⟩ <;> rw [hm] at h3 <;> cases h3
  · obtain ⟨_,hq,v,h1,h2⟩ := at_ i d h
    rw [hq] at hm
    rcases h2 with ⟨h3,h2⟩ | ⟨h3,h2⟩
    · rw [hm] at h3; cases h3
    · refine ⟨v,h1,?_⟩
      rcases h2 with h2 | ⟨a,rfl,h2⟩
      · exact .inl h2
      · exact .inr ⟨a,rfl,h2,h2.ob.isS⟩
  · obtain ⟨_,hq,v,h1,h2⟩ := at_ i d h
    rw [hq] at hm
    rcases h2 with ⟨h3,h2⟩ | ⟨h3,h2⟩ <;> rw [hm] at h3 <;> cases h3
theorem zgO {X : Cx} {ro : Bool} {fs : FS} {m' : List Md} {G : GH} {H : Hp} {r : Rho} {Q : VK} (q : fin (outR ro (fs r)) (fun d => ∀ v G' H',Grow X.K G H G' H'→RV ro X.K H G' H' v d→Q v H') fun _ => False) :
    oTo X ⟨G,H,fun _ => none⟩ ro m' [] G { nx := fun _ H' => Q .non H',rt := Q } (fs r) := by
  cases e : fs r with
  | nx r' =>
    rw [e] at q
    cases ro with
    | false => exact fun σ' G' H' _ si => q .non G' H' si.grown (.scl .non)
    | true => exact q.elim
  | rt d => rw [e] at q; exact fun v G' H' wg rv => q v G' H' wg rv
  | bk r' => rw [e] at q; exact q.elim
  | ct r' => rw [e] at q; exact q.elim
  | exc x r' => rw [e] at q; exact q.elim
  | stuck => rw [e] at q; exact q
theorem zm9 {x qual : Str} {st : Stmt} {f : Addr} {fd : FuncData} {N ps : List Str} {k : Nat} {ro : Bool} {ms : List Md} {fs : FS} {m' : List Md} (F : Fun K x qual st f fd) (S : FnScope N ps (zab st)) (hms : ms.length = ps.length)
    (hbody : ∀ (cdv : Value) (A : Around) (outer : List Env) (s : Shared) (H : Hp) (g : GE) (E : XK),Room k (A.deeper (envOfC qual (zab st) s.heap.objs.size f cdv)) →
      SSs (cxOf CX0 P w K mg base N qual (zab st) f cdv A outer s H E).nox g ro [] (zbG N.length ms) (zaT st) fs m') :
    FnOk P w K mg base CX0 (k + 1) f fd ps (spM K ro ms fun ds => outR ro (fs (zap N.length ds))) := by
  refine F.ok S (fun vs H Q E ⟨G,ds,gk,rs,q⟩ => rs.len.1.trans hms) fun cdv A outer s H vs Q E hr h => ?_
  obtain ⟨G,ds,gk,rs,q⟩ := h
  have hpl : ps.length≤N.length := by have := congrArg List.length S.pre; rw [List.length_take] at this; omega
  exact ⟨_,(hbody cdv A outer s H ⟨G,H,fun _ => none⟩ E hr).2,zap N.length ds,G,zgm gk rs (by omega),zgO q⟩
end
section
variable {X : Cx} {g : GE} {m : List Md} {e : Expr} {f : FE} {es : List Expr} {fl : Rho → Res (List D)} {k : Nat} {fa : Addr} {fd : FuncData} {ps : List Str} {F : List D → Res D} {dvs : List V} {ds : List Value} {dds : List D} {x : Str} {p pos : Pos} {ms : List Md}
noncomputable def tLM (X : Cx) (g : GE) (m : List Md) (ms : List Md) (f : Rho→Res (List D)) : TA := fun σ H Q => ∃ r G,SI X g m r G σ H∧fin (f r) (fun ds => ∀ vs G' H',Grow X.K G H G' H'→ArgsOk X.K G' H' ms vs ds→Q vs H') (XW X σ G H)
noncomputable def SAM (X : Cx) (g : GE) (m : List Md) (es : List Expr) (ms : List Md) (f : Rho→Res (List D)) : Prop := PA X es (tLM X g m ms f)
theorem zaN : SAM X g m [] [] lNil := PA.imp zdX fun σ H Q ⟨r,G,si,k⟩ => k [] G H (Grow.refl si.gok) .nil
theorem m_sh (ha : SE X g m e f) (hr : SAM X g m es ms fl) (hs : starEach (e::es) X.env = (false,eval e X.env)::starEach es X.env := by rfl) : SAM X g m (e::es) (.sh::ms) (zac f fl) := by
  refine PA.imp (zbo ha hr hs) fun σ H Q ⟨r,G,si,k⟩ => ⟨r,G,si,zah (zaf k) fun d k1 v G1 H1 w1 r1 => ⟨r,G1,si.grow w1,?_⟩⟩
  exact zaB (zaf k1) w1 fun ds z vs G2 H2 w2 r2 => z (v::vs) G2 H2 (w1.trans w2) (.sh (r1.mono w2.ge) r2)
theorem m_bw (ha : SB X g m e f) (hr : SAM X g m es ms fl) (hs : starEach (e::es) X.env = (false,eval e X.env)::starEach es X.env := by rfl) : SAM X g m (e::es) (.bw::ms) (zac f fl) := by
  refine PA.imp (zbo ha hr hs) fun σ H Q ⟨r,G,si,k⟩ => ⟨r,G,si,zah (zaf k) fun d k1 v G1 H1 w1 r1 => ⟨r,G1,si.grow w1,?_⟩⟩
  exact zaB (zaf k1) w1 fun ds z vs G2 H2 w2 r2 => z (v::vs) G2 H2 (w1.trans w2) (.bw (r1.mono w2) r2)
noncomputable def zaz (fl : Rho→Res (List D)) (dds : List D) (F : List D→Res D) : FE := fun r => (fl r).bind fun ds => noX (F (ds++dds))
theorem zfA {ro : Bool} {vs : List V} {zs : List D} {G : GH} {H : Hp} {Q : VK} (gk : GOk X.K G H) (rs : ArgsOk X.K G H ms vs zs) (hsc : Paired Scl dvs dds) (q : fin (noX (F (zs++dds))) (fun d => ∀ v G' H',Grow X.K G H G' H'→RV ro X.K H G' H' v d→Q v H') fun _ => False) :
    spM X.K ro (ms++List.replicate dds.length .sh) F (vs++dvs) H Q E0 := by
  refine ⟨G,zs++dds,gk,rs.app hsc,?_⟩
  cases e : F (zs++dds) with
  | ok d => rw [e] at q; exact q
  | exc x => rw [e] at q; exact q.elim
  | stuck => rw [e] at q; exact q.elim
theorem zft {α : Type} {r : Res α} {q : α→Prop} {x : D→Prop} (h : fin r q x) (hr : ∀ e,r≠.exc e) : fin r q fun _ => False := by
  cases r with
  | ok a => exact h
  | exc e => exact absurd rfl (hr e)
  | stuck => exact h
theorem zkm (r : Res D) (e : D) : noX r≠.exc e := by cases r <;> simp [noX]
theorem zo5 (G1 : FnOk X.prog X.w X.K X.mg X.base CX0 k fa fd ps (spM X.K false (ms++List.replicate dds.length .sh) F)) (hr : Room k X.A) (hg : Gl X x) (hm : X.mg x = some (.ref fa)) (hk : PySem.W.keepIn X.K (.ref fa) = true) (hb : zfO X.K fd ps ds) (hd : Vals dvs ds) (hsc : Paired Scl dvs dds)
    (ha : SAM X g m (e::es) ms fl) (hdb : (x == ("__debug__" : Str)) = false := by decide) (he : starEach (e::es) X.env = (false,eval e X.env)::starEach es X.env := by rfl) (hpl : (backTo pos (starEach es X.env)).any (·.1) = false := by rfl) :
    SE X g m (.Call (.Name x p) (e::es) [] pos) (zaz fl dds F) := by
  refine PE.imp (zgx G1 hr hg hm hk hb hd zlP ha hdb he hpl) fun σ H Q ⟨r,G,si,q⟩ => ⟨r,G,si,?_⟩
  cases ez : fl r with
  | ok zs =>
    unfold zaz at q
    rw [ez] at q
    intro vs G' H' w' rs
    exact zfA w'.ok rs hsc (zah (zft q (zkm _)) fun d k v G2 H2 w2 rv => k v G2 H2 (w'.trans w2) rv)
  | exc x => unfold zaz at q; rw [ez] at q; exact q
  | stuck => unfold zaz at q; rw [ez] at q; exact q
theorem znr (G1 : FnOk X.prog X.w X.K X.mg X.base CX0 k fa fd ps (spM X.K true (ms++List.replicate dds.length .sh) F)) (hr : Room k X.A) (hg : Gl X x) (hm : X.mg x = some (.ref fa)) (hk : PySem.W.keepIn X.K (.ref fa) = true) (hb : zfO X.K fd ps ds) (hd : Vals dvs ds) (hsc : Paired Scl dvs dds)
    (ha : SAM X g m (e::es) ms fl) (hdb : (x == ("__debug__" : Str)) = false := by decide) (he : starEach (e::es) X.env = (false,eval e X.env)::starEach es X.env := by rfl) (hpl : (backTo pos (starEach es X.env)).any (·.1) = false := by rfl) :
    SE X g m (.Call (.Name x p) (e::es) [] pos) (zaz fl dds F) := by
  intro pins s σ H Q I ⟨r,G,si,q⟩
  refine thn (zgx G1 hr hg hm hk hb hd zlP ha hdb he hpl pins s σ H (fun v H' => Q v H'∨∃ a,∀ ob,Q v (fz H' a ob)) I ⟨r,G,si,?_⟩) fun u s' ⟨v,H',I',rv,z⟩ => ?_
  · cases ez : fl r with
    | ok zs =>
      unfold zaz at q
      rw [ez] at q
      intro vs G' H' w' rs
      refine zfA w'.ok rs hsc (zah (zft q (zkm _)) fun d k v G2 H2 w2 rv => ?_)
      rcases RV.toF w2 rv with ⟨G3,w3,r3⟩ | ⟨a,z⟩
      · exact .inl (k v G3 H2 (w'.trans w3) r3)
      · refine .inr ⟨a,fun ob => ?_⟩
        obtain ⟨G3,w3,r3⟩ := z ob
        exact k v G3 _ (w'.trans w3) r3
    | exc x => unfold zaz at q; rw [ez] at q; exact q
    | stuck => unfold zaz at q; rw [ez] at q; exact q
  · rcases z with z | ⟨a,z⟩
    · exact ⟨v,H',I',rv,z⟩
    · obtain ⟨ob,I2⟩ := Inv.fast I' a
      exact ⟨v,_,I2,rv,z ob⟩
noncomputable def ownF (f : FE) : FE := fun r => (f r).bind fun d => match d with
  | .non => .stuck
  | d => .ok d
theorem zpI (G1 : FnOk X.prog X.w X.K X.mg X.base CX0 k fa fd ps (spM X.K true (ms++List.replicate dds.length .sh) F)) (hr : Room k X.A) (hg : Gl X x) (hm : X.mg x = some (.ref fa)) (hk : PySem.W.keepIn X.K (.ref fa) = true) (hb : zfO X.K fd ps ds) (hd : Vals dvs ds) (hsc : Paired Scl dvs dds)
    (ha : SAM X g m (e::es) ms fl) (hdb : (x == ("__debug__" : Str)) = false := by decide) (he : starEach (e::es) X.env = (false,eval e X.env)::starEach es X.env := by rfl) (hpl : (backTo pos (starEach es X.env)).any (·.1) = false := by rfl) :
    SO X g m (.Call (.Name x p) (e::es) [] pos) (ownF (zaz fl dds F)) := by
  refine PE.imp (zgx G1 hr hg hm hk hb hd zlP ha hdb he hpl) fun σ H Q ⟨r,G,si,q⟩ => ⟨r,G,si,?_⟩
  cases ez : fl r with
  | ok zs =>
    have q := zaf q
    unfold zaz at q
    rw [ez] at q
    intro vs G' H' w' rs
    refine zfA w'.ok rs hsc (zah (zft q (zkm _)) fun d k v G2 H2 w2 rv => ?_)
    rcases rv with ⟨a,rfl,hn,ho⟩ | ⟨rfl,rfl⟩
    · cases d with
      | non => exact k.elim
      | _ => exact k a G2 H2 (w'.trans w2) (w'.back hn) ho
    · exact k.elim
  | exc x => have q := zaf q; unfold zaz at q; rw [ez] at q; exact q
  | stuck => have q := zaf q; unfold zaz at q; rw [ez] at q; exact q
end
end DL
end
section
namespace DL
open PySem PySem.Spec PyProof.Rows L2
theorem zme {env : Env} : ∀ (l : List (Str × NameKind)) (cs : List (Str × Addr)),(∀ x∈l,x.2 = .free→∃ c,env.cells.lookup x.1 = some c)→(∀ x c,cs.lookup x = some c→env.cells.lookup x = some c) →
    ∃ cl,(forIn l cs (fun (x : Str × NameKind) (cs : List (Str × Addr)) => if (x.2 == NameKind.free) = true then (do let a ← cellOf env x.1; pure (ForInStep.yield ((x.1,a)::cs))) else pure (ForInStep.yield cs)) : Sem (List (Str × Addr))) = pure cl ∧
      (∀ x c,cl.lookup x = some c→env.cells.lookup x = some c)∧(∀ x,(x,NameKind.free)∈l→∃ c,cl.lookup x = some c)∧(∀ x c,cs.lookup x = some c→∃ c',cl.lookup x = some c') := by
  intro l
  induction l with
  | nil => intro cs _ h; exact ⟨cs,rfl,h,fun x hx => (by cases hx),fun x c h => ⟨c,h⟩⟩
  | cons y l ih =>
    intro cs hf hc
    obtain ⟨n,k⟩ := y
    by_cases hk : k = .free
    · subst hk
      obtain ⟨c,ec⟩ := hf (n,.free) List.mem_cons_self rfl
      have e1 : cellOf env n = pure c := by unfold cellOf; rw [ec]
      have hc' : ∀ x c',((n,c)::cs).lookup x = some c'→env.cells.lookup x = some c' := fun x c' h => by
        rw [List.lookup_cons] at h
        cases q : x == n with
        | true => rw [q] at h; cases h; rw [eq_of_beq q]; exact ec
        | false => rw [q] at h; exact hc x c' h
      obtain ⟨cl,e2,h1,h2,h3⟩ := ih ((n,c)::cs) (fun x hx => hf x (List.mem_cons_of_mem _ hx)) hc'
      refine ⟨cl,?_,h1,fun x hx => ?_,fun x c' h => ?_⟩
      · rw [← e2]
        rw [List.forIn_cons]
        show (cellOf env n >>= fun a => pure (ForInStep.yield ((n,a)::cs))) >>= _ = _
        rw [e1]
        rfl
      · rcases List.mem_cons.mp hx with z | z
        · cases z; exact h3 n c (by rw [List.lookup_cons]; simp)
        · exact h2 x z
      · cases q : x == n with
        | true => exact h3 x c (by rw [List.lookup_cons,q])
        | false => exact h3 x c' (by rw [List.lookup_cons,q]; exact h)
    · obtain ⟨cl,e2,h1,h2,h3⟩ := ih cs (fun x hx => hf x (List.mem_cons_of_mem _ hx)) hc
      have hb : (k == NameKind.free) = false := by simpa using hk
      refine ⟨cl,?_,h1,fun x hx => ?_,h3⟩
      · rw [← e2,List.forIn_cons]
        simp only [hb,Bool.false_eq_true,if_false]
        rfl
      · rcases List.mem_cons.mp hx with z | z
        · cases z; exact absurd rfl hk
        · exact h2 x z
theorem zjj {scope : Scope} {env : Env} (hf : ∀ x∈scope.names,x.2 = .free→∃ c,env.cells.lookup x.1 = some c) :
    ∃ cl,closureFor scope env = pure cl∧(∀ x c,cl.lookup x = some c→env.cells.lookup x = some c)∧(∀ x,(x,NameKind.free)∈scope.names→∃ c,cl.lookup x = some c) := by
  obtain ⟨cl,e,h1,h2,_⟩ := zme scope.names [] hf (fun x c h => by cases h)
  refine ⟨cl,?_,h1,h2⟩
  have e0 : closureFor scope env = ((forIn scope.names ([] : List (Str × Addr)) (fun (x : Str × NameKind) (cs : List (Str × Addr)) => if (x.2 == NameKind.free) = true then (do let a ← cellOf env x.1; pure (ForInStep.yield ((x.1,a)::cs))) else pure (ForInStep.yield cs)) : Sem (List (Str × Addr))) >>= fun cs => pure cs) := rfl
  rw [e0,e]
  rfl
theorem zdx {f : Str→NameKind→NameKind} : ∀ (l : List (Str × NameKind)) (x : Str),(l.map fun y => (y.1,f y.1 y.2)).lookup x = (l.lookup x).map (f x)
  | [],x => rfl
  | (n,k)::l,x => by
    rw [List.map_cons,List.lookup_cons,List.lookup_cons]
    cases q : x == n with
    | true => simp [eq_of_beq q]
    | false => exact zdx l x
noncomputable def relK (env : Env) (n : Str) (k : NameKind) : NameKind := if (k == .free && env.scope.kind == .function && env.kindOf n == some .cell) = true then .cell else k
theorem zdv (scope : Scope) (env : Env) (x : Str) : (relabel scope env).names.lookup x = (scope.names.lookup x).map (relK env x) := by
  rw [← zdx]
  unfold relabel
  congr 1
  apply List.map_congr_left
  intro y _
  obtain ⟨n,k⟩ := y
  show (if (k == NameKind.free && env.scope.kind == .function && env.kindOf n == some .cell) = true then (n,NameKind.cell) else (n,k)) = (n,relK env n k)
  unfold relK
  split <;> rfl
structure CompSc (X : Cx) (scope : Scope) (N' : List Str) (nl : Nat) (cap : List Nat) : Prop where
  kind : scope.kind = .function
  nocell : ∀ y∈scope.names,y.2≠.cell
  names : ∀ y∈scope.names,y.2 = .local→scope.names.lookup y.1 = some .local
  freeK : ∀ y∈scope.names,y.2 = .free→X.env.kindOf y.1 = some .cell∨X.env.kindOf y.1 = some .free
  len : N'.length = nl + cap.length
  capN : ∀ j,j < cap.length→∃ x,N'[nl + j]? = some x∧X.N[cap.getD j 0]? = some x∧scope.names.lookup x = some .free
noncomputable def cxC (X : Cx) (s₀ : Shared) (H₀ : Hp) (N' : List Str) (scope : Scope) (cl : List (Str × Addr)) (C : Addr) (fp : List Addr) : Cx where
  prog := X.prog
  w := X.w
  K := X.K
  mg := X.mg
  base := X.base
  A := X.A
  N := N'
  s₀ := s₀
  H₀ := H₀
  env := compEnvC scope cl C X.env
  outer := X.stack
  stack := X.stack
  ex := fp
  fn := fun _ => false
  calm := X.calm
  pn := []
  xe := fun _ _ => False
section
variable {X : Cx} {pins : List (Addr × Obj)} {σ : L2.St} {H : Hp} {s : Shared} {scope : Scope} {N' : List Str} {nl : Nat} {cap : List Nat} {cl : List (Str × Addr)} {C : Addr} {fp : List Addr}
theorem zqk (I : Inv X pins σ H s) (sc : CompSc X scope N' nl cap) (h1 : ∀ x c,cl.lookup x = some c→X.env.cells.lookup x = some c) (h2 : ∀ x,(x,NameKind.free)∈scope.names→∃ c,cl.lookup x = some c)
    (hf : ∀ b∈fp,FpOk X pins H b∧b < s.heap.objs.size) (hC : s.heap.objs.size≤C) : (cxC X s H N' scope cl C fp).Ok where
  mod := I.ok.mod
  kind := sc.kind
  glob := I.ok.glob
  blt := I.ok.blt
  above := hC
  inj := fun x y c a b => I.ok.inj x y c (h1 x c a) (h1 y c b)
  has := fun x hk => by
    have hk' : (scope.names.lookup x).map (relK X.env x) = some .cell∨(scope.names.lookup x).map (relK X.env x) = some .free := by
      rw [← zdv]; exact hk
    cases e : scope.names.lookup x with
    | none => rw [e] at hk'; rcases hk' with z | z <;> cases z
    | some k =>
      have hm := PySem.mem_of_lookup e
      have kf : k = .free := by
        rw [e] at hk'
        have hk2 : relK X.env x k = .cell∨relK X.env x k = .free := by
          rcases hk' with z | z
          · exact .inl (Option.some.inj z)
          · exact .inr (Option.some.inj z)
        unfold relK at hk2
        split at hk2
        · rename_i hc
          simp only [Bool.and_eq_true,beq_iff_eq] at hc
          exact hc.1.1
        · rcases hk2 with z | z
          · exact absurd z (sc.nocell _ hm)
          · exact z
      subst kf
      exact h2 x hm
  cab := fun x c h => by cases h
  hd := I.ok.hd
  frames := I.ok.frames
  stk := .inl rfl
  exf := fun b hb => ⟨Nat.ne_of_lt (Nat.lt_of_lt_of_le (hf b hb).2 hC),fun x c e => (hf b hb).1.2.2.2.2.1 x c (h1 x c e)⟩
  bs := I.bs
  bsz := Nat.le_trans I.ok.bsz I.sz
  noex := fun b o e hb => by
    obtain ⟨_,_,_,hx,_⟩ := (hf b hb).1
    rcases hx with z | z
    · exact I.ok.noex b o e z
    · exact absurd (Nat.lt_of_lt_of_le (Heap.lt_size e) (Nat.le_trans I.ok.bsz z)) (Nat.lt_irrefl _)
  exfs := fun b hb hfs => by
    obtain ⟨_,q1,q2,_⟩ := (hf b hb).1
    rcases List.mem_cons.mp (I.stkSub b hfs) with z | z
    · exact q1 z
    · exact q2 z
  funs := I.stack
  frf := I.stkFree
end
noncomputable def zdE (ft : FT) (q : FQ) (fe : FE) (r0 : Rho) : List D→Res (List D)
  | [] => .ok []
  | d::ds => (opt (ft d r0)).bind fun r1 => (q r1).bind fun c => if c = true then (fe r1).bind fun v => (zdE ft q fe r0 ds).bind fun vs => .ok (v::vs) else zdE ft q fe r0 ds
noncomputable def capR (nl : Nat) (cap : List Nat) (r : Rho) : Rho := List.replicate nl none++cap.map fun i => r.getD i none
noncomputable def capM (nl : Nat) (cap : List Nat) (m : List Md) : List Md := List.replicate nl Md.sh++cap.map fun i => if m.getD i Md.sh = Md.sh then Md.sh else Md.bw
noncomputable def capS (nl : Nat) (cap : List Nat) (st : L2.St) : L2.St := List.replicate nl none++cap.map fun i => st.getD i none
theorem zfy {α : Type} {nl : Nat} {cap : List Nat} {u : α} {h : Nat→α} {i : Nat} (hi : nl≤i) : (List.replicate nl u++cap.map h)[i]? = (cap[i - nl]?).map h := by
  rw [List.getElem?_append_right (by simpa using hi),List.length_replicate,List.getElem?_map]
section
variable {X : Cx} {pins : List (Addr × Obj)} {σ : L2.St} {H H' : Hp} {s : Shared} {scope : Scope} {N' : List Str} {nl : Nat} {cap : List Nat} {cl : List (Str × Addr)} {C : Addr} {fp : List Addr} {g : GE} {G G' : GH} {m : List Md} {r : Rho}
theorem zrE (si : SI X g m r G σ H) (w : Grow X.K G H G' H') : SI (cxC X s H N' scope cl C fp) ⟨G,H,fun _ => none⟩ (capM nl cap m) (capR nl cap r) G' (capS nl cap σ) H' := by
  have lens : (capM nl cap m).length = nl + cap.length := by simp [capM]
  have lens2 : (capR nl cap r).length = nl + cap.length := by simp [capR]
  have lens3 : (capS nl cap σ).length = nl + cap.length := by simp [capS]
  have rget : ∀ (i : Nat) d,(capR nl cap r)[i]? = some (some d)→nl≤i∧∃ j,cap[i - nl]? = some j∧r[j]? = some (some d) := fun i d h => by
    by_cases hi : i < nl
    · unfold capR at h
      rw [List.getElem?_append_left (by simpa using hi),List.getElem?_replicate] at h
      split at h <;> cases h
    · refine ⟨by omega,?_⟩
      unfold capR at h
      rw [zfy (by omega)] at h
      cases e : cap[i - nl]? with
      | none => rw [e] at h; cases h
      | some j =>
        rw [e] at h
        refine ⟨j,rfl,?_⟩
        have h' : r.getD j none = some d := Option.some.inj h
        rw [List.getD_eq_getElem?_getD] at h'
        cases e2 : r[j]? with
        | none => rw [e2] at h'; cases h'
        | some o => rw [e2] at h'; rw [show o = some d from h']
  have mget : ∀ (i j : Nat) md,nl≤i→cap[i - nl]? = some j→(capM nl cap m)[i]? = some md→md = if m.getD j Md.sh = Md.sh then Md.sh else Md.bw := fun i j md hi hj h => by
    unfold capM at h
    rw [zfy hi,hj] at h
    exact (Option.some.inj h).symm
  have sget : ∀ (i j : Nat) v,nl≤i→cap[i - nl]? = some j→σ[j]? = some (some v)→(capS nl cap σ)[i]? = some (some v) := fun i j v hi hj h => by
    unfold capS
    rw [zfy hi,hj]
    show some (σ.getD j none) = _
    rw [List.getD_eq_getElem?_getD,h]
    rfl
  have mj : ∀ (j : Nat) d,r[j]? = some (some d)→m[j]? = some (m.getD j Md.sh) := fun j d h => by
    have hl : j < m.length := by
      have := (List.getElem?_eq_some_iff.mp h).1
      rw [si.lr,← si.lm] at this; exact this
    rw [List.getD_eq_getElem?_getD,List.getElem?_eq_getElem hl]
    rfl
  refine ⟨w.ok,w.he,w.ge,w.gf,by rw [lens,lens3],by rw [lens2,lens3],fun i d h hm => ?_,fun i d h hm => ?_,fun i d h hm => ?_,fun i j a d e _ h _ hm => ?_,fun i o h => nomatch h⟩
  · obtain ⟨hi,j,hj,hr⟩ := rget i d h
    have e := mget i j _ hi hj hm
    have hsh : m.getD j Md.sh = Md.sh := by
      by_cases z : m.getD j Md.sh = Md.sh
      · exact z
      · rw [if_neg z] at e; cases e
    obtain ⟨v,h1,h2⟩ := si.sh j d hr (by rw [mj j d hr,hsh])
    exact ⟨v,sget i j v hi hj h1,h2.mono w.ge⟩
  · obtain ⟨hi,j,hj,hr⟩ := rget i d h
    have e := mget i j _ hi hj hm
    split at e <;> cases e
  · obtain ⟨hi,j,hj,hr⟩ := rget i d h
    have e := mget i j _ hi hj hm
    have hsh : m.getD j Md.sh≠Md.sh := by
      intro z
      rw [if_pos z] at e; cases e
    have hmj := mj j d hr
    cases q : m.getD j Md.sh with
    | sh => exact absurd q hsh
    | ow =>
      rw [q] at hmj
      obtain ⟨a,h1,h2,_⟩ := si.ow j d hr hmj
      exact ⟨_,sget i j _ hi hj h1,.inr ⟨a,rfl,h2.mono w,h2.ob.isS⟩⟩
    | bw =>
      rw [q] at hmj
      obtain ⟨v,h1,h2⟩ := si.bw j d hr hmj
      refine ⟨v,sget i j _ hi hj h1,?_⟩
      rcases h2 with h2 | ⟨a,rfl,h2,_⟩
      · exact .inl (h2.mono w.ge)
      · exact .inr ⟨a,rfl,h2.mono w,h2.ob.isS⟩
  · obtain ⟨hi,j',hj,hr⟩ := rget i d h
    have e := mget i j' _ hi hj hm
    split at e <;> cases e
theorem zqn (I : Inv X pins σ H s) (ok : (cxC X s H N' scope cl C fp).Ok) (sc : CompSc X scope N' nl cap) (h1 : ∀ x c,cl.lookup x = some c→X.env.cells.lookup x = some c) (h2 : ∀ x,(x,NameKind.free)∈scope.names→∃ c,cl.lookup x = some c)
    (hN : X.N.Nodup) {s4 : Shared} {H4 : Hp} {mc : Str→Option Value} (hos : s4.os = s.os) (hb : AllBare s4.gens) (kp : ∀ b o,s.heap.get? b = some o→s4.heap.get? b = some o) (hns : s4.heap.Ns C mc) (hC : s.heap.objs.size≤C) (hHC : H4 C = none)
    (hH : ∀ b,H b = none→b < s.heap.objs.size→H4 b = none) (un : Un (frs X.stack) fp H H4 s.heap s4.heap) (hok : HOk X.prog X.w H4 s4.heap) : Inv (cxC X s H N' scope cl C fp) [] (capS nl cap σ) H4 s4 := by
  refine ⟨ok,hos,hb,un,⟨mc,hns,fun i x v e1 e2 e3 => ?_⟩,fun x c e => ?_,hHC,fun x c e => ?_,fun p hp => absurd (show p∈([] : List (Addr × Obj)) from hp) (by simp),hok,?_⟩
  · have hi : nl≤i := by
      by_cases z : i < nl
      · unfold capS at e2
        rw [List.getElem?_append_left (by simpa using z),List.getElem?_replicate] at e2
        split at e2 <;> cases e2
      · omega
    unfold capS at e2
    rw [zfy hi] at e2
    cases ej : cap[i - nl]? with
    | none => rw [ej] at e2; cases e2
    | some j =>
      rw [ej] at e2
      have hj : i - nl < cap.length := (List.getElem?_eq_some_iff.mp ej).1
      obtain ⟨x',q1,q2,q3⟩ := sc.capN (i - nl) hj
      have ed : cap.getD (i - nl) 0 = j := by rw [List.getD_eq_getElem?_getD,ej]; rfl
      rw [ed] at q2
      have ei : nl + (i - nl) = i := by omega
      rw [ei] at q1
      have e1' : N'[i]? = some x := e1
      rw [q1] at e1'
      have ex : x' = x := Option.some.inj e1'
      subst ex
      have hv : σ[j]? = some (some v) := by
        have z : σ.getD j none = some v := Option.some.inj e2
        rw [List.getD_eq_getElem?_getD] at z
        cases q : σ[j]? with
        | none => rw [q] at z; cases z
        | some o => rw [q] at z; rw [show o = some v from z]
      have hfree := PySem.mem_of_lookup q3
      have kX := sc.freeK _ hfree rfl
      obtain ⟨mx,hnx,hl⟩ := I.loc
      obtain ⟨u,ru,lk⟩ := hl j x' v q2 hv (.inr kX)
      refine ⟨u,ru,.inr ?_⟩
      obtain ⟨c,ec⟩ := h2 x' hfree
      have hkk : Env.kindOf (cxC X s H N' scope cl C fp).env x' = some .cell∨Env.kindOf (cxC X s H N' scope cl C fp).env x' = some .free := by
        have z : (relabel scope X.env).names.lookup x' = some (relK X.env x' .free) := by rw [zdv,q3]; rfl
        show (relabel scope X.env).names.lookup x' = _∨(relabel scope X.env).names.lookup x' = _
        rw [z]
        unfold relK
        split
        · exact .inl rfl
        · exact .inr rfl
      refine ⟨hkk,c,ec,?_⟩
      rcases lk with ⟨k,_⟩ | ⟨_,c',ec',hcell⟩
      · rcases kX with z | z <;> rw [k] at z <;> cases z
      · rw [h1 x' c ec] at ec'
        cases ec'
        obtain ⟨o,ho,hd⟩ := hcell
        exact ⟨o,kp c o ho,hd⟩
  · obtain ⟨v,o,ho,hd⟩ := I.cell x c (h1 x c e)
    exact ⟨v,o,kp c o ho,hd⟩
  · obtain ⟨v,o,ho,hd⟩ := I.cell x c (h1 x c e)
    exact hH c (I.freeC x c (h1 x c e)) (Heap.lt_size ho)
  · show (capS nl cap σ).length = N'.length
    rw [sc.len]
    simp [capS]
end
end DL
end
section
namespace DL
open PySem PySem.Spec PyProof.Rows L2
section
variable {prog : Program} {w : World} {A : Around} {R : Result → Shared → Prop} {s : Shared}
theorem zoj {elt target iter : Expr} {ifs : List Expr} {scope : Scope} {pos : Pos} {it acc : Value} {env : Env} (I : Nat→Shared→Prop)
    (turn : ∀ n s,I n s→wpAny (model prog w) A (pyNext it) (fun r s1 => match r with
      | none => R (.ok .next) s1
      | some v => wpAny (model prog w) A (letOwnedTupleGo target it v) (fun _ s1' => wpAny (model prog w) A (assign target env v) (fun _ s2 =>
          wpAny (model prog w) A (forIn ifs true fun c r => if r = true then do let ok ← isTrue c env (eval c env); pure (ForInStep.yield ok) else pure (ForInStep.yield r)) (fun ok s3 =>
            if ok = true then wpAny (model prog w) A (eval elt env) (fun x s4 =>
              wpAny (model prog w) A (call (.builtin "list.append") [acc,x]) (fun _ s5 => ∃ m,m < n∧I m s5) (notedBy (model prog w) A env fun e s' => R (.error e) s') s4) (notedBy (model prog w) A env fun e s' => R (.error e) s') s3
            else ∃ m,m < n∧I m s3) (notedBy (model prog w) A env fun e s' => R (.error e) s') s2) (notedBy (model prog w) A env fun e s' => R (.error e) s') s1')
          (notedBy (model prog w) A env fun e s' => R (.error e) s') s1) (notedBy (model prog w) A env fun e s' => R (.error e) s') s)
    (n : Nat) (h : I n s) : codeAny (model prog w) A (.compLoop (.ListComp elt [⟨target,iter,ifs,0⟩] scope pos) 0 it acc env) R s := by
  refine codeAny_loop rfl I (fun n s hI => ?_) n h
  show wpAny _ A ((compTurn (.ListComp elt [⟨target,iter,ifs,0⟩] scope pos) 0 it acc env).onRaise (fun x => do noteFrame x env; theTreesLotGoes x)) _ _ s
  refine wpAny_noted ?_
  rw [compTurn_list]
  refine wpAny_bind (wpAny_standAt (wpAny_bind (wpAny_mono (turn n s hI) (fun r s1 h1 => ?_) fun _ _ h' => h')))
  cases r with
  | none => exact wpAny_pure h1
  | some v =>
    refine wpAny_bind (wpAny_mono h1 (fun _ s1' h1' => ?_) fun _ _ h' => h')
    refine wpAny_bind (wpAny_mono h1' (fun _ s2 h2 => wpAny_bind (wpAny_mono h2 (fun ok s3 h3 => ?_) fun _ _ h' => h')) fun _ _ h' => h')
    cases ok with
    | false => exact wpAny_pure ⟨rfl,h3⟩
    | true =>
      exact wpAny_bind (wpAny_bind (wpAny_mono h3 (fun x s4 h4 => wpAny_bind (wpAny_mono h4 (fun _ s5 h5 => wpAny_pure (wpAny_pure ⟨rfl,h5⟩)) fun _ _ h' => h')) fun _ _ h' => h'))
end
noncomputable def SQs (X : Cx) (g : GE) (m : List Md) (ifs : List Expr) (f : FQ) : Prop := ∀ (pins : List (Addr × Obj)) (s : Shared) (σ : L2.St) (H : Hp) (Q : Bool→Hp→Prop),Inv X pins σ H s→tQ X g m f σ H Q →
  wpAny (model X.prog X.w) X.A (forIn ifs true fun c r => if r = true then do let ok ← isTrue c X.env (eval c X.env); pure (ForInStep.yield ok) else pure (ForInStep.yield r)) (TP X pins σ Q) X.xe s
section
variable {X : Cx} {g : GE} {m : List Md} {c : Expr} {p : FQ}
theorem zjY : SQs X g m [] fun _ => .ok true := fun pins s σ H Q I ⟨r,G,si,q⟩ => wpAny_tests_nil ⟨H,I,q G H (Grow.refl si.gok)⟩
theorem zfc (h : SQ X g m c p) : SQs X g m [c] p := fun pins s σ H Q I q => wpAny_tests_one (h pins s σ H Q I q)
end
noncomputable def FtOk (ft : FT) (nl : Nat) : Prop := ∀ d r r1,ft d r = some r1→r1.length = r.length∧∀ i,nl≤i→r1[i]? = r[i]?
noncomputable def zmt (ft : FTs) (nl : Nat) : Prop := ∀ d r r1,ft d r = some r1→r1.length = r.length∧∀ i,nl≤i→r1[i]? = r[i]?
theorem zcY {i nl : Nat} (h : i < nl) : FtOk (ftN i) nl := fun d r r1 e => by
  cases e
  exact ⟨by simp,fun j hj => by rw [List.getElem?_set_ne (by omega)]⟩
theorem zl4 {nl : Nat} : zmt zfX nl := fun ds r r1 e => by
  cases ds with
  | nil => cases e; exact ⟨rfl,fun _ _ => rfl⟩
  | cons _ _ => cases e
theorem zhp {ft : FT} {fts : FTs} {nl : Nat} (h1 : FtOk ft nl) (h2 : zmt fts nl) : zmt (zbg ft fts) nl := fun ds r r1 e => by
  cases ds with
  | nil => cases e
  | cons d ds =>
    have e' : ((ft d r).bind fun r' => fts ds r') = some r1 := e
    cases q : ft d r with
    | none => rw [q] at e'; cases e'
    | some r2 =>
      rw [q] at e'
      obtain ⟨a1,a2⟩ := h1 d r r2 q
      obtain ⟨b1,b2⟩ := h2 ds r2 r1 e'
      exact ⟨b1.trans a1,fun i hi => (b2 i hi).trans (a2 i hi)⟩
theorem zqc {fts : FTs} {nl : Nat} (h : zmt fts nl) : FtOk (ftT fts) nl := fun d r r1 e => by
  cases d with
  | tup ds => exact h ds r r1 e
  | _ => cases e
section
variable {X : Cx} {pins : List (Addr × Obj)} {σ : L2.St} {H2 : Hp} {s2 : Shared} {scope : Scope} {N' : List Str} {nl : Nat} {cap : List Nat} {cl : List (Str × Addr)} {fp : List Addr} {g : GE} {G2 : GH} {m : List Md} {r : Rho} {elt tg iter : Expr} {ifs : List Expr} {pos : Pos}
  {J : It} {it : Addr} {tn : Nat→Heap→Prop} {ds vs : List D} {ft : FT} {q : FQ} {fe : FE} {E : Value→Shared→Prop}
theorem zol (i : Nat) : (capM nl cap m)[i]?≠some Md.ow := fun h => by
  by_cases hi : i < nl
  · unfold capM at h
    rw [List.getElem?_append_left (by simpa using hi),List.getElem?_replicate] at h
    split at h <;> cases h
  · unfold capM at h
    rw [zfy (by omega)] at h
    cases e : cap[i - nl]? with
    | none => rw [e] at h; cases h
    | some j =>
      rw [e] at h
      have h' : (if m.getD j Md.sh = Md.sh then Md.sh else Md.bw) = Md.ow := Option.some.inj h
      split at h' <;> cases h'
theorem zlb {i : Nat} (hi : i < nl) (d : D) : (capR nl cap r)[i]?≠some (some d) := fun h => by
  unfold capR at h
  rw [List.getElem?_append_left (by simpa using hi),List.getElem?_replicate] at h
  split at h <;> cases h
theorem zhu (hN : X.N.Nodup) (hcalm : X.calm = true) (sc : CompSc X scope N' nl cap) (h1 : ∀ x c,cl.lookup x = some c→X.env.cells.lookup x = some c) (h2 : ∀ x,(x,NameKind.free)∈scope.names→∃ c,cl.lookup x = some c)
    (I2 : Inv X pins σ H2 s2) (si : SI X g m r G2 σ H2) (T : Turn X.prog X.w X.K tg J fp it tn) (st : tn 0 s2.heap) (hf : ∀ b∈fp,FpOk X pins H2 b) (Y : YieldsC X.K J ds G2 H2) (hsz : ds.length≤sizeLine)
    (hg : ∀ C,SG (cxC X s2 H2 N' scope cl C fp) ⟨G2,H2,fun _ => none⟩ (capM nl cap m) tg ft (capM nl cap m)) (hft : FtOk ft nl) (hq : ∀ C,SQs (cxC X s2 H2 N' scope cl C fp) ⟨G2,H2,fun _ => none⟩ (capM nl cap m) ifs q) (he : ∀ C,SE (cxC X s2 H2 N' scope cl C fp) ⟨G2,H2,fun _ => none⟩ (capM nl cap m) elt fe)
    (hres : zdE ft q fe (capR nl cap r) ds = .ok vs) {RR : Value→Addr→Result→Shared→Prop}
    (hRR : ∀ (p C : Addr) (s' : Shared) (H' : Hp) (G' : GH),Inv X pins σ H' s'→(∃ mm,s'.heap.Ns C mm)→H' C = none→C≠X.env.locals→X.s₀.heap.objs.size≤C→(∀ x c,X.env.cells.lookup x = some c→c≠C)→(∀ z∈X.pn++pins,z.1≠C) →
      Grow X.K G2 H2 G' H'→H2 p = none→Own X.K G' H' p (.lst vs)→RR (.ref p) C (.ok .next) s') :
    wpAny (model X.prog X.w) X.A (newList []) (fun acc s3 => wpAny (model X.prog X.w) X.A (newFunctionEnv scope X.env.globals cl [] X.env.qual none .none (some X.env)) (fun cenv s4 =>
      codeAny (model X.prog X.w) X.A (.compStart (.ListComp elt [⟨tg,iter,ifs,0⟩] scope pos) 0 (.ref it) acc { cenv with scope := relabel scope X.env }) (RR acc cenv.locals) s4) E s3) E s2 := by
  refine wpAny_newObj_type (wpAny_newFunctionEnv sc.nocell (by intro y hy; simp at hy) (fun h₁ hns₁ hsb₁ => ?_) sc.kind)
  dsimp only at hns₁ hsb₁ ⊢
  generalize hH2 : s2.heap.push { cls := .type "list",dict := none,data := .seq ([] : List Value).toArray } = HH at hns₁ hsb₁ ⊢
  have hC : HH.objs.size = s2.heap.objs.size + 1 := by rw [← hH2,Heap.size_push]
  have hDC : s2.heap.objs.size≠HH.objs.size := by rw [hC]; exact Nat.ne_of_lt (Nat.lt_succ_self _)
  have hCle : s2.heap.objs.size≤HH.objs.size := by rw [hC]; exact Nat.le_succ _
  have below : ∀ b,b < s2.heap.objs.size→b≠HH.objs.size∧b≠s2.heap.objs.size := fun b hb => ⟨by rw [hC]; exact Nat.ne_of_lt (Nat.lt_succ_of_lt hb),Nat.ne_of_lt hb⟩
  have old : ∀ b o,s2.heap.get? b = some o→h₁.get? b = some o := fun b o e => hsb₁.extBut b o (below b (Heap.lt_size e)).1 (Heap.get?_push_of_some _ (hH2 ▸ Heap.get?_push_of_some _ e))
  have hacc : h₁.get? s2.heap.objs.size = some { cls := .type "list",dict := none,data := .seq ([] : List Value).toArray } := hsb₁.extBut _ _ hDC (Heap.get?_push_of_some _ (hH2 ▸ Heap.get?_push_size _ rfl))
  have hp2 : H2 s2.heap.objs.size = none := I2.hok.fresh (Nat.le_refl _)
  have hflt : ∀ b∈fp,FpOk X pins H2 b∧b < s2.heap.objs.size := fun b hb => ⟨hf b hb,by
    obtain ⟨o,e,_⟩ := T.obj 0 s2.heap st b hb
    exact Heap.lt_size e⟩
  have ok := zqk (fp := fp) I2 sc h1 h2 hflt hCle
  generalize hXX : cxC X s2 H2 N' scope cl HH.objs.size fp = XX at ok
  have hG2p : G2 s2.heap.objs.size = none := si.gok.isN hp2
  have w0 : Grow X.K G2 H2 G2 (upd H2 s2.heap.objs.size (.lst [])) := Grow.new si.gok hp2 _
  have hok4 : HOk X.prog X.w (upd H2 s2.heap.objs.size (.lst [])) h₁ := I2.hok.laid old (Nat.le_refl _) ⟨Nat.zero_le _,[],0,.nil,hacc⟩
  have IC : Inv XX [] (capS nl cap σ) (upd H2 s2.heap.objs.size (.lst [])) { s2 with heap := h₁,toks := s2.toks + ([] : List (Str × Value)).length } := by
    subst hXX
    refine zqn I2 ok sc h1 h2 hN rfl I2.bare old hns₁ hCle ?_ (fun b hb hlt => ?_) (Un.laid old (Nat.le_refl _) hp2) hok4
    · rw [zay (Ne.symm hDC)]; exact I2.hok.fresh hCle
    · rw [zay (below b hlt).2]; exact hb
  have SC : SI XX ⟨G2,H2,fun _ => none⟩ (capM nl cap m) (capR nl cap r) G2 (capS nl cap σ) (upd H2 s2.heap.objs.size (.lst [])) := by
    subst hXX
    exact zrE si w0
  have hst₁ : tn 0 h₁ := T.keep _ _ _ st fun b _ o e => old b o e
  have hfX : ∀ (H' : Hp),(∀ b∈fp,H' b = none)→∀ b∈fp,FpOk XX [] H' b := fun H' hn b hb => by
    clear IC SC
    subst hXX
    obtain ⟨z0,z1,z2,z3,z4,z5⟩ := hf b hb
    refine ⟨hn b hb,?_,?_,?_,?_,?_⟩
    · exact (below b (hflt b hb).2).1
    · intro hfs
      rcases List.mem_cons.mp (I2.stkSub b hfs) with z | z
      · exact z1 z
      · exact z2 z
    · exact .inl hb
    · exact fun x c e => z4 x c (h1 x c e)
    · intro p hp; exact absurd (show p∈([] : List (Addr × Obj)) from hp) (by simp)
  have eA : XX.A = X.A := Eq.rec (motive := fun z _ => z.A = X.A) rfl hXX
  have eP : XX.prog = X.prog := Eq.rec (motive := fun z _ => z.prog = X.prog) rfl hXX
  have eW : XX.w = X.w := Eq.rec (motive := fun z _ => z.w = X.w) rfl hXX
  have eK : XX.K = X.K := Eq.rec (motive := fun z _ => z.K = X.K) rfl hXX
  have eX : XX.xe = fun _ _ => False := Eq.rec (motive := fun z _ => z.xe = fun _ _ => False) rfl hXX
  have eE : XX.env = compEnvC scope cl HH.objs.size X.env := Eq.rec (motive := fun z _ => z.env = compEnvC scope cl HH.objs.size X.env) rfl hXX
  have eC : XX.calm = true := Eq.rec (motive := fun z _ => z.calm = true) hcalm hXX
  have eH : XX.H₀ = H2 := Eq.rec (motive := fun z _ => z.H₀ = H2) rfl hXX
  have hg' : PG XX tg (tG XX ⟨G2,H2,fun _ => none⟩ (capM nl cap m) (capM nl cap m) ft) := Eq.rec (motive := fun z _ => PG z tg (tG z ⟨G2,H2,fun _ => none⟩ (capM nl cap m) (capM nl cap m) ft)) (hg _).2 hXX
  have hq' : SQs XX ⟨G2,H2,fun _ => none⟩ (capM nl cap m) ifs q := Eq.rec (motive := fun z _ => SQs z ⟨G2,H2,fun _ => none⟩ (capM nl cap m) ifs q) (hq _) hXX
  have he' : SE XX ⟨G2,H2,fun _ => none⟩ (capM nl cap m) elt fe := Eq.rec (motive := fun z _ => SE z ⟨G2,H2,fun _ => none⟩ (capM nl cap m) elt fe) (he _) hXX
  have fin' : ∀ {H' : Hp} {s' : Shared} {σ' : L2.St} {G' : GH} {ws : List V},Inv XX [] σ' H' s'→Grow X.K G2 H2 G' H'→H' s2.heap.objs.size = some (.lst ws)→G' s2.heap.objs.size = none→RGs X.K G' ws vs→RR (.ref s2.heap.objs.size) HH.objs.size (.ok .next) s' := fun {H' s' σ' G' ws} J1 wg hpp hgp rs => by
    clear IC SC hfX hg' hq' he' eA eP eW eK eX eE eC eH
    subst hXX
    have un := J1.base
    refine hRR _ _ s' H' G' ?_ (let ⟨mm,hn,_⟩ := J1.loc; ⟨mm,hn⟩) J1.free (Nat.ne_of_gt (Nat.lt_of_lt_of_le I2.lt hCle)) (Nat.le_trans I2.sz hCle) (fun x c e z => ?_) (fun z hz e => ?_) wg hp2 ⟨hgp,.lst hpp rs⟩
    · refine I2.call' J1.os un J1.hok J1.bare fun b hb => ?_
      obtain ⟨z0,z1,z2,z3,z4,z5⟩ := hf b hb
      exact ⟨z3,z1,z4,z5⟩
    · obtain ⟨v,o,ho,_⟩ := I2.cell x c e
      exact absurd (Nat.lt_of_lt_of_le (Heap.lt_size ho) hCle) (by rw [z]; exact Nat.lt_irrefl _)
    · have := (I2.pin z hz).1
      exact absurd (Nat.lt_of_lt_of_le (Heap.lt_size this) hCle) (by rw [e]; exact Nat.lt_irrefl _)
  have loop : codeAny (model X.prog X.w) X.A (.compLoop (.ListComp elt [⟨tg,iter,ifs,0⟩] scope pos) 0 (.ref it) (.ref s2.heap.objs.size) (compEnvC scope cl HH.objs.size X.env)) (RR (.ref s2.heap.objs.size) HH.objs.size)
      { s2 with heap := h₁,toks := s2.toks + ([] : List (Str × Value)).length } := by
    refine zoj (fun n s' => ∃ (i : Nat) (σ' : L2.St) (H' : Hp) (G' : GH) (ws : List V) (done rest : List D),Inv XX [] σ' H' s'∧SI XX ⟨G2,H2,fun _ => none⟩ (capM nl cap m) (capR nl cap r) G' σ' H'∧tn i s'.heap∧(∀ b∈fp,H' b = none)∧Grow X.K G2 H2 G' H' ∧
        H' s2.heap.objs.size = some (.lst ws)∧G' s2.heap.objs.size = none∧RGs X.K G' ws done∧zdE ft q fe (capR nl cap r) (ds.drop i) = .ok rest∧vs = done++rest∧done.length≤i∧i≤ds.length∧n = ds.length - i) ?_ ds.length
      ⟨0,_,_,G2,[],[],vs,IC,SC,hst₁,fun b hb => ?_,w0,zam,hG2p,.nil,hres,rfl,Nat.le_refl _,Nat.zero_le _,rfl⟩
    rotate_left
    · rw [zay (below b (hflt b hb).2).2]; exact (hf b hb).1
    rintro n s3 ⟨i,σ3,H3,G3,ws,done,rest,I3,S3,st3,fr3,w3,hp3,hg3,rs3,hr3,hv3,hd3,hi3,rfl⟩
    have weaken : ∀ {α : Type} {t : Sem α} {Q : α→Shared→Prop} {s' : Shared} {E' : Value→Shared→Prop},wpAny (model XX.prog XX.w) XX.A t Q XX.xe s'→wpAny (model X.prog X.w) X.A t Q E' s' := fun h => by
      rw [eP,eW,eA,eX] at h
      exact wpAny_mono h (fun _ _ z => z) fun _ _ z => z.elim
    by_cases hlt : i < ds.length
    · have hd : ds.drop i = ds[i]::ds.drop (i + 1) := List.drop_eq_getElem_cons hlt
      rw [hd] at hr3
      unfold zdE at hr3
      have it3 := T.item XX eP eW eK eC i [] s3 σ3 H3 (notedBy (model X.prog X.w) X.A (compEnvC scope cl HH.objs.size X.env) fun e s' => RR (.ref s2.heap.objs.size) HH.objs.size (.error e) s') I3 (hfX H3 fr3) st3 (Y.go G3 H3 i w3 hlt)
      rw [eA] at it3
      refine thn it3 fun rr s4 ⟨u,hr,h4⟩ => ?_
      subst hr
      refine thn h4 fun _ s5 ⟨x,H5,I5,r5,y5,st5,fr5⟩ => ?_
      obtain ⟨G5,w5,rv5⟩ := Y.yld G3 H3 i x H5 ds[i] w3 y5 (List.getElem?_eq_getElem hlt)
      have w25 := w3.trans w5
      cases eft : ft ds[i] (capR nl cap r) with
      | none => rw [eft] at hr3; cases hr3
      | some r1 =>
        rw [eft] at hr3
        simp only [opt_some,bind_ok] at hr3
        have I5' := I5.pinned (hfX H5 fr5) (T.obj _ _ st5)
        have S5 : SI XX ⟨G2,H2,fun _ => none⟩ (capM nl cap m) (capR nl cap r) G5 σ3 H5 := S3.grow (by rw [eK]; exact w5)
        have rv5' : RG XX.K G5 x ds[i] := by rw [eK]; exact rv5
        have as5 := hg' _ s5 σ3 H5 x u (fun σ6 H6 => H6 = H5∧SI XX ⟨G2,H2,fun _ => none⟩ (capM nl cap m) r1 G5 σ6 H5) I5' r5 ⟨capR nl cap r,G5,ds[i],S5,rv5',r1,eft,fun σ6 si6 => ⟨rfl,si6⟩⟩
        rw [eE] at as5
        refine thn (weaken as5) fun _ s6 ⟨σ6,H6,I6,e6,S6⟩ => ?_
        subst e6
        obtain ⟨fl1,fl2⟩ := hft _ _ _ eft
        cases eq1 : q r1 with
        | stuck => rw [eq1] at hr3; cases hr3
        | exc xx => rw [eq1] at hr3; cases hr3
        | ok b1 =>
          rw [eq1] at hr3
          simp only [bind_ok] at hr3
          have te6 := hq' _ s6 σ6 H6 (fun b H7 => b = b1∧∃ G7,Grow X.K G5 H6 G7 H7) I6 ⟨r1,G5,S6,by rw [eq1]; exact fun G7 H7 w7 => ⟨rfl,G7,by rw [eK] at w7; exact w7⟩⟩
          rw [eE] at te6
          refine thn (weaken te6) fun b s7 ⟨H7,I7,eb,G7,w7⟩ => ?_
          subst eb
          have S7 : SI XX ⟨G2,H2,fun _ => none⟩ (capM nl cap m) r1 G7 σ6 H7 := S6.grow (by rw [eK]; exact w7)
          have w27 := w25.trans w7
          have hp7 : H7 s2.heap.objs.size = some (.lst ws) := w7.he _ _ (w5.he _ _ hp3)
          have hg7 : G7 s2.heap.objs.size = none := by
            rw [w7.gf _ (by rw [w5.he _ _ hp3]; simp),w5.gf _ (by rw [hp3]; simp)]; exact hg3
          have back : ∀ {σ8 : L2.St} {H8 : Hp} {G8 : GH} {s8 : Shared},Inv XX ([]++zhe fp s5.heap) σ8 H8 s8→Inv XX [] σ8 H8 s8∧tn (i + 1) s8.heap∧∀ b∈fp,H8 b = none := fun {σ8 H8 G8 s8} I8 => by
            refine ⟨I8.unpinned,T.keep _ _ _ st5 fun b hb o e => (I8.pin (b,o) (List.mem_append_right _ (List.mem_append_right _ (zde hb e)))).1,fun b hb => ?_⟩
            obtain ⟨o,e,_⟩ := T.obj _ _ st5 b hb
            exact (I8.pin (b,o) (List.mem_append_right _ (List.mem_append_right _ (zde hb e)))).2.1
          have less : ∀ {σ8 : L2.St} {H8 : Hp} {G8 : GH},SI XX ⟨G2,H2,fun _ => none⟩ (capM nl cap m) r1 G8 σ8 H8→SI XX ⟨G2,H2,fun _ => none⟩ (capM nl cap m) (capR nl cap r) G8 σ8 H8 := fun h => h.less fl1.symm fun j d hj => by
            by_cases hjn : j < nl
            · exact absurd hj (zlb hjn d)
            · rw [fl2 j (by omega)]; exact hj
          cases b with
          | false =>
            rw [if_neg Bool.false_ne_true] at hr3 ⊢
            obtain ⟨I7',t7,f7⟩ := back (G8 := G7) I7
            exact ⟨ds.length - (i + 1),by omega,i + 1,σ6,H7,G7,ws,done,rest,I7',less S7,t7,f7,w27,hp7,hg7,rs3.mono (Gle.trans w5.ge w7.ge),hr3,hv3,by omega,hlt,rfl⟩
          | true =>
            rw [if_pos rfl] at hr3 ⊢
            cases ee1 : fe r1 with
            | stuck => rw [ee1] at hr3; cases hr3
            | exc xx => rw [ee1] at hr3; cases hr3
            | ok d1 =>
              rw [ee1] at hr3
              simp only [bind_ok] at hr3
              cases er : zdE ft q fe (capR nl cap r) (ds.drop (i + 1)) with
              | stuck => rw [er] at hr3; cases hr3
              | exc xx => rw [er] at hr3; cases hr3
              | ok rest' =>
                rw [er] at hr3
                simp only [bind_ok] at hr3
                cases hr3
                have el7 := he' _ s7 σ6 H7 (fun v H8 => ∃ G8,Grow X.K G7 H7 G8 H8∧RG X.K G8 v d1) I7 ⟨r1,G7,S7,by rw [ee1]; exact fun v G8 H8 w8 rv => ⟨G8,by rw [eK] at w8; exact w8,by rw [eK] at rv; exact rv⟩⟩
                rw [eE] at el7
                refine thn (weaken el7) fun u8 s8 ⟨v8,H8,I8,r8,G8,w8,rv8⟩ => ?_
                have hp8 : H8 s2.heap.objs.size = some (.lst ws) := w8.he _ _ hp7
                have hg8 : G8 s2.heap.objs.size = none := by rw [w8.gf _ (by rw [hp7]; simp)]; exact hg7
                have S8 : SI XX ⟨G2,H2,fun _ => none⟩ (capM nl cap m) r1 G8 σ6 H8 := S7.grow (by rw [eK]; exact w8)
                have hlen := Paired.length rs3
                have ap8 := zaH (X := XX) _ s8 σ6 H8 (.ref s2.heap.objs.size) [v8] (.ref s2.heap.objs.size) [u8] (fun v H9 => H9 = upd H8 s2.heap.objs.size (.lst (ws++[v8]))) I8 rfl (.cons r8 .nil) ⟨_,ws,v8,rfl,rfl,hp8,by omega,rfl⟩
                refine thn (weaken ap8) fun u9 s9 ⟨v9,H9,I9,r9,e9⟩ => ?_
                subst e9
                obtain ⟨I9',t9,f9⟩ := back (G8 := G8) I9
                have rsn : RGs X.K G8 (ws++[v8]) (done++[d1]) := Paired.snoc (rs3.mono (Gle.trans (Gle.trans w5.ge w7.ge) w8.ge)) rv8
                have w28 := w27.trans w8
                refine ⟨ds.length - (i + 1),by omega,i + 1,σ6,_,G8,ws++[v8],done++[d1],rest',I9',less (S8.other hg8 hp2 zol _),t9,f9,?_,zam,hg8,rsn,er,by rw [hv3,List.append_assoc]; rfl,by rw [List.length_append,List.length_singleton]; omega,hlt,rfl⟩
                refine ⟨fun b e hb => (w28.ok b e hb).mono (fun _ _ z => z) fun o z => ?_,fun b o hb => ?_,w28.ge,w28.gf⟩
                · rw [zay (by rintro rfl; rw [hg8] at hb; cases hb)]; exact z
                · rw [zay (by rintro rfl; rw [hp2] at hb; cases hb)]; exact w28.he b o hb
    · have e : i = ds.length := by omega
      subst e
      rw [List.drop_length] at hr3
      cases hr3
      rw [List.append_nil] at hv3
      subst hv3
      have dn := T.done XX eP eW eK eC ds.length [] s3 σ3 H3 (notedBy (model X.prog X.w) X.A (compEnvC scope cl HH.objs.size X.env) fun e s' => RR (.ref s2.heap.objs.size) HH.objs.size (.error e) s') I3 (hfX H3 fr3) st3 (Y.stop G3 H3 w3)
      rw [eA] at dn
      refine thn dn fun rr s4 ⟨hr,I4⟩ => ?_
      subst hr
      exact fin' I4 w3 hp3 hg3 rs3
  exact codeAny_compStart_list loop (T.self X.A 0 _ _ _ hst₁ loop)
end
end DL
end
section
namespace DL
open PySem PySem.Spec PyProof.Rows L2
noncomputable def noXL : Res (List D)→Res (List D)
  | .ok d => .ok d
  | _ => .stuck
@[simp] theorem noXL_ok (d : List D) : noXL (.ok d) = .ok d := rfl
noncomputable def zd4 (nl : Nat) (cap : List Nat) (fi : FI) (ft : FT) (q : FQ) (fe : FE) : FE := fun r => (fi r).bind fun ds => (opt (sz ds)).bind fun ds => (noXL (zdE ft q fe (capR nl cap r) ds)).bind fun vs => .ok (.lst vs)
section
variable {X : Cx} {g : GE} {m mb : List Md} {scope : Scope} {N' : List Str} {nl : Nat} {cap : List Nat} {elt tg iter : Expr} {ifs : List Expr} {pos pos' spos : Pos} {fi : FI} {ft : FT} {q : FQ} {fe : FE} {ro : Bool}
theorem zhq {r : Rho} {P : D→Prop} {x : D→Prop} (h : fin (zd4 nl cap fi ft q fe r) P x) : fin (fi r) (fun ds => ∃ vs,ds.length≤sizeLine∧zdE ft q fe (capR nl cap r) ds = .ok vs∧P (.lst vs)) x := by
  unfold zd4 at h
  refine zah (zaf h) fun ds h1 => ?_
  obtain ⟨ds',e2,h2⟩ := zax (zaf h1)
  obtain ⟨rfl,hl⟩ := znl e2
  cases e3 : zdE ft q fe (capR nl cap r) ds' with
  | ok vs => rw [e3] at h2; exact ⟨vs,hl,rfl,h2⟩
  | exc x => rw [e3] at h2; exact h2.elim
  | stuck => rw [e3] at h2; exact h2.elim
theorem CompSc.clo {pins : List (Addr × Obj)} {σ : L2.St} {H : Hp} {s : Shared} (sc : CompSc X scope N' nl cap) (ok : X.Ok) : ∃ cl,closureFor scope X.env = pure cl∧(∀ x c,cl.lookup x = some c→X.env.cells.lookup x = some c)∧(∀ x,(x,NameKind.free)∈scope.names→∃ c,cl.lookup x = some c) :=
  zjj fun y hy hf => ok.has y.1 (sc.freeK y hy hf)
theorem zir (hN : X.N.Nodup) (hcalm : X.calm = true) (sc : CompSc X scope N' nl cap) (hi : SItC X g m tg iter fi) (hg : ∀ s0 H0 cl C fp g',SG (cxC X s0 H0 N' scope cl C fp) g' (capM nl cap m) tg ft (capM nl cap m)) (hft : FtOk ft nl)
    (hq : ∀ s0 H0 cl C fp g',SQs (cxC X s0 H0 N' scope cl C fp) g' (capM nl cap m) ifs q) (he : ∀ s0 H0 cl C fp g',SE (cxC X s0 H0 N' scope cl C fp) g' (capM nl cap m) elt fe)
    (hs : ∀ x,foldedSetIterable iter X.env x = pure x := by intro _; rfl) : SO X g m (.ListComp elt [⟨tg,iter,ifs,0⟩] scope pos) (zd4 nl cap fi ft q fe) := by
  intro pins s σ H Q I h
  obtain ⟨r,G,si,k⟩ := h
  obtain ⟨cl,hcl,h1,h2⟩ := sc.clo (pins := pins) (σ := σ) (H := H) (s := s) I.ok
  have k1 := zhq k
  rw [eval_ListComp]
  refine wpAny_comprehension_free (use := none) rfl hs hcl sc.kind sc.names (thn (hi pins s σ H (fun J H' => ∃ G' ds vs,Grow X.K G H G' H'∧YieldsC X.K J ds G' H'∧ds.length≤sizeLine∧zdE ft q fe (capR nl cap r) ds = .ok vs ∧
    (∀ a G' H',Grow X.K G H G' H'→H a = none→Own X.K G' H' a (.lst vs)→Q (.ref a) H')) I ⟨r,G,si,zah k1 fun ds ⟨vs,z1,z2,z3⟩ J G' H' w y => ⟨G',ds,vs,w,y,z1,z2,z3⟩⟩) fun v s1 hv => thn hv fun itv s2 hv2 => ?_)
  obtain ⟨it,fp,tn,J,H2,rfl,I2,T,st,hf,G2,ds,vs,w2,Y,hsz,hres,hQ⟩ := hv2
  refine zhu (RR := fun acc C => compPost (model X.prog X.w) X.A X.xe none (EP X pins σ Q) acc C) hN hcalm sc h1 h2 I2 (si.grow w2) T st hf Y hsz (fun C => hg _ _ _ _ _ _) hft (fun C => hq _ _ _ _ _ _) (fun C => he _ _ _ _ _ _) hres ?_
  intro p C s' H' G' I' hns hC1 hC2 hC3 hC4 hC5 w' hp ho
  obtain ⟨mm,hn⟩ := hns
  refine ⟨mm,hn,fun h' hsb => ⟨.ref p,H',?_,rfl,hQ p G' H' (w2.trans w') (w2.back hp) ho⟩⟩
  exact I'.turned (it := C) (t' := s'.toks) (fun b o hb e => hsb.extBut b o hb e) hC1 hC2.symm.symm (.inr hC3) hC4 hC5
theorem zcb (i : Nat) {y : Str} (hN : X.N.Nodup) (hcalm : X.calm = true) (hy : X.N[i]? = some y) (hyl : X.env.scope.names.lookup y = some .local) (sc : CompSc X scope N' nl cap) (hi : SItC X g m tg iter fi) (hg : ∀ s0 H0 cl C fp g',SG (cxC X s0 H0 N' scope cl C fp) g' (capM nl cap m) tg ft (capM nl cap m)) (hft : FtOk ft nl)
    (hq : ∀ s0 H0 cl C fp g',SQs (cxC X s0 H0 N' scope cl C fp) g' (capM nl cap m) ifs q) (he : ∀ s0 H0 cl C fp g',SE (cxC X s0 H0 N' scope cl C fp) g' (capM nl cap m) elt fe)
    (hsw : swapsWith (.ListComp elt [⟨tg,iter,ifs,0⟩] scope pos) (some (.Name y pos')) spos.line X.env = pure true := by rfl) (hs : ∀ x,foldedSetIterable iter X.env x = pure x := by intro _; rfl) :
    SS X g ro mb m (.Assign [.Name y pos'] (.ListComp elt [⟨tg,iter,ifs,0⟩] scope pos) spos) (setF m i (zd4 nl cap fi ft q fe)) (m.set i .ow) := by
  refine ⟨by simp,?_⟩
  intro pins s σ H D0 I h
  obtain ⟨r,G,si,k⟩ := h
  obtain ⟨cl,hcl,h1,h2⟩ := sc.clo (pins := pins) (σ := σ) (H := H) (s := s) I.ok
  have k1 := zhq (zba si (m' := m.set i .ow) (by simp) k)
  rw [exec_Assign_Name_used _ _ _ _ hsw]
  refine wpAny_bind (wpAny_standAt (wpAny_bind ?_))
  show wpAny _ X.A (do let _ ← comprehension (.ListComp elt [⟨tg,iter,ifs,0⟩] scope pos) scope X.env _ (newList []) false (eval iter X.env) (some (assign (.Name y pos') X.env))) _ _ s
  refine wpAny_bind (wpAny_mono (wpAny_comprehension_free (use := some (assign (.Name y pos') X.env)) (Q := fun _ s' => SP X pins D0 .next s') rfl hs hcl sc.kind sc.names (thn (hi pins s σ H (fun J H' => ∃ G' ds vs,Grow X.K G H G' H'∧YieldsC X.K J ds G' H'∧ds.length≤sizeLine∧zdE ft q fe (capR nl cap r) ds = .ok vs ∧
    (∀ σ' G' H',Gle G G'→SI X g (m.set i .ow) (r.set i (some (.lst vs))) G' σ' H'→D0.nx σ' H')) I ⟨r,G,si,zah k1 fun ds ⟨vs,z1,z2,z3⟩ J G' H' w y => ⟨G',ds,vs,w,y,z1,z2,z3⟩⟩) fun v s1 hv => thn hv fun itv s2 hv2 => ?_)) (fun _ s' hq => wpAny_pure (wpAny_pure hq)) fun _ _ e => e)
  obtain ⟨it,fp,tn,J,H2,rfl,I2,T,st,hf,G2,ds,vs,w2,Y,hsz,hres,hQ⟩ := hv2
  refine zhu (RR := fun acc C => compPost (model X.prog X.w) X.A X.xe (some (assign (.Name y pos') X.env)) (fun _ s' => SP X pins D0 .next s') acc C) hN hcalm sc h1 h2 I2 (si.grow w2) T st hf Y hsz (fun C => hg _ _ _ _ _ _) hft (fun C => hq _ _ _ _ _ _) (fun C => he _ _ _ _ _ _) hres ?_
  intro p C s' H' G' I' hns hC1 hC2 hC3 hC4 hC5 w' hp ho
  obtain ⟨mm,hn⟩ := hns
  show wpAny _ X.A (assign (.Name y pos') X.env (.ref p)) _ _ s'
  refine wpAny_assign_Name (zgU I' hN hy (.inl hyl) (v := .ref p) rfl (fun s'' I'' ⟨a,hsb,ha⟩ => ?_) (.inr hyl))
  have hCa : C≠a := by
    rcases ha with z | z
    · rw [z]; exact hC2
    · exact (hC4 y a z).symm
  refine ⟨mm,hn.sameBut hsb hCa,fun h' hsb' => ?_⟩
  refine ⟨_,H',I''.turned (it := C) (t' := s''.toks) (fun b o hb e => hsb'.extBut b o hb e) hC1 hC2 (.inr hC3) hC4 hC5,?_⟩
  exact hQ _ G' H' (w2.trans w').ge (si.setN (w2.trans w') i (w2.back hp) ho)
end
end DL
end
section
namespace DL
open PySem PySem.Spec PyProof.Rows L2
noncomputable def MutD (K : PySem.W.Frag) (r : V→List V→Hp→VK→Prop) (mk : D→List D→Option D) : Prop := ∀ (G : GH) (H : Hp) (a : Addr) (d : D) (vs : List V) (ds : List D) (d' : D) (Q : VK),GOk K G H→Own K G H a d→RGs K G vs ds→mk d ds = some d' →
  (∀ o',OwnO K G (upd H a o') a d'→Q .non (upd H a o'))→r (.ref a) vs H Q
noncomputable def tyB (T : String) : D→Bool
  | .lst _ => T == "list"
  | .dic _ => T == "dict"
  | _ => false
noncomputable def mutF (T : String) (m : List Md) (i : Nat) (fl : Rho→Res (List D)) (mk : D→List D→Option D) : FS := fun r => match r[i]? with
  | some (some d) => if tyB T d = true then onE m r (fl r) fun ds => (match mk d ds with
    | some d' => .nx (r.set i (some d'))
    | none => .stuck) else .stuck
  | _ => .stuck
theorem zoD {K : PySem.W.Frag} {G : GH} {H : Hp} {a : Addr} {d : D} {T : String} (o : Own K G H a d) (t : tyB T d = true) : tyV K T (.ref a) H := by
  cases o.ob with
  | lst r s => exact .inl ⟨eq_of_beq t,_,SqL.of r⟩
  | dic r s => exact .inr (.inr (.inl ⟨eq_of_beq t,.inl ⟨_,.inl r⟩⟩))
section
variable {X : Cx} {g : GE} {m mb : List Md} {e a b o : Expr} {es : List Expr} {f fa fb : FE} {fl : Rho → Res (List D)} {pos pos' apos cpos : Pos} {ro : Bool} {x name : Str} {T id : String} {R : V → List V → Hp → VK → Prop} {mk : D → List D → Option D}
theorem ziu (i : Nat) (hm : m[i]? = some .ow) (hk : MutD X.K R mk) {D0 : Ends} {σ : L2.St} {H : Hp} (h : tS X g ro m m mb (mutF T m i fl mk) D0 σ H) :
    ∃ v,σ[i]? = some (some v)∧tyV X.K T v H∧tL X g m fl σ H fun xs H2 => R v xs H2 fun _ H1 => D0.nx σ H1 := by
  obtain ⟨r,G,si,k⟩ := h
  unfold mutF at k
  cases er : r[i]? with
  | none => simp only [er] at k; exact (show False from k).elim
  | some oo =>
    cases oo with
    | none => simp only [er] at k; exact (show False from k).elim
    | some d =>
      simp only [er] at k
      by_cases ht : tyB T d = true
      · rw [if_pos ht] at k
        obtain ⟨a,h1,h2,h3⟩ := si.mut hm er
        refine ⟨_,h1,zoD h2 ht,r,G,si,zah (zba si rfl k) fun ds k2 vs G' H' w rs => ?_⟩
        cases em : mk d ds with
        | none => simp only [em] at k2; exact (show False from k2).elim
        | some d' =>
          simp only [em] at k2
          obtain ⟨a',h1',h2',h3'⟩ := (si.grow w).mut hm er
          rw [h1] at h1'; cases h1'
          exact hk G' H' a d vs ds d' _ w.ok h2' rs em fun o' ob => k2 σ G' _ w.ge (h3' o' d' ob)
      · rw [if_neg ht] at k; exact (show False from k).elim
theorem zcT (i : Nat) (hm : m[i]? = some .ow) (pa : PlainAttrs T) (slot : Slot T name id) (hty : typeOf (.builtin id) = pure (.type "method_descriptor")) (hmt : MtR X id R) (hk : MutD X.K R mk) (hN : X.N[i]? = some x) (hv : Vis X.env.scope x) (ha : SA X g m (e::es) fl)
    (hd : (x == ("__debug__" : Str)) = false := by decide) (hcd : (x == ("__classdict__" : Str)) = false := by decide)
    (hbase : attributeBase (.Name x pos') name X.env (eval (.Name x pos') X.env) = eval (.Name x pos') X.env := by rfl)
    (hfew : ((backTo cpos (starEach (e::es) X.env)).all (fun x => ! x.1) && (backToKw cpos (keywordEach [] X.env)).all (fun x => x.1.isSome) && decide ((e::es).length + ([] : List Keyword).length + (if ([] : List Keyword).isEmpty then 0 else 1) < 30)) = true := by rfl)
    (hline : (apos.endLine == cpos.line) = true := by rfl) (hst : starEach (e::es) X.env = (false,eval e X.env)::starEach es X.env := by rfl) (hplain : (backTo cpos (starEach es X.env)).any (·.1) = false := by rfl) :
    SS X g ro mb m (.Expr (.Call (.Attribute (.Name x pos') name apos) (e::es) [] cpos) pos) (mutF T m i fl mk) m :=
  ⟨rfl,PS.imp (zj2 (zpv pa slot hty hmt (zfd hN hv hd hcd) ha hbase hfew hline hst hplain)) fun D0 σ H h => ziu i hm hk h⟩
theorem zoZ (i : Nat) (hm : m[i]? = some .ow) (pa : PlainAttrs T) (slot : Slot T name id) (hty : typeOf (.builtin id) = pure (.type "method_descriptor")) (hmt : MtR X id R) (hk : MutD X.K R mk) (hN : X.N[i]? = some x) (hv : Vis X.env.scope x)
    (hd : (x == ("__debug__" : Str)) = false := by decide) (hcd : (x == ("__classdict__" : Str)) = false := by decide)
    (hbase : attributeBase (.Name x pos') name X.env (eval (.Name x pos') X.env) = eval (.Name x pos') X.env := by rfl) (hline : (apos.endLine == cpos.line) = true := by rfl) :
    SS X g ro mb m (.Expr (.Call (.Attribute (.Name x pos') name apos) [] [] cpos) pos) (mutF T m i lNil mk) m := by
  refine ⟨rfl,PS.imp (zj2 (zmO pa slot hty hmt (zfd hN hv hd hcd) hbase hline)) fun D0 σ H h => ?_⟩
  obtain ⟨v,h1,h2,r,G,si,k⟩ := ziu i hm hk h
  exact ⟨v,h1,h2,k [] G H (Grow.refl si.gok) .nil⟩
noncomputable def appD : D→List D→Option D
  | .lst ds,[d] => if ds.length < sizeLine then some (.lst (ds++[d])) else none
  | _,_ => none
theorem zce {K : PySem.W.Frag} : MutD K zjX appD := by
  intro G H a d vs ds d' Q gk ow rs e q
  unfold appD at e
  split at e
  · split at e
    · rename_i hl
      cases e
      cases ow.ob with
      | lst r s =>
        cases rs with
        | cons r1 t =>
          cases t
          have := Paired.length s
          exact ⟨a,_,_,rfl,rfl,r,by omega,q _ (.lst zam (Paired.snoc s r1))⟩
    · cases e
  · cases e
theorem Paired.rev {α β : Type} {F : α→β→Prop} : ∀ {l : List α} {r : List β},Paired F l r→Paired F l.reverse r.reverse
  | _,_,.nil => .nil
  | _,_,.cons h t => by rw [List.reverse_cons,List.reverse_cons]; exact Paired.snoc (Paired.rev t) h
noncomputable def revD : D→List D→Option D
  | .lst ds,[] => some (.lst ds.reverse)
  | _,_ => none
theorem zo9 {K : PySem.W.Frag} : MutD K zik revD := by
  intro G H a d vs ds d' Q gk ow rs e q
  unfold revD at e
  split at e
  · cases e
    cases ow.ob with
    | lst r s =>
      cases rs
      exact ⟨a,_,rfl,rfl,r,q _ (.lst zam (Paired.rev s))⟩
  · cases e
noncomputable def zn8 (x : Int) (n : Nat) : Nat := if x < 0 then (x + (n : Int)).toNat else min x.toNat n
noncomputable def insL {α : Type} (xs : List α) (x : Int) (y : α) : List α := xs.take (zn8 x xs.length)++y::xs.drop (zn8 x xs.length)
noncomputable def zjU : V→List V→Hp→VK→Prop := fun x vs H Q => ∃ l xs i y,x = .ref l∧vs = [.int i,y]∧H l = some (.lst xs)∧-(2 ^ 63)≤i∧i < 2 ^ 63∧xs.length < sizeLine∧Q .non (upd H l (.lst (insL xs i y)))
theorem zko : MtR X "list.insert" zjU := by
  intro pins s σ H x vs v us Q I rx rv h
  obtain ⟨l,xs,i,y,rfl,rfl,hH,h1,h2,hz,q⟩ := h
  cases rx
  obtain ⟨u,w',rfl,⟨t,rfl⟩,ry⟩ := zoA rv
  obtain ⟨z,its,n,r,hl,e⟩ := I.lstM hH
  have hfit : ¬(! Builtin.List.listFitsIndex i) = true := by rw [fitsIndex_both h1 h2]; exact Bool.false_ne_true
  refine call_meets PySem.F.slot_list_insert ⟨_,e,rfl⟩ PySem.F.entry_list_insert (PySem.F.args_list_insert_3 _ _ _) (AutoListH.list_insert_list_int_val_1 l its.toArray n i t w' hfit (by rw [List.size_toArray]; omega)) ⟨e,?_⟩
  refine ⟨.non,_,I.lset (its' := insL its i w') hH e ?_ ?_ ?_,rfl,q⟩
  · show ((its.toArray.extract 0 (if i < 0 then (i + ((its.toArray.size : Nat) : Int)).toNat else min i.toNat its.toArray.size)).push w'++its.toArray.extract (if i < 0 then (i + ((its.toArray.size : Nat) : Int)).toNat else min i.toNat its.toArray.size)) = (insL its i w').toArray
    rw [List.size_toArray]
    unfold insL zn8
    generalize (if i < 0 then (i + ((its.length : Nat) : Int)).toNat else min i.toNat its.length) = k
    apply Array.ext'
    simp
    exact List.take_of_length_le (by rw [List.length_drop]; exact Nat.le_refl _)
  · unfold insL
    rw [hl]
    exact Vals.append (r.take _) (.cons ry (r.drop _))
  · unfold insL
    rw [List.length_append,List.length_cons,List.length_take,List.length_drop]
    omega
noncomputable def insD : D→List D→Option D
  | .lst ds,[.int i,d] => if ds.length < sizeLine∧-(2 ^ 63)≤i∧i < 2 ^ 63 then some (.lst (insL ds i d)) else none
  | _,_ => none
theorem zpZ {α β : Type} {F : α→β→Prop} {l : List α} {r : List β} {x : α} {y : β} (h : Paired F l r) (i : Int) (hxy : F x y) : Paired F (insL l i x) (insL r i y) := by
  unfold insL
  rw [Paired.length h]
  exact Paired.app (Paired.tk _ h) (.cons hxy (Paired.dr _ h))
theorem zpY {K : PySem.W.Frag} : MutD K zjU insD := by
  intro G H a d vs ds d' Q gk ow rs e q
  unfold insD at e
  split at e
  · split at e
    · rename_i hl
      cases e
      cases ow.ob with
      | lst r s =>
        cases rs with
        | cons r1 t =>
          cases t with
          | cons r2 t =>
            cases t
            have := Paired.length s
            exact ⟨a,_,_,_,rfl,by rw [r1.int gk],r,hl.2.1,hl.2.2,by omega,q _ (.lst zam (zpZ s _ r2))⟩
    · cases e
  · cases e
end
noncomputable def za0 : D→Bool
  | .non => true
  | .bl _ => true
  | .int _ => true
  | .str _ => true
  | _ => false
noncomputable def toV : D→V
  | .non => .non
  | .bl b => .bl b
  | .int i => .int i
  | .str x => .str x
  | _ => .non
noncomputable def eqs (a b : D) : Bool := eqV (toV a) (toV b)
@[simp] theorem eqs_int (a b : Int) : eqs (.int a) (.int b) = (a == b) := rfl
@[simp] theorem eqs_str (a b : Str) : eqs (.str a) (.str b) = (a == b) := rfl
@[simp] theorem eqs_non_int (b : Int) : eqs .non (.int b) = false := rfl
@[simp] theorem eqs_int_non (b : Int) : eqs (.int b) .non = false := rfl
section
variable {K : PySem.W.Frag} {G : GH} {H : Hp} {v : V} {d : D}
theorem RB.flat (h : RB K G H v d) (gk : GOk K G H) (hf : za0 d = true) : v = toV d∧zdp v = true := by
  cases d with
  | non => rw [h.non gk]; exact ⟨rfl,rfl⟩
  | bl b => rw [h.bl gk]; exact ⟨rfl,rfl⟩
  | int i => rw [h.int gk]; exact ⟨rfl,rfl⟩
  | str x => rw [h.str gk]; exact ⟨rfl,rfl⟩
  | _ => cases hf
theorem zqe {xs : List V} {ds : List D} (h : RGs K G xs ds) (gk : GOk K G H) (hf : ds.all za0 = true) : xs = ds.map toV∧xs.all zdp = true := by
  induction h with
  | nil => exact ⟨rfl,rfl⟩
  | cons r t ih =>
    rw [List.all_cons,Bool.and_eq_true] at hf
    obtain ⟨e1,e2⟩ := RB.flat (H := H) r.rb gk hf.1
    obtain ⟨e3,e4⟩ := ih hf.2
    exact ⟨by rw [List.map_cons,← e3,← e1],by rw [List.all_cons,e2,e4]; rfl⟩
end
noncomputable def keyD : D→Option Key
  | .int i => some (.inl i)
  | .str x => some (.inr x)
  | _ => none
noncomputable def hasK (kvs : List (Key × D)) (k : Key) : Bool := kvs.any fun kv => decide (kv.1 = k)
noncomputable def getK (kvs : List (Key × D)) (k : Key) : Option D := (kvs.find? fun kv => decide (kv.1 = k)).map (·.2)
noncomputable def inB (x c : D) : Option Bool := match c with
  | .lst ds => if za0 x = true∧ds.all za0 = true then some (ds.any fun y => eqs y x) else none
  | .tup ds => if za0 x = true∧ds.all za0 = true then some (ds.any fun y => eqs y x) else none
  | .dic kvs => (keyD x).map (hasK kvs)
  | .str y => match x with
    | .str z => some (!(Builtin.Str.occurrences y z 0 y.length 1).isEmpty)
    | _ => none
  | _ => none
noncomputable def inD (x c : D) : Option D := (inB x c).map .bl
noncomputable def ninD (x c : D) : Option D := (inB x c).map fun b => .bl (! b)
theorem zna {K : PySem.W.Frag} {G : GH} {k : Key} {ps : List (Key × V)} {kvs : List (Key × D)} (h : RKs K G ps kvs) (d : D) (e : getK kvs k = some d) : ∃ v,valV ps k = some v∧RG K G v d := by
  induction h with
  | nil => cases e
  | @cons p q ps kvs r t ih =>
    obtain ⟨k1,v1⟩ := p
    obtain ⟨k2,d2⟩ := q
    obtain ⟨e1,r1⟩ := r
    have e1' : k1 = k2 := e1
    subst e1'
    by_cases hk : k1 = k
    · subst hk
      have : d2 = d := by simpa [getK,List.find?_cons] using e
      subst this
      exact ⟨v1,zeS rfl,r1⟩
    · have e' : getK kvs k = some d := by simpa [getK,List.find?_cons,hk] using e
      obtain ⟨v,h1,h2⟩ := ih e'
      exact ⟨v,by rw [zdL hk]; exact h1,h2⟩
theorem zkX {K : PySem.W.Frag} {G : GH} {k : Key} {ps : List (Key × V)} {kvs : List (Key × D)} (h : RKs K G ps kvs) (e : getK kvs k = none) : valV ps k = none := by
  induction h with
  | nil => rfl
  | @cons p q ps kvs r t ih =>
    obtain ⟨k1,v1⟩ := p
    obtain ⟨k2,d2⟩ := q
    obtain ⟨e1,r1⟩ := r
    have e1' : k1 = k2 := e1
    subst e1'
    by_cases hk : k1 = k
    · subst hk; simp [getK,List.find?_cons] at e
    · have e' : getK kvs k = none := by simpa [getK,List.find?_cons,hk] using e
      rw [zdL hk]; exact ih e'
theorem zp4 (kvs : List (Key × D)) (k : Key) : hasK kvs k = (getK kvs k).isSome := by
  induction kvs with
  | nil => rfl
  | cons p r ih =>
    by_cases e : p.1 = k
    · simp [hasK,getK,List.find?_cons,e]
    · have h1 : hasK (p::r) k = hasK r k := by simp [hasK,e]
      have h2 : getK (p::r) k = getK r k := by simp [getK,List.find?_cons,e]
      rw [h1,h2,ih]
theorem zkD {K : PySem.W.Frag} {G : GH} {H : Hp} {v : V} {d : D} {k : Key} (gk : GOk K G H) (h : RB K G H v d) (e : keyD d = some k) : v = kV k := by
  cases d with
  | int i => cases e; exact h.int gk
  | str x => cases e; exact h.str gk
  | _ => cases e
section
variable {X : Cx} {g : GE} {m mb : List Md} {e a b o c : Expr} {f fa fb fc : FE} {pos pos' : Pos}
noncomputable def rInD (neg : Bool) : R2 := fun y x H Q => ∃ a o,x = .ref a∧DGet H a y o∧Q (.bl (if neg then ! o.isSome else o.isSome)) H
theorem zpD (hu : X.A.units + 1 < cLine) : OpR X (compareOp .In) (rInD false) := by
  intro pins s σ H y x u v Q I ry rx h
  obtain ⟨a,oo,rfl,hg,q⟩ := h
  cases rx
  exact d_in hu I hg ry fun s' I' => ⟨.bl _,H,I',rfl,q⟩
theorem znK (hu : X.A.units + 1 < cLine) : OpR X (compareOp .NotIn) (rInD true) := by
  intro pins s σ H y x u v Q I ry rx h
  obtain ⟨a,oo,rfl,hg,q⟩ := h
  cases rx
  exact zoi hu I hg ry fun s' I' => ⟨.bl _,H,I',rfl,q⟩
noncomputable def rInA (K : PySem.W.Frag) (neg : Bool) : R2 := fun x y H Q => rIn K neg x y H Q∨rInD neg x y H Q∨∃ i j,x = .str i∧y = .str j∧Q (.bl (if neg then !(!(Builtin.Str.occurrences j i 0 j.length 1).isEmpty) else !(Builtin.Str.occurrences j i 0 j.length 1).isEmpty)) H
theorem zpE (hu : X.A.units + 1 < cLine) : OpR X (compareOp .In) (rInA X.K false) := OpR.or zkh (OpR.or (zpD hu) zkg)
theorem znL (hu : X.A.units + 1 < cLine) : OpR X (compareOp .NotIn) (rInA X.K true) := OpR.or zhg (OpR.or (znK hu) zhf)
theorem zkN {K : PySem.W.Frag} (neg : Bool) : OpD K (rInA K neg) (fun x c => (inB x c).map fun b => .bl (if neg then ! b else b)) := by
  intro G H v1 v2 d1 d2 d Q gk r1 r2 e q
  have seq : ∀ {xs : List V} {ds : List D} {p : Addr},RGs K G xs ds→v2 = .ref p→(SqL K H p xs∨SqT K H p xs)→za0 d1 = true→ds.all za0 = true→d = .bl (if neg then !(ds.any fun y => eqs y d1) else ds.any fun y => eqs y d1)→rInA K neg v1 v2 H Q := fun {xs ds p} rs e2 hs hf hfs ed => by
    obtain ⟨e1,f1⟩ := RB.flat r1 gk hf
    obtain ⟨e3,f3⟩ := zqe rs gk hfs
    refine .inl ⟨p,xs,e2,hs,f1,f3,q _ G H (Grow.refl gk) ?_⟩
    have : inV v1 xs = ds.any fun y => eqs y d1 := by
      unfold inV
      rw [e3,List.any_map,e1]
      rfl
    rw [this,ed]
    exact .scl (.bl _)
  cases d2 with
  | lst ds =>
    by_cases hc : za0 d1 = true∧ds.all za0 = true
    · simp only [inB,if_pos hc,Option.map_some] at e
      obtain ⟨p,xs,e2,hs,rs⟩ := r2.lst gk
      exact seq rs e2 (.inl hs) hc.1 hc.2 (Option.some.inj e).symm
    · simp only [inB,if_neg hc,Option.map_none] at e
      cases e
  | tup ds =>
    by_cases hc : za0 d1 = true∧ds.all za0 = true
    · simp only [inB,if_pos hc,Option.map_some] at e
      obtain ⟨p,xs,e2,hs,rs⟩ := r2.tup gk
      exact seq rs e2 (.inr hs) hc.1 hc.2 (Option.some.inj e).symm
    · simp only [inB,if_neg hc,Option.map_none] at e
      cases e
  | dic kvs =>
    simp only [inB] at e
    cases ek : keyD d1 with
    | none => rw [ek] at e; cases e
    | some k =>
      rw [ek] at e
      cases e
      obtain ⟨p,ps,rfl,hs,rs⟩ := r2.dic gk
      refine .inr (.inl ⟨p,valV ps k,rfl,by rw [zkD gk r1 ek]; exact .inl ⟨ps,k,hs,rfl,rfl⟩,q _ G H (Grow.refl gk) ?_⟩)
      have : (valV ps k).isSome = hasK kvs k := by
        rw [zp4]
        cases eg : getK kvs k with
        | none => rw [zkX rs eg]; rfl
        | some d => obtain ⟨v,h1,_⟩ := zna rs d eg; rw [h1]; rfl
      rw [this]
      exact .scl (.bl _)
  | str y =>
    cases d1 with
    | str z => cases e; exact .inr (.inr ⟨z,y,r1.str gk,r2.str gk,q _ G H (Grow.refl gk) (.scl (.bl _))⟩)
    | _ => cases e
  | _ => cases e
theorem zrn {K : PySem.W.Frag} : OpD K (rInA K false) inD := by
  have h := zkN (K := K) false
  have e : (fun x c => (inB x c).map fun b => D.bl (if false = true then ! b else b)) = inD := by
    funext x c; unfold inD; cases inB x c <;> rfl
  rw [e] at h; exact h
theorem zpJ {K : PySem.W.Frag} : OpD K (rInA K true) ninD := by
  have h := zkN (K := K) true
  have e : (fun x c => (inB x c).map fun b => D.bl (if true = true then ! b else b)) = ninD := by
    funext x c; unfold ninD; cases inB x c <;> rfl
  rw [e] at h; exact h
theorem q_in (hu : X.A.units + 1 < cLine) (ha : SB X g m a fa) (hb : SB X g m b fb) (hm : behindInMarks .In b = false := by rfl) : SQ X g m (.Compare a [.In] [b] pos) (zav (f2 fa fb inD)) := zhd (zpE hu) zrn ha hb hm
theorem zhc (hu : X.A.units + 1 < cLine) (ha : SB X g m a fa) (hb : SB X g m b fb) (hm : behindInMarks .NotIn b = false := by rfl) : SQ X g m (.Compare a [.NotIn] [b] pos) (zav (f2 fa fb ninD)) := zhd (znL hu) zpJ ha hb hm
noncomputable def isD : D→D→Option D
  | .non,.non => some (.bl true)
  | _,.non => some (.bl false)
  | _,_ => none
noncomputable def isnD : D→D→Option D
  | .non,.non => some (.bl false)
  | _,.non => some (.bl true)
  | _,_ => none
theorem RB.isnon {K : PySem.W.Frag} {G : GH} {H : Hp} {v : V} {d : D} (gk : GOk K G H) (h : RB K G H v d) : (v = .non↔d = .non) := by
  constructor
  · intro e
    subst e
    rcases h with h | ⟨a,e,_⟩
    · cases h with
      | scl s => cases s; rfl
    · cases e
  · intro e
    subst e
    exact h.non gk
theorem zrl {K : PySem.W.Frag} : OpD K (fun x y H Q => y = .non∧Q (.bl (decide (x = .non))) H) isD := by
  intro G H v1 v2 d1 d2 d Q gk r1 r2 e q
  have hn := r1.isnon gk
  cases d2 with
  | non =>
    refine ⟨r2.non gk,q _ G H (Grow.refl gk) ?_⟩
    cases d1 with
    | non => cases e; rw [decide_eq_true (hn.mpr rfl)]; exact .scl (.bl _)
    | _ => cases e; rw [decide_eq_false (fun z => by have := hn.mp z; cases this)]; exact .scl (.bl _)
  | _ => cases d1 <;> cases e
theorem zm4 {K : PySem.W.Frag} : OpD K (fun x y H Q => y = .non∧Q (.bl (! decide (x = .non))) H) isnD := by
  intro G H v1 v2 d1 d2 d Q gk r1 r2 e q
  have hn := r1.isnon gk
  cases d2 with
  | non =>
    refine ⟨r2.non gk,q _ G H (Grow.refl gk) ?_⟩
    cases d1 with
    | non => cases e; rw [decide_eq_true (hn.mpr rfl)]; exact .scl (.bl _)
    | _ => cases e; rw [decide_eq_false (fun z => by have := hn.mp z; cases this)]; exact .scl (.bl _)
  | _ => cases d1 <;> cases e
theorem zqS (ha : SB X g m a fa) (hb : SB X g m b fb) : SE X g m (.Compare a [.IsNot] [b] pos) (f2 fa fb isnD) := zo4 zke zm4 ha hb (zey _)
theorem q_is (ha : SB X g m a fa) (hb : SB X g m b fb) : SQ X g m (.Compare a [.Is] [b] pos) (zav (f2 fa fb isD)) := zhd zpC zrl ha hb (zey _)
theorem zpf (ha : SB X g m a fa) (hb : SB X g m b fb) : SQ X g m (.Compare a [.IsNot] [b] pos) (zav (f2 fa fb isnD)) := zhd zke zm4 ha hb (zey _)
end
end DL
end
section
namespace DL
open PySem PySem.Spec PyProof.Rows L2
section
variable {X : Cx} {g : GE} {m mb : List Md} {e a b o c : Expr} {f fa fb fc : FE} {pos pos' p1 p2 : Pos} {ro : Bool} {x : Str}
noncomputable def rIxD : R2 := fun x y H Q => ∃ a v,x = .ref a∧DGet H a y (some v)∧Q v H
theorem zpV (hu : X.A.units + 1 < cLine) : IxR X rIxD := by
  intro value slice pins s σ H x y v u Q I rx ry h hs
  obtain ⟨a,w,rfl,hg,q⟩ := h
  cases rx
  exact tail_any (zh1 I hg) PySem.F.slot_dict_getitem.lookup (zk5 hu I hg ry fun w' s' I' rw' => ⟨w,H,I',rw',q⟩) hs
noncomputable def ixA : D→D→Option D
  | .dic kvs,k => (keyD k).bind (getK kvs)
  | c,k => ixD c k
theorem zpW {K : PySem.W.Frag} : OpD K (fun x y H Q => rIxD x y H Q∨rIx K x y H Q) ixA := by
  intro G H v1 v2 d1 d2 d Q gk r1 r2 e q
  cases d1 with
  | dic kvs =>
    obtain ⟨a,ps,rfl,hs,rs⟩ := r1.dic gk
    have e' : (keyD d2).bind (getK kvs) = some d := e
    cases ek : keyD d2 with
    | none => rw [ek] at e'; cases e'
    | some k =>
      rw [ek] at e'
      obtain ⟨v,h1,h2⟩ := zna rs d e'
      refine .inl ⟨a,v,rfl,?_,q v G H (Grow.refl gk) h2⟩
      rw [zkD gk r2 ek,← h1]
      exact .inl ⟨ps,k,hs,rfl,rfl⟩
  | lst ds => exact .inr (zn6 G H v1 v2 _ d2 d Q gk r1 r2 e q)
  | tup ds => exact .inr (zn6 G H v1 v2 _ d2 d Q gk r1 r2 e q)
  | str ds => exact .inr (zn6 G H v1 v2 _ d2 d Q gk r1 r2 e q)
  | _ => cases e
theorem za1 (hu : X.A.units + 1 < cLine) (ha : SB X g m a fa) (hb : SB X g m b fb) (hs : zlk b := by intro _ _; rfl) : SE X g m (.Subscript a b pos) (f2 fa fb ixA) := znp zpW (zq4 (IxR.or (zpV hu) zpU) ha hb hs)
theorem zm0 : SO X g m (.Dict [] [] pos) fun _ => .ok (.dic []) :=
  PE.imp zlN fun σ H Q ⟨r,G,si,q⟩ p hp => q p G _ (Grow.new si.gok hp _) hp ⟨si.gok.isN hp,.dic zam .nil⟩
noncomputable def putD (kvs : List (Key × D)) (k : Key) (d : D) : List (Key × D) := if (kvs.any fun kv => decide (kv.1 = k)) = true then kvs.map fun kv => if kv.1 = k then (kv.1,d) else kv else kvs++[(k,d)]
theorem zmq {K : PySem.W.Frag} {G : GH} {k : Key} {ps : List (Key × V)} {kvs : List (Key × D)} (h : RKs K G ps kvs) : (ps.any fun kv => decide (kv.1 = k)) = kvs.any fun kv => decide (kv.1 = k) := by
  induction h with
  | nil => rfl
  | cons r t ih => rw [List.any_cons,List.any_cons,ih,r.1]
theorem zqZ {K : PySem.W.Frag} {G : GH} {ps : List (Key × V)} {kvs : List (Key × D)} {k : Key} {v : V} {d : D} (r : RKs K G ps kvs) (h : RG K G v d) : RKs K G (putK ps k v) (putD kvs k d) := by
  unfold putK putD
  rw [zmq r]
  by_cases hc : (kvs.any fun kv => decide (kv.1 = k)) = true
  · rw [if_pos hc,if_pos hc]
    clear hc
    induction r with
    | nil => exact .nil
    | @cons p q ps kvs r t ih =>
      refine .cons ?_ ih
      obtain ⟨p1,p2⟩ := p
      obtain ⟨q1,q2⟩ := q
      have e : p1 = q1 := r.1
      subst e
      by_cases hk : p1 = k
      · simp only [hk,if_true,true_and]; exact h
      · simp only [hk,if_false,true_and]; exact r.2
  · rw [if_neg hc,if_neg hc]
    exact Paired.snoc r ⟨rfl,h⟩
noncomputable def stoD : D→D→D→Option D
  | .lst ds,.int k,v => (ixN ds.length k).map fun j => .lst (ds.set j v)
  | .dic kvs,k,v => (keyD k).bind fun k => if kvs.length < sizeLine then some (.dic (putD kvs k v)) else none
  | _,_,_ => none
noncomputable def zpc : V→V→V→Hp→(Hp→Prop)→Prop := fun o i v H Q => ∃ p H',o = .ref p∧DPut H p i v H'∧Q H'
theorem zno (hu : X.A.units + 1 < cLine) : PSet X zpc := by
  intro pins s σ H o i v ov iv u Q I ro ri rv h
  obtain ⟨p,H',rfl,hp,q⟩ := h
  cases ro
  exact zk4 hu I hp ri rv fun s' I' => ⟨H',I',q⟩
theorem PSet.or {t t' : TSet} (h : PSet X t) (h' : PSet X t') : PSet X (fun o i v H Q => t o i v H Q∨t' o i v H Q) := by
  intro pins s σ H o i v ov iv u Q I ro ri rv q
  rcases q with q | q
  · exact h pins s σ H o i v ov iv u Q I ro ri rv q
  · exact h' pins s σ H o i v ov iv u Q I ro ri rv q
theorem zoO {K : PySem.W.Frag} {G : GH} {H : Hp} {a : Addr} {d k v d' : D} {kv vv : V} {Q : Hp→Prop} (gk : GOk K G H) (ow : Own K G H a d) (rk : RB K G H kv k) (rv : RG K G vv v) (e : stoD d k v = some d') (q : ∀ o',OwnO K G (upd H a o') a d'→Q (upd H a o')) :
    zpb (.ref a) kv vv H Q∨zpc (.ref a) kv vv H Q := by
  cases ow.ob with
  | @lst xs ds r s =>
    cases k with
    | int k =>
      have e' : (ixN ds.length k).map (fun j => D.lst (ds.set j v)) = some d' := e
      cases ej : ixN ds.length k with
      | none => rw [ej] at e'; cases e'
      | some j =>
        rw [ej] at e'
        cases e'
        exact .inl ⟨a,xs,k,j,rfl,rk.int gk,r,by rw [Paired.length s]; exact ej,q _ (.lst zam (Paired.st rv j s))⟩
    | _ => cases e
  | @dic ps kvs r s =>
    have e' : (keyD k).bind (fun k => if kvs.length < sizeLine then some (D.dic (putD kvs k v)) else none) = some d' := e
    cases ek : keyD k with
    | none => rw [ek] at e'; cases e'
    | some k' =>
      rw [ek] at e'
      have e2 : (if kvs.length < sizeLine then some (D.dic (putD kvs k' v)) else none) = some d' := e'
      by_cases hl : kvs.length < sizeLine
      · rw [if_pos hl] at e2
        cases e2
        have := Paired.length s
        refine .inr ⟨a,_,rfl,?_,q _ (.dic zam (zqZ s rv))⟩
        rw [zkD gk rk ek]
        exact DPut.k r (by omega)
      · rw [if_neg hl] at e2; cases e2
noncomputable def putF (m : List Md) (i : Nat) (fk fv : FE) : FS := fun r => onE m r (fv r) fun v => match r[i]? with
  | some (some d) => onE m r (fk r) fun k => (match stoD d k v with
    | some d' => .nx (r.set i (some d'))
    | none => .stuck)
  | _ => .stuck
theorem zoW (i : Nat) (hu : X.A.units + 1 < cLine) (hm : m[i]? = some .ow) (hN : X.N[i]? = some x) (hv : Vis X.env.scope x) (hk : SB X g m b fb) (he : SE X g m e f)
    (hd : (x == ("__debug__" : Str)) = false := by decide) (hcd : (x == ("__classdict__" : Str)) = false := by decide)
    (ha : ∀ v,assign (.Subscript (.Name x p1) b p2) X.env v = (do
      let ov ← holding [v] (eval (.Name x p1) X.env)
      let iv ← holding [v,ov] (eval b X.env)
      standAt p2
      holding [v,ov,iv] (setItem ov iv v)
      release [v,ov,iv] []) := by intro _; rfl)
    (hs : swapsWithSole [.Subscript (.Name x p1) b p2] e pos.line X.env = pure false := by rfl) (hw : swappedStores [.Subscript (.Name x p1) b p2] e X.env = pure none := by rfl)
    (h1 : (assignEach [.Subscript (.Name x p1) b p2] X.env).map (·.2) = [assign (.Subscript (.Name x p1) b p2) X.env] := by rfl) :
    SS X g ro mb m (.Assign [.Subscript (.Name x p1) b p2] e pos) (putF m i fb f) m := by
  refine ⟨rfl,PS.imp (zmM he (zpn (zfd hN hv hd hcd) hk (PSet.or zlw (zno hu)) ha) hs hw h1) fun D0 σ H ⟨r,G,si,k⟩ => ⟨r,G,si,?_⟩⟩
  refine zah (zba si rfl k) fun v k1 vv G1 H1 w1 rv => ?_
  cases er : r[i]? with
  | none => simp only [er] at k1; exact (show False from k1).elim
  | some oo =>
    cases oo with
    | none => simp only [er] at k1; exact (show False from k1).elim
    | some d =>
      simp only [er] at k1
      obtain ⟨a,h1,h2,h3⟩ := (si.grow w1).mut hm er
      refine ⟨_,h1,r,G1,si.grow w1,?_⟩
      refine zah (zba (m := m) (si.grow w1) rfl (oTo.gle k1 w1.ge)) fun kk k2 kv G2 H2 w2 rk => ?_
      cases es : stoD d kk v with
      | none => simp only [es] at k2; exact (show False from k2).elim
      | some d' =>
        simp only [es] at k2
        obtain ⟨a',h1',h2',h3'⟩ := ((si.grow w1).grow w2).mut hm er
        rw [h1] at h1'; cases h1'
        exact zoO w2.ok h2' rk (rv.mono w2.ge) es fun o' ob => k2 σ G2 _ w2.ge (h3' o' d' ob)
end
mutual
noncomputable def toPy : D→PyData
  | .non => .none
  | .bl b => .bool b
  | .int i => .int i
  | .str x => .str x
  | .tup ds => .tuple (zbD ds)
  | .lst ds => .list (zbD ds)
  | .dic _ => .none
  | .obj _ _ => .none
noncomputable def zbD : List D→List PyData
  | [] => []
  | d::ds => toPy d::zbD ds
end
noncomputable def Shp : Nat→D→Prop
  | _,.non => True
  | _,.bl _ => True
  | _,.int _ => True
  | _,.str x => PyData.strOk x = true
  | 0,.tup _ => False
  | 0,.lst _ => False
  | k + 1,.tup ds => ∀ d∈ds,Shp k d
  | k + 1,.lst ds => ∀ d∈ds,Shp k d
  | _,.dic _ => False
  | _,.obj _ _ => False
theorem zcR {k : Nat} {ds : List D} : Shp (k + 1) (.lst ds)↔∀ d∈ds,Shp k d := by simp only [Shp]
theorem zcj {k : Nat} {ds : List D} : Shp (k + 1) (.tup ds)↔∀ d∈ds,Shp k d := by simp only [Shp]
noncomputable def eqb (a b : D) : Bool := PyData.eqv (toPy a) (toPy b)
section
variable {X : Cx} {pins : List (Addr × Obj)} {σ : L2.St} {H : Hp} {s : Shared} {G : GH}
theorem zhb {k : Nat} (ih : ∀ (d : D) (v : V) (u : Value),Shp k d→RG X.K G v d→L2.RelV v u→∃ as,Reads s.heap u (toPy d) as) (ds : List D) (vs : List V) (us : List Value) (h : ∀ d∈ds,Shp k d) (r : RGs X.K G vs ds) (q : Vals vs us) : ∃ as,ReadsAll s.heap us (zbD ds) as := by
  induction r generalizing us with
  | nil => cases q; exact ⟨[],.nil⟩
  | cons r t ih' =>
    cases q with
    | cons r' t' =>
      obtain ⟨a1,h1⟩ := ih _ _ _ (h _ List.mem_cons_self) r r'
      obtain ⟨a2,h2⟩ := ih' _ (fun x hx => h x (List.mem_cons_of_mem _ hx)) t'
      exact ⟨a1++a2,.cons h1 h2⟩
theorem zdd (I : Inv X pins σ H s) (gk : GOk X.K G H) : ∀ (k : Nat) (d : D) (v : V) (u : Value),Shp k d→RB X.K G H v d→L2.RelV v u→∃ as,Reads s.heap u (toPy d) as := by
  intro k
  induction k with
  | zero =>
    intro d v u hs r ru
    cases d with
    | non => rw [r.non gk] at ru; cases ru; exact ⟨_,.none⟩
    | bl b => rw [r.bl gk] at ru; cases ru; exact ⟨_,.bool b⟩
    | int i => rw [r.int gk] at ru; obtain ⟨t,rfl⟩ := ru; exact ⟨_,.int i t⟩
    | str x => rw [r.str gk] at ru; obtain ⟨t,rfl⟩ := ru; exact ⟨_,.str x t⟩
    | tup _ => unfold Shp at hs; exact hs.elim
    | lst _ => unfold Shp at hs; exact hs.elim
    | dic _ => unfold Shp at hs; exact hs.elim
    | obj _ _ => unfold Shp at hs; exact hs.elim
  | succ k ih =>
    intro d v u hs r ru
    cases d with
    | non => rw [r.non gk] at ru; cases ru; exact ⟨_,.none⟩
    | bl b => rw [r.bl gk] at ru; cases ru; exact ⟨_,.bool b⟩
    | int i => rw [r.int gk] at ru; obtain ⟨t,rfl⟩ := ru; exact ⟨_,.int i t⟩
    | str x => rw [r.str gk] at ru; obtain ⟨t,rfl⟩ := ru; exact ⟨_,.str x t⟩
    | tup ds =>
      obtain ⟨a,xs,rfl,sq,rs⟩ := r.tup gk
      cases ru
      obtain ⟨its,rv,pl,_⟩ := I.tuple sq
      obtain ⟨o,ho,hc,n,hd⟩ := pl
      obtain ⟨as,h⟩ := zhb (k := k) (fun d v u h1 h2 h3 => ih d v u h1 h2.rb h3) ds xs its (zcj.mp hs) rs rv
      refine ⟨as,?_⟩
      unfold toPy
      exact .tuple ho hc hd (by simpa using h)
    | lst ds =>
      obtain ⟨a,xs,rfl,sq,rs⟩ := r.lst gk
      cases ru
      obtain ⟨its,rv,pl,_⟩ := I.list sq
      obtain ⟨o,ho,hc,n,hd⟩ := pl.isList
      obtain ⟨as,h⟩ := zhb (k := k) (fun d v u h1 h2 h3 => ih d v u h1 h2.rb h3) ds xs its (zcR.mp hs) rs rv
      refine ⟨a::as,?_⟩
      unfold toPy
      exact .list ho hc hd (by simpa using h)
    | dic _ => unfold Shp at hs; exact hs.elim
    | obj _ _ => unfold Shp at hs; exact hs.elim
theorem zgp {k : Nat} (ih : ∀ d,Shp k d→PyData.canLay0 (toPy d) = true∧PyData.depth (toPy d)≤k) : ∀ ds : List D,(∀ d∈ds,Shp k d)→PyData.canLayAll0 (zbD ds) = true∧PyData.depthAll (zbD ds)≤k
  | [],_ => by unfold zbD PyData.canLayAll0 PyData.depthAll; exact ⟨rfl,Nat.zero_le _⟩
  | d::ds,h => by
    obtain ⟨a1,a2⟩ := ih d (h d List.mem_cons_self)
    obtain ⟨b1,b2⟩ := zgp ih ds fun x hx => h x (List.mem_cons_of_mem _ hx)
    unfold zbD PyData.canLayAll0 PyData.depthAll
    rw [a1,b1]
    exact ⟨rfl,Nat.max_le.mpr ⟨a2,b2⟩⟩
theorem zjD : ∀ (k : Nat) (d : D),Shp k d→PyData.canLay0 (toPy d) = true∧PyData.depth (toPy d)≤k := by
  intro k
  induction k with
  | zero =>
    intro d hs
    cases d with
    | non => unfold toPy PyData.canLay0 PyData.depth; exact ⟨rfl,Nat.zero_le _⟩
    | bl b => unfold toPy PyData.canLay0 PyData.depth; exact ⟨rfl,Nat.zero_le _⟩
    | int i => unfold toPy PyData.canLay0 PyData.depth; exact ⟨rfl,Nat.zero_le _⟩
    | str x => unfold Shp at hs; unfold toPy PyData.canLay0 PyData.depth; exact ⟨hs,Nat.zero_le _⟩
    | tup _ => unfold Shp at hs; exact hs.elim
    | lst _ => unfold Shp at hs; exact hs.elim
    | dic _ => unfold Shp at hs; exact hs.elim
    | obj _ _ => unfold Shp at hs; exact hs.elim
  | succ k ih =>
    intro d hs
    cases d with
    | non => unfold toPy PyData.canLay0 PyData.depth; exact ⟨rfl,Nat.zero_le _⟩
    | bl b => unfold toPy PyData.canLay0 PyData.depth; exact ⟨rfl,Nat.zero_le _⟩
    | int i => unfold toPy PyData.canLay0 PyData.depth; exact ⟨rfl,Nat.zero_le _⟩
    | str x => unfold Shp at hs; unfold toPy PyData.canLay0 PyData.depth; exact ⟨hs,Nat.zero_le _⟩
    | tup ds =>
      obtain ⟨b1,b2⟩ := zgp ih ds (zcj.mp hs)
      unfold toPy PyData.canLay0 PyData.depth
      exact ⟨b1,Nat.succ_le_succ b2⟩
    | lst ds =>
      obtain ⟨b1,b2⟩ := zgp ih ds (zcR.mp hs)
      unfold toPy PyData.canLay0 PyData.depth
      exact ⟨b1,Nat.succ_le_succ b2⟩
    | dic _ => unfold Shp at hs; exact hs.elim
    | obj _ _ => unfold Shp at hs; exact hs.elim
theorem zdS {d : D} (h : Shp 60 d) : SeqAt.shaped (toPy d) = true := by
  obtain ⟨a,b⟩ := zjD 60 d h
  unfold SeqAt.shaped
  rw [a,decide_eq_true (Nat.le_trans b (by decide))]
  rfl
end
section
variable {X : Cx} {g : GE} {m mb : List Md} {e a b o c : Expr} {f fa fb fc : FE} {pos pos' : Pos}
noncomputable def ziQ (a b : D) : Bool := za0 a && za0 b && scal (toV a) (toV b)
open Classical in
noncomputable def eqB (a b : D) : Option Bool := if ziQ a b = true then some (eqs a b) else if Shp 60 a∧Shp 60 b then some (eqb a b) else none
noncomputable def eqD (a b : D) : Option D := (eqB a b).map .bl
noncomputable def neD (a b : D) : Option D := (eqB a b).map fun c => .bl (! c)
theorem ziF {a b : D} (h : ziQ a b = false) (h1 : Shp 60 a) (h2 : Shp 60 b) : eqB a b = some (eqb a b) := by
  unfold eqB
  rw [if_neg (by rw [h]; exact Bool.false_ne_true),if_pos ⟨h1,h2⟩]
theorem zeZ {a b : D} (h : ziQ a b = true) : eqB a b = some (eqs a b) := by
  unfold eqB
  rw [if_pos h]
@[simp] theorem eqB_int (a b : Int) : eqB (.int a) (.int b) = some (a == b) := zeZ rfl
@[simp] theorem eqB_str (a b : Str) : eqB (.str a) (.str b) = some (a == b) := zeZ rfl
@[simp] theorem eqB_non_int (b : Int) : eqB .non (.int b) = some false := zeZ rfl
theorem zig {a b : D} (h : scal (toV a) (toV b) = true) (fa : za0 a = true) (fb : za0 b = true) : decide (toV a = toV b) = eqs a b := by
  cases a <;> cases b <;> first
    | exact absurd (show false = true from fa) Bool.false_ne_true
    | exact absurd (show false = true from fb) Bool.false_ne_true
    | exact absurd (show false = true from h) Bool.false_ne_true
    | exact zh3
    | exact zk2
    | exact zh2
    | rfl
    | simp [toV,eqs,eqV]
noncomputable def zgv (K : PySem.W.Frag) (neg : Bool) : R2 := fun x y H Q => ∃ (G : GH) (d1 d2 : D),GOk K G H∧RB K G H x d1∧RB K G H y d2∧Shp 60 d1∧Shp 60 d2∧Q (.bl (if neg then ! eqb d1 d2 else eqb d1 d2)) H
theorem zhh (hu : X.A.units + 64 < cLine) : OpR X (compareOp .Eq) (zgv X.K false) := by
  intro pins s σ H x y v u Q I rx ry h
  obtain ⟨G,d1,d2,gk,r1,r2,s1,s2,q⟩ := h
  obtain ⟨as,h1⟩ := zdd I gk 60 d1 x v s1 r1 rx
  obtain ⟨bs,h2⟩ := zdd I gk 60 d2 y u s2 r2 ry
  exact SeqAt.compareEq_shaped h1 h2 (zdS s1) (zdS s2) hu ⟨.bl _,H,I,rfl,q⟩
theorem zkf (hu : X.A.units + 64 < cLine) : OpR X (compareOp .NotEq) (zgv X.K true) := by
  intro pins s σ H x y v u Q I rx ry h
  obtain ⟨G,d1,d2,gk,r1,r2,s1,s2,q⟩ := h
  obtain ⟨as,h1⟩ := zdd I gk 60 d1 x v s1 r1 rx
  obtain ⟨bs,h2⟩ := zdd I gk 60 d2 y u s2 r2 ry
  exact SeqAt.compareNe_shaped h1 h2 (zdS s1) (zdS s2) hu ⟨.bl _,H,I,rfl,q⟩
theorem eq_cases {a b : D} {c : Bool} (h : eqB a b = some c) : (ziQ a b = true∧c = eqs a b)∨(Shp 60 a∧Shp 60 b∧c = eqb a b) := by
  unfold eqB at h
  split at h
  · rename_i hs; cases h; exact .inl ⟨hs,rfl⟩
  · split at h
    · rename_i hs; cases h; exact .inr ⟨hs.1,hs.2,rfl⟩
    · cases h
theorem zqg {K : PySem.W.Frag} : OpD K (fun x y H Q => rEq x y H Q∨zgv K false x y H Q) eqD := by
  intro G H v1 v2 d1 d2 d Q gk r1 r2 e q
  unfold eqD at e
  cases ec : eqB d1 d2 with
  | none => rw [ec] at e; cases e
  | some c =>
    rw [ec] at e
    cases e
    rcases eq_cases ec with ⟨hs,rfl⟩ | ⟨s1,s2,rfl⟩
    · unfold ziQ at hs
      rw [Bool.and_eq_true,Bool.and_eq_true] at hs
      obtain ⟨e1,_⟩ := RB.flat r1 gk hs.1.1
      obtain ⟨e2,_⟩ := RB.flat r2 gk hs.1.2
      refine .inl ⟨by rw [e1,e2]; exact hs.2,?_⟩
      rw [e1,e2,zig hs.2 hs.1.1 hs.1.2]
      exact q _ G H (Grow.refl gk) (.scl (.bl _))
    · exact .inr ⟨G,d1,d2,gk,r1,r2,s1,s2,q _ G H (Grow.refl gk) (.scl (.bl _))⟩
theorem zrc {K : PySem.W.Frag} : OpD K (fun x y H Q => rNe x y H Q∨zgv K true x y H Q) neD := by
  intro G H v1 v2 d1 d2 d Q gk r1 r2 e q
  unfold neD at e
  cases ec : eqB d1 d2 with
  | none => rw [ec] at e; cases e
  | some c =>
    rw [ec] at e
    cases e
    rcases eq_cases ec with ⟨hs,rfl⟩ | ⟨s1,s2,rfl⟩
    · unfold ziQ at hs
      rw [Bool.and_eq_true,Bool.and_eq_true] at hs
      obtain ⟨e1,_⟩ := RB.flat r1 gk hs.1.1
      obtain ⟨e2,_⟩ := RB.flat r2 gk hs.1.2
      refine .inl ⟨by rw [e1,e2]; exact hs.2,?_⟩
      rw [e1,e2,zig hs.2 hs.1.1 hs.1.2]
      exact q _ G H (Grow.refl gk) (.scl (.bl _))
    · exact .inr ⟨G,d1,d2,gk,r1,r2,s1,s2,q _ G H (Grow.refl gk) (.scl (.bl _))⟩
theorem s_eq (hu : X.A.units + 64 < cLine) (ha : SB X g m a fa) (hb : SB X g m b fb) : SE X g m (.Compare a [.Eq] [b] pos) (f2 fa fb eqD) := zo4 (OpR.or zpF (zhh hu)) zqg ha hb (zey _)
theorem q_eq (hu : X.A.units + 64 < cLine) (ha : SB X g m a fa) (hb : SB X g m b fb) : SQ X g m (.Compare a [.Eq] [b] pos) (zav (f2 fa fb eqD)) := zhd (OpR.or zpF (zhh hu)) zqg ha hb (zey _)
theorem q_ne (hu : X.A.units + 64 < cLine) (ha : SB X g m a fa) (hb : SB X g m b fb) : SQ X g m (.Compare a [.NotEq] [b] pos) (zav (f2 fa fb neD)) := zhd (OpR.or zq6 (zkf hu)) zrc ha hb (zey _)
noncomputable def zhr (fa fb fc : FE) (k k' : D→D→Option D) : FE := fun r => (fa r).bind fun x => (fb r).bind fun y => (opt (k x y)).bind fun z => (opt (asB z)).bind fun c => if c = true then (fc r).bind fun w => opt (k' y w) else .ok (.bl false)
noncomputable def znx (K : PySem.W.Frag) : R2 := fun x y H Q => ∃ l b xs zs,x = .ref l∧y = .ref b∧SqL K H l xs∧SqL K H b zs∧xs.length + zs.length≤sizeLine∧∀ p,H p = none→Q (.ref p) (upd H p (.lst (xs++zs)))
theorem zkj : OpR X (binaryOp .Add) (znx X.K) := by
  intro pins s σ H x y v u Q I rx ry h
  obtain ⟨l,b,xs,zs,rfl,rfl,hH,hB,hz,q⟩ := h
  cases rx
  cases ry
  obtain ⟨its,r,pl,_⟩ := I.list hH
  obtain ⟨its2,r2,pl2,_⟩ := I.list hB
  have l1 := r.length
  have l2 := r2.length
  obtain ⟨⟨cls,dd,data,sl⟩,ho,hc,n,hd⟩ := pl.isList
  obtain ⟨⟨cls2,dd2,data2,sl2⟩,ho2,hc2,n2,hd2⟩ := pl2.isList
  simp only at hc hd hc2 hd2
  subst hc hd hc2 hd2
  have e : its.toArray++its2.toArray = (its++its2).toArray := by simp
  refine concat_meets ⟨_,ho,rfl⟩ ⟨_,ho2,rfl⟩ noFill_list_add seq_list_add PySem.F.slot_list_add PySem.F.entry_list_add (PySem.F.args_list_add_2 _ _) (list_addW _ _ its.toArray its2.toArray n n2 dd dd2 sl sl2 (by simp; omega)) ⟨ho,ho2,?_⟩
  rw [e]
  exact ⟨.ref _,_,I.lnew (t' := s.toks) (r.append r2) (by rw [List.length_append]; omega),rfl,q _ I.fresh⟩
noncomputable def addA : D→D→Option D
  | .int a,.int b => some (.int (a + b))
  | .str a,.str b => if a.length + b.length≤sizeLine then some (.str (a++b)) else none
  | .lst a,.lst b => if a.length + b.length≤sizeLine then some (.lst (a++b)) else none
  | .tup (x::a),.tup b => if (x::a).length + b.length≤sizeLine then some (.tup (x::a++b)) else none
  | _,_ => none
theorem zlj {K : PySem.W.Frag} : OpD K (fun x y H Q => (∃ i j,x = .int i∧y = .int j∧Q (.int (i + j)) H)∨(∃ i j,x = .str i∧y = .str j∧i.length + j.length≤sizeLine∧Q (.str (i++j)) H)∨znx K x y H Q∨znw K x y H Q) addA := by
  intro G H v1 v2 d1 d2 d Q gk r1 r2 e q
  unfold addA at e
  split at e
  · cases e
    exact .inl ⟨_,_,r1.int gk,r2.int gk,q _ G H (Grow.refl gk) (.scl (.int _))⟩
  · split at e
    · rename_i hl
      cases e
      exact .inr (.inl ⟨_,_,r1.str gk,r2.str gk,hl,q _ G H (Grow.refl gk) (.scl (.str _))⟩)
    · cases e
  · split at e
    · rename_i hl
      cases e
      obtain ⟨a,xs,rfl,s1,t1⟩ := r1.lst gk
      obtain ⟨b,ys,rfl,s2,t2⟩ := r2.lst gk
      have l1 := Paired.length t1
      have l2 := Paired.length t2
      exact .inr (.inr (.inl ⟨a,b,xs,ys,rfl,rfl,s1,s2,by omega,fun p hp => q _ _ _ (Grow.newF gk hp (.lst (.inl zam) (Paired.app t1 t2))) (.ref zat)⟩))
    · cases e
  · split at e
    · rename_i x0 a0 b0 hl
      cases e
      rcases r1 with r1 | ⟨a',_,oo⟩
      · obtain ⟨a,xs,rfl,s1,t1⟩ := r1.tup gk
        obtain ⟨b,ys,rfl,s2,t2⟩ := r2.tup gk
        have l1 := Paired.length t1
        have l2 := Paired.length t2
        refine .inr (.inr (.inr ⟨a,b,xs,ys,rfl,rfl,s1,s2,?_,by omega,fun hy => ?_,fun _ p hp => q _ _ _ (Grow.newF gk hp (.tup (.inl zam) (Paired.app t1 t2))) (.ref zat)⟩))
        · rintro rfl
          cases t1
        · subst hy
          cases t2
          refine q _ G H (Grow.refl gk) ?_
          rw [List.append_nil]
          exact r1
      · cases oo.ob
    · cases e
  · cases e
theorem zcJ (ha : SB X g m a fa) (hb : SB X g m b fb) : SE X g m (.BinOp a .Add b pos) (f2 fa fb addA) := zhO (OpR.or zmP (OpR.or zf3 (OpR.or zkj zki))) zlj ha hb
end
end DL
end
section
namespace DL
open PySem PySem.Spec PyProof.Rows L2
structure DefAt (K : PySem.W.Frag) (mg : Str→Option Value) (x : Str) (st : Stmt) : Prop where
  ex : ∃ f fd,mg x = some (.ref f)∧Fun K x x st f fd
structure Callee (P : Program) (w : World) (K : PySem.W.Frag) (mg : Str→Option Value) (base : Heap) (x : Str) (ps : List Str) (ds : List Value) (k : Nat) (ro : Bool) (ms : List Md) (F : List D→Res D) : Prop where
  ex : ∃ f fd,mg x = some (.ref f)∧PySem.W.keepIn K (.ref f) = true∧zfO K fd ps ds∧FnOk P w K mg base CX0 k f fd ps (spM K ro ms F)
section
variable {P : Program} {w : World} {K : PySem.W.Frag} {mg : Str → Option Value} {base : Heap}
theorem zaQ {x : Str} {st : Stmt} {N ps : List Str} {k : Nat} {ro : Bool} {ms : List Md} {fs : FS} {m' : List Md} (A : DefAt K mg x st) (S : FnScope N ps (zab st)) (hms : ms.length = ps.length)
    (hb : ∀ (kV doc pm : Value) (an : Option Addr) (cdv ct : Value) (us : List Value),us.length = ps.length→bindArgs (PySem.W.fnOf x x (zbE st) (zaT st) (zab st) .none kV doc pm an cdv ct) ⟨us,[]⟩ = pure (ps.zip us))
    (hbody : ∀ (f : Addr) (cdv : Value) (A : Around) (outer : List Env) (s : Shared) (H : Hp) (g : GE) (E : XK),Room k (A.deeper (envOfC x (zab st) s.heap.objs.size f cdv)) →
      SSs (cxOf CX0 P w K mg base N x (zab st) f cdv A outer s H E).nox g ro [] (zbG N.length ms) (zaT st) fs m') :
    Callee P w K mg base x ps [] (k + 1) ro ms fun ds => outR ro (fs (zap N.length ds)) := by
  obtain ⟨f,fd,h1,F⟩ := A.ex
  exact ⟨f,fd,h1,F.kp,F.binds hb,zm9 F S hms (hbody f)⟩
structure DefAtD (K : PySem.W.Frag) (mg : Str→Option Value) (x : Str) (st : Stmt) (dds : List Value) : Prop where
  ex : ∃ (f T : Addr) (o : Obj) (n : Nat) (oc : Value) (od : Option Addr) (kV doc pm : Value) (an : Option Addr) (cdv ct : Value) (osl : Array (Option Value)),
    mg x = some (.ref f)∧K.lookup T = some o∧o.data = .seq dds.toArray n∧K.lookup f = some ⟨oc,od,.func (PySem.W.fnOf x x (zbE st) (zaT st) (zab st) (.ref T) kV doc pm an cdv ct),osl⟩∧PySem.W.codeIn K cdv x = true∧PySem.W.keepIn K (.ref f) = true
theorem zhW {x : Str} {st : Stmt} {N ps : List Str} {k : Nat} {ro : Bool} {ms : List Md} {fs : FS} {m' : List Md} {dds ds : List Value} (A : DefAtD K mg x st dds) (S : FnScope N ps (zab st)) (hms : ms.length = ps.length) (nn : Nat) (hn : nn + ds.length = ps.length)
    (hb : ∀ (T : Addr) (kV doc pm : Value) (an : Option Addr) (cdv ct : Value) (us : List Value),us.length = nn→∃ kk : Option (Array Value)→Sem (List (Str × Value)),bindArgs (PySem.W.fnOf x x (zbE st) (zaT st) (zab st) (.ref T) kV doc pm an cdv ct) ⟨us,[]⟩ = seqItems? (.ref T) >>= kk∧kk (some dds.toArray) = pure (ps.zip (us++ds)))
    (hbody : ∀ (f : Addr) (cdv : Value) (A : Around) (outer : List Env) (s : Shared) (H : Hp) (g : GE) (E : XK),Room k (A.deeper (envOfC x (zab st) s.heap.objs.size f cdv)) →
      SSs (cxOf CX0 P w K mg base N x (zab st) f cdv A outer s H E).nox g ro [] (zbG N.length ms) (zaT st) fs m') :
    Callee P w K mg base x ps ds (k + 1) ro ms fun zs => outR ro (fs (zap N.length zs)) := by
  obtain ⟨f,T,o,n,oc,od,kV,doc,pm,an,cdv,ct,osl,h1,hT,hd,lk,hcd,kp⟩ := A.ex
  refine ⟨f,PySem.W.fnOf x x (zbE st) (zaT st) (zab st) (.ref T) kV doc pm an cdv ct,h1,kp,fun s us KX hl => ?_,?_⟩
  · obtain ⟨kk,e1,e2⟩ := hb T kV doc pm an cdv ct us (by rw [List.length_append] at hl; omega)
    exact BindsTo.of_defaults rfl (KX _ _ hT) hd e1 e2
  · have hpl : ps.length≤N.length := by have := congrArg List.length S.pre; rw [List.length_take] at this; omega
    refine zqd lk hcd S (fun vs H Q E ⟨G,ds,gk,rs,q⟩ => rs.len.1.trans hms) fun A outer s H vs Q E hr ⟨G,ds,gk,rs,q⟩ => ?_
    exact ⟨_,(hbody f cdv A outer s H ⟨G,H,fun _ => none⟩ E hr).2.nox,zap N.length ds,G,zgm gk rs (by omega),zgO q⟩
end
section
variable {X : Cx} {g : GE} {m : List Md} {e : Expr} {es : List Expr} {fl : Rho → Res (List D)} {k : Nat} {ps : List Str} {F : List D → Res D} {dvs : List V} {ds : List Value} {dds : List D} {x : Str} {p pos : Pos} {i : Nat} {ms ms' : List Md}
theorem zaC (c : Callee X.prog X.w X.K X.mg X.base x ps ds k false ms' F) (hr : Room k X.A) (ha : SAM X g m (e::es) ms fl) (hms : ms' = ms++List.replicate dds.length .sh := by rfl) (hg : Gl X x := by rfl) (hd : Vals dvs ds := by exact .nil) (hsc : Paired Scl dvs dds := by exact .nil)
    (hdb : (x == ("__debug__" : Str)) = false := by decide) (he : starEach (e::es) X.env = (false,eval e X.env)::starEach es X.env := by rfl) (hpl : (backTo pos (starEach es X.env)).any (·.1) = false := by rfl) :
    SE X g m (.Call (.Name x p) (e::es) [] pos) (zaz fl dds F) := by
  subst hms
  obtain ⟨f,fd,h1,h2,h3,h4⟩ := c.ex
  exact zo5 h4 hr hg h1 h2 h3 hd hsc ha hdb he hpl
theorem zoo (c : Callee X.prog X.w X.K X.mg X.base x ps ds k true ms' F) (hr : Room k X.A) (ha : SAM X g m (e::es) ms fl) (hms : ms' = ms++List.replicate dds.length .sh := by rfl) (hg : Gl X x := by rfl) (hd : Vals dvs ds := by exact .nil) (hsc : Paired Scl dvs dds := by exact .nil)
    (hdb : (x == ("__debug__" : Str)) = false := by decide) (he : starEach (e::es) X.env = (false,eval e X.env)::starEach es X.env := by rfl) (hpl : (backTo pos (starEach es X.env)).any (·.1) = false := by rfl) :
    SE X g m (.Call (.Name x p) (e::es) [] pos) (zaz fl dds F) := by
  subst hms
  obtain ⟨f,fd,h1,h2,h3,h4⟩ := c.ex
  exact znr h4 hr hg h1 h2 h3 hd hsc ha hdb he hpl
theorem zk9 (c : Callee X.prog X.w X.K X.mg X.base x ps ds k true ms' F) (hr : Room k X.A) (ha : SAM X g m (e::es) ms fl) (hms : ms' = ms++List.replicate dds.length .sh := by rfl) (hg : Gl X x := by rfl) (hd : Vals dvs ds := by exact .nil) (hsc : Paired Scl dvs dds := by exact .nil)
    (hdb : (x == ("__debug__" : Str)) = false := by decide) (he : starEach (e::es) X.env = (false,eval e X.env)::starEach es X.env := by rfl) (hpl : (backTo pos (starEach es X.env)).any (·.1) = false := by rfl) :
    SO X g m (.Call (.Name x p) (e::es) [] pos) (ownF (zaz fl dds F)) := by
  subst hms
  obtain ⟨f,fd,h1,h2,h3,h4⟩ := c.ex
  exact zpI h4 hr hg h1 h2 h3 hd hsc ha hdb he hpl
theorem v_ (i : Nat) (hm : m[i]? = some .sh := by rfl) (hN : X.N[i]? = some x := by rfl) (hv : Vis X.env.scope x := by first | exact Or.inl rfl | exact Or.inr (Or.inl rfl) | exact Or.inr (Or.inr rfl)) (hd : (x == ("__debug__" : Str)) = false := by decide) (hcd : (x == ("__classdict__" : Str)) = false := by decide) :
    SE X g m (.Name x p) fun r => getV r i := zqP i hm hN hv hd hcd
theorem vb_ (i : Nat) (hm : i < m.length := by decide) (hN : X.N[i]? = some x := by rfl) (hv : Vis X.env.scope x := by first | exact Or.inl rfl | exact Or.inr (Or.inl rfl) | exact Or.inr (Or.inr rfl)) (hd : (x == ("__debug__" : Str)) = false := by decide) (hcd : (x == ("__classdict__" : Str)) = false := by decide) :
    SB X g m (.Name x p) fun r => getV r i := zoU i hm hN hv hd hcd
end
end DL
end
section
namespace DL
open PySem PySem.Spec PyProof.Rows L2
noncomputable def zk7 (osc : Scope) (ON : List Str) (sc : Scope) (N' : List Str) (nl : Nat) (cap : List Nat) : Bool :=
  decide (sc.kind = .function) && sc.names.all (fun y => decide (y.2≠.cell)) && sc.names.all (fun y => decide (y.2≠.local) || decide (sc.names.lookup y.1 = some .local)) &&
  sc.names.all (fun y => decide (y.2≠.free) || (decide (osc.names.lookup y.1 = some .cell) || decide (osc.names.lookup y.1 = some .free))) && decide (N'.length = nl + cap.length) &&
  (List.range cap.length).all fun j => match N'[nl + j]?,ON[cap.getD j 0]? with
    | some x,some y => decide (x = y) && decide (sc.names.lookup x = some .free)
    | _,_ => false
theorem za5 {X : Cx} {osc : Scope} {ON : List Str} {sc : Scope} {N' : List Str} {nl : Nat} {cap : List Nat} (h1 : X.env.scope = osc) (h2 : X.N = ON) (h : zk7 osc ON sc N' nl cap = true) : CompSc X sc N' nl cap := by
  subst h1 h2
  unfold zk7 at h
  simp only [Bool.and_eq_true,List.all_eq_true,decide_eq_true_eq,Bool.or_eq_true] at h
  obtain ⟨⟨⟨⟨⟨a1,a2⟩,a3⟩,a4⟩,a5⟩,a6⟩ := h
  refine ⟨a1,a2,fun y hy hl => (a3 y hy).resolve_left fun z => z hl,fun y hy hf => (a4 y hy).resolve_left fun z => z hf,a5,fun j hj => ?_⟩
  have h6 := a6 j (List.mem_range.mpr hj)
  cases e1 : N'[nl + j]? with
  | none => rw [e1] at h6; cases h6
  | some x =>
    cases e2 : X.N[cap.getD j 0]? with
    | none => rw [e1,e2] at h6; cases h6
    | some y =>
      rw [e1,e2] at h6
      simp only [Bool.and_eq_true,decide_eq_true_eq] at h6
      exact ⟨x,rfl,by rw [h6.1],h6.2⟩
section
variable {X : Cx} {g : GE} {m mb : List Md} {e a b c : Expr} {f fa fb fc : FE} {pos pos' : Pos}
theorem zjk {R R' : R2} {k k' : D→D→Option D} (ho : OpD X.K R k) (ho' : OpD X.K R' k') {σ : L2.St} {H : Hp} {Q : VK} (h : tE X g m (zhr fa fb fc k k') σ H Q) : zmy R R' (tB X g m fa) (tB X g m fb) (tB X g m fc) σ H Q := by
  obtain ⟨r,G,si,q⟩ := h
  refine seq2 si q fun d1 d2 v1 v2 G2 H2 w r1 r2 q2 => ?_
  obtain ⟨z,ez,q3⟩ := zax (zaf q2)
  obtain ⟨cc,ec,q4⟩ := zax (zaf q3)
  refine ho G2 H2 v1 v2 d1 d2 z _ w.ok r1 r2 ez fun v G3 H3 w3 rv => ?_
  cases z with
  | bl b' =>
    cases ec
    refine ⟨_,rv.bl w3.ok,?_⟩
    cases cc with
    | false => rw [if_neg Bool.false_ne_true] at q4 ⊢; exact q4 _ G3 H3 (w.trans w3) (.scl (.bl _))
    | true =>
      rw [if_pos rfl] at q4 ⊢
      refine ⟨r,G3,(si.grow w).grow w3,zaB (zaf q4) (w.trans w3) fun d3 q5 v3 G4 H4 w4 r3 => ?_⟩
      obtain ⟨d,e,q6⟩ := zax q5
      exact ho' G4 H4 v2 v3 d2 d3 d Q w4.ok ((r2.mono w3).mono w4) r3 e fun v G' H' w' z => q6 v G' H' (((w.trans w3).trans w4).trans w') z
  | _ => cases ec
theorem zlx {op op' : CmpOp} {R R' : R2} {k k' : D→D→Option D} (hr : OpR X (compareOp op) R) (hr' : OpR X (compareOp op') R') (ho : OpD X.K R k) (ho' : OpD X.K R' k') (ha : SB X g m a fa) (hb : SB X g m b fb) (hc : SB X g m c fc)
    (hm : lastMarks [op,op'] [b,c] = false := by with_unfolding_all rfl) : SE X g m (.Compare a [op,op'] [b,c] pos) (zhr fa fb fc k k') := PE.imp (zlO hr hr' ha hb hc hm) fun σ H Q h => zjk ho ho' h
theorem zq9 {K : PySem.W.Frag} : OpD K (rI0 fun i j => V.bl (decide (i < j))) ltI := zfe fun _ _ => .bl _
theorem zra {K : PySem.W.Frag} : OpD K (rI0 fun i j => V.bl (decide (i≤j))) leI := zfe fun _ _ => .bl _
end
end DL
end
section
namespace DL
open PySem PySem.Spec PyProof.Rows L2
theorem zrH {K : PySem.W.Frag} {h : Heap} {mg : Str→Option Value} {x : Str} {st : Stmt} (KX : K.In h) (G : h.Ns mainGlobals mg) {f : Addr} {oc : Value} {od an : Option Addr} {osl : Array (Option Value)} {kV doc pm cdv ct : Value} (a : PySem.W.nsIn K mainGlobals x = some (some (.ref f)))
    (l : K.lookup f = some ⟨oc,od,.func (PySem.W.fnOf x x (zbE st) (zaT st) (zab st) .none kV doc pm an cdv ct),osl⟩) (c : PySem.W.codeIn K cdv x = true) (k : PySem.W.keepIn K (.ref f) = true) : DefAt K mg x st :=
  ⟨f,_,PySem.W.mg_of KX G a,zqb l c k⟩
theorem zrC {K : PySem.W.Frag} {h : Heap} {mg : Str→Option Value} {x : Str} {st : Stmt} {dds : List Value} (KX : K.In h) (G : h.Ns mainGlobals mg) {f T : Addr} {oc tc : Value} {od an td : Option Addr} {osl tsl : Array (Option Value)} {n : Nat} {kV doc pm cdv ct : Value} (a : PySem.W.nsIn K mainGlobals x = some (some (.ref f)))
    (l : K.lookup f = some ⟨oc,od,.func (PySem.W.fnOf x x (zbE st) (zaT st) (zab st) (.ref T) kV doc pm an cdv ct),osl⟩) (t : K.lookup T = some ⟨tc,td,.seq dds.toArray n,tsl⟩) (c : PySem.W.codeIn K cdv x = true) (k : PySem.W.keepIn K (.ref f) = true) : DefAtD K mg x st dds :=
  ⟨f,T,_,n,oc,od,kV,doc,pm,an,cdv,ct,osl,PySem.W.mg_of KX G a,t,rfl,l,c,k⟩
theorem zrG {P : Program} {w : World} {K : PySem.W.Frag} {mg : Str→Option Value} {x p : Str} {st : Stmt} {k : Nat} {F : List D→Res D} {fa : Addr} (hfa : mg x = some (.ref fa)) (A : DefAt K mg x st)
    (hb : ∀ (kV doc pm : Value) (an : Option Addr) (cdv ct : Value) (us : List Value),us.length = [p].length→bindArgs (PySem.W.fnOf x x (zbE st) (zaT st) (zab st) .none kV doc pm an cdv ct) ⟨us,[]⟩ = pure ([p].zip us))
    (C : ∀ (f : Addr) (fd : FuncData),Fun K x x st f fd→∀ base : Heap,FnOk P w K mg base CX0 k f fd [p] (spM K false [.sh] F)) :
    ∃ fd : FuncData,(∀ (s : Shared) (u : Value),BindsTo s fd ⟨[u],[]⟩ [(p,u)])∧∀ base : Heap,K.In base→base.Ns mainGlobals mg→FnOk P w K mg base CX0 k fa fd [p] (spM K false [.sh] F) := by
  obtain ⟨f,fd,h1,Fn⟩ := A.ex
  rw [hfa] at h1
  cases h1
  refine ⟨fd,fun s u => ?_,fun base _ _ => C fa fd Fn base⟩
  obtain ⟨oc,od,kV,doc,pm,an,cdv,ct,osl,rfl,lk,hcd⟩ := Fn.ex
  exact .of_eq (hb kV doc pm an cdv ct [u] rfl)
theorem zrI {l : PySem.W.OpenLaw} {k : Nat} {q : Program} {loose : List Str} {XP : (Str→Option Value)→Heap→Prop} {YP : World→Heap→Prop} {d : DefRec} {K : Params→PySem.W.Frag} {x : Str} {F : List D→Res D} (hn : l.most = some 63) (hdf : d.params.defaults = []) (hr : Room k callerA)
    (hY : ∀ (w : World) (h : Heap),YP w h→(K w.params).In h) (hF : ∀ ns : List Int,ns.length≤63→F [.lst (ns.map .int)] = .ok (.bl true))
    (C : ∀ (w : World) (mg : Str→Option Value) (fa : Addr) (h : Heap),(K w.params).In h→h.Ns mainGlobals mg→mg d.name = some (.ref fa) →
      ∃ fd : FuncData,(∀ (s : Shared) (u : Value),BindsTo s fd ⟨[u],[]⟩ [(x,u)])∧∀ base : Heap,(K w.params).In base→base.Ns mainGlobals mg→FnOk l.prog w (K w.params) mg base CX0 k fa fd [x] (spM (K w.params) false [.sh] F)) :
    PySem.W.WalkO q loose XP YP l.row.toRowW d [] (fun f vs => PySem.call f vs) := by
  refine L2.walk_of (n := 63) (k := k) (x := x) (CX := fun _ => CX0) (sp := fun w => spM (K w.params) false [.sh] F) hn (by decide) hdf hr hY C (fun w H a ns hl hO hS => ?_) fun _ _ _ _ _ z => z
  have intsP : ∀ (l : List Int),Paired Scl (l.map V.int) (l.map D.int) := fun l => by
    induction l with
    | nil => exact .nil
    | cons i l ih => exact .cons (.int i) ih
  rcases hS with hS | hS
  · refine ⟨fun b => if b = a then some (.lst (ns.map D.int)) else none,[.lst (ns.map .int)],fun b d' hb => ?_,.sh (.ref (if_pos rfl)) .nil,?_⟩
    · by_cases e : b = a
      · subst e
        have hb' : some (D.lst (ns.map D.int)) = some d' := (if_pos rfl).symm.trans hb
        cases hb'
        exact .lst hS (Paired.mono (fun _ _ z => .scl z) (intsP ns))
      · have hb' : (none : Option D) = some d' := (if_neg e).symm.trans hb
        cases hb'
    · rw [hF ns hl]
      intro v G' H' w' rv
      exact rv.bl w'.ok
  · refine ⟨fun _ => none,[.lst (ns.map .int)],fun b d' hb => (by cases hb),.sh (.kc (.lst (.inr hS) (intsP ns))) .nil,?_⟩
    rw [hF ns hl]
    intro v G' H' w' rv
    exact rv.bl w'.ok
end DL
end
section
namespace DL
open PySem PySem.Spec PyProof.Rows L2
open AutoSeq1 (wpAny_loadPart')
section
variable {prog : Program} {w : World} {A : Around} {E : Value → Shared → Prop} {s : Shared}
theorem zeg {it t : Addr} {i : Nat} {items} {x : Value} {Q : Value→Shared→Prop} (hit : s.heap.IsTupleIter it t i) (ht : s.heap.IsTuple t items) (hx : items[i]? = some x)
    (hQ : ∀ h',h'.IsTupleIter it t (i + 1)→Heap.SameBut it s.heap h'→Q x { s with heap := h' }) : wpAny (model prog w) A (Builtin.SmallTypes.nextOf (.ref it)) Q E s := by
  obtain ⟨o,ho,hc,hd⟩ := id hit
  obtain ⟨ol,hol,_,nl,hdl⟩ := ht
  unfold Builtin.SmallTypes.nextOf
  refine wpAny_bind (wpAny_callSpecial?_slot (name := Str.ofString "__next__") hit.typeIs F.slot_tuple_iterator_next
    (wpAny_call_entry F.slot_tuple_iterator_next hit.typeIs F.entry_tuple_iterator_next ?_ (F.args_tuple_iterator_next_1 _)))
  show wpAny _ _ (field (.ref it) 0 >>= _) _ _ s
  refine wpAny_bind (wpAny_field ho hd (x := .ref t) rfl ?_)
  show wpAny _ _ (if (Value.ref t == Value.none) = true then _ else _) _ _ s
  rw [if_neg (show ¬ ((Value.ref t == Value.none) = true) from Bool.false_ne_true)]
  show wpAny _ _ (field (.ref it) 1 >>= _) _ _ s
  refine wpAny_bind (wpAny_field ho hd (x := .int i 0) rfl ?_)
  show wpAny _ _ (seqItems? (.ref t) >>= _) _ _ s
  refine wpAny_bind (wpAny_seqItems hol hdl ?_)
  simp only [Int.toNat_natCast,hx]
  refine wpAny_bind (wpAny_setField ho hd (by simp) (wpAny_pure ⟨x,rfl,wpAny_pure (hQ _ ?_ (Heap.SameBut.update ..))⟩))
  exact ⟨_,Heap.get?_update_self _ ho (Obj.isFreed_of_fields (Obj.data_mapFields hd _)),(Obj.cls_mapFields ..).trans hc,by
    rw [Obj.data_mapFields hd]; simp [rawInt]⟩
theorem zeQ {it t : Addr} {i : Nat} {items} {Q : Value→Shared→Prop} (hh : A.handled = none) (hit : s.heap.IsTupleIter it t i) (ht : s.heap.IsTuple t items) (hx : items[i]? = none)
    (hE : ∀ h' e,Heap.ExtBut it s.heap h'→(∃ o,h'.get? e = some o∧o.cls = .type "StopIteration")→E (.ref e) { s with heap := h' }) : wpAny (model prog w) A (Builtin.SmallTypes.nextOf (.ref it)) Q E s := by
  obtain ⟨o,ho,hc,hd⟩ := id hit
  obtain ⟨ol,hol,_,nl,hdl⟩ := ht
  unfold Builtin.SmallTypes.nextOf
  refine wpAny_bind (wpAny_callSpecial?_slot (name := Str.ofString "__next__") hit.typeIs F.slot_tuple_iterator_next
    (wpAny_call_entry F.slot_tuple_iterator_next hit.typeIs F.entry_tuple_iterator_next ?_ (F.args_tuple_iterator_next_1 _)))
  show wpAny _ _ (field (.ref it) 0 >>= _) _ _ s
  refine wpAny_bind (wpAny_field ho hd (x := .ref t) rfl ?_)
  show wpAny _ _ (if (Value.ref t == Value.none) = true then _ else _) _ _ s
  rw [if_neg (show ¬ ((Value.ref t == Value.none) = true) from Bool.false_ne_true)]
  show wpAny _ _ (field (.ref it) 1 >>= _) _ _ s
  refine wpAny_bind (wpAny_field ho hd (x := .int i 0) rfl ?_)
  show wpAny _ _ (seqItems? (.ref t) >>= _) _ _ s
  refine wpAny_bind (wpAny_seqItems hol hdl ?_)
  simp only [Int.toNat_natCast,hx]
  refine wpAny_bind (wpAny_rule (wpAny_bind (wpAny_setField ho hd (by simp) ?_)))
  show wpAny _ _ (newExc (.type "StopIteration") [] >>= _) _ _ _
  refine wpAny_bind ?_
  simp only [newExc,newTuple]
  refine wpAny_bind (wpAny_newObj_type ?_ (by size_fits))
  refine wpAny_bind (m := firstArgMember _ _) (wpAny_of_eq (a := Value.none) (by first | rfl | (simp only [firstArgMember]; rfl)) ?_)
  refine wpAny_newObj_type ?_ (by size_fits)
  simp only [raiseNew]
  refine wpAny_bind (wpAny_handled ?_)
  first | rw [show A.in1.handled = none from hh] | rw [hh]
  refine wpAny_bind (wpAny_pure (wpAny_throw ?_))
  exact hE _ _ (((Heap.SameBut.update ..).extBut.push _).push _) ⟨_,Heap.get?_push_size _ rfl,rfl⟩
end
theorem zk0 {prog : Program} {w : World} {A : Around} (hh : A.handled = none) (it l : Addr) (hne : l≠it) (items : Array Value) :
    Draws prog w A it [it,l] items.size (fun i v => items[i]? = some v) (fun i h => h.IsTupleIter it l i∧h.IsTuple l items) where
  live := fun _ _ st => let ⟨o,ho,_⟩ := st.1; ⟨o,ho⟩
  frame := fun _ _ _ st hk => ⟨let ⟨o,ho,r⟩ := st.1; ⟨o,hk it (by simp) o ho,r⟩,let ⟨o,ho,r⟩ := st.2; ⟨o,hk l (by simp) o ho,r⟩⟩
  item := fun i s Q E hi st hQ => by
    refine zeg st.1 st.2 (x := items[i]) (by simp [hi]) fun h' hit' hs' => ?_
    exact hQ _ h' s.toks (by simp [hi]) ⟨hit',st.2.extBut hs'.extBut hne⟩ hs'
  done := fun s Q E st hE => zeQ hh st.1 st.2 (by simp) hE
theorem zfj (l : Addr) (items : Array Value) (n : Nat) (dct : Option Addr) (sl : Array (Option Value)) :
    Meets (Builtin.«enumerate.__new__» ⟨[.type "enumerate",.ref l],[]⟩) (fun _ R s => s.heap.get? l = some { cls := .type "tuple",dict := dct,data := .seq items n,slots := sl } ∧
      R (.ok (.ret (.ref (s.heap.push { cls := .type "tuple_iterator",data := .fields #[.ref l,.int 0 0] }).objs.size)))
        { s with heap := (s.heap.push { cls := .type "tuple_iterator",data := .fields #[.ref l,.int 0 0] }).push { cls := .type "enumerate",data := .fields #[.none,.bool false,.ref s.heap.objs.size,rawInt 0,.none,.none] } }) :=
  .of_wp fun prog w A R s h => by
    obtain ⟨hp,g,d,tk,os⟩ := s; obtain ⟨hl,h⟩ := h
    have hsub := sub_enumerate
    have hL : Heap.IsTuple (Shared.heap ⟨hp,g,d,tk,os⟩) l items := ⟨_,hl,rfl,n,rfl⟩
    wp_walk using wpAny_loadPart' hl
    refine wpAny_stack_any fun st => wpAny_pure ?_
    split
    · rename_i c _ _ _ _ _
      cases (c == Value.type "enumerate")
      · wp_walk using wpAny_loadPart' hl,wpAny_pyIter_tuple hL
        exact ⟨_,rfl,h⟩
      · wp_walk using wpAny_loadPart' hl,wpAny_pyIter_tuple hL
        exact ⟨_,rfl,h⟩
    · wp_walk using wpAny_loadPart' hl,wpAny_pyIter_tuple hL
      exact ⟨_,rfl,h⟩
section
variable {prog : Program} {w : World} {A : Around} {E : Value → Shared → Prop} {s : Shared}
theorem zfz {l : Addr} {items : Array Value} {Q : Value→Shared→Prop} (hL : s.heap.IsTuple l items)
    (h : ∀ h',IsEnum h' (s.heap.objs.size + 1) s.heap.objs.size 0 .none→h'.IsTupleIter s.heap.objs.size l 0→h'.objs.size = s.heap.objs.size + 2 →
      (∀ b o,s.heap.get? b = some o→h'.get? b = some o)→Q (.ref (s.heap.objs.size + 1)) { s with heap := h' }) :
    wpAny (model prog w) A (call (.type "enumerate") [.ref l]) Q E s := by
  obtain ⟨⟨c,dct,dt,sl⟩,hl,hc,n,hd⟩ := hL
  replace hc : c = .type "tuple" := hc
  replace hd : dt = .seq items n := hd
  subst hc hd
  refine callType_new F.called_enumerate (by decide) (F.typeCall_enumerate_1 _) (F.newCall_enumerate_1 _) (fun obj => F.args_object_init_2 obj _) F.entry_enumerate_new
    (zfj l items n dct sl) ⟨hl,?_⟩
  have hz : (s.heap.push { cls := .type "tuple_iterator",data := .fields #[.ref l,.int 0 0] }).objs.size = s.heap.objs.size + 1 := Heap.size_push ..
  show _∧_
  rw [hz]
  have he : IsEnum ((s.heap.push { cls := .type "tuple_iterator",data := .fields #[.ref l,.int 0 0] }).push
      { cls := .type "enumerate",data := .fields #[.none,.bool false,.ref s.heap.objs.size,rawInt 0,.none,.none] }) (s.heap.objs.size + 1) s.heap.objs.size 0 .none := by
    have := Heap.get?_push_size (s.heap.push { cls := .type "tuple_iterator",data := .fields #[.ref l,.int 0 0] })
      (o := { cls := .type "enumerate",data := .fields #[.none,.bool false,.ref s.heap.objs.size,rawInt 0,.none,.none] }) rfl
    rw [hz] at this; exact this
  refine ⟨⟨_,he,rfl⟩,h _ he ⟨_,Heap.get?_push_of_some _ (Heap.get?_push_size _ rfl),rfl,rfl⟩ (by rw [Heap.size_push,hz]) fun b o x => Heap.get?_push_of_some _ (Heap.get?_push_of_some _ x)⟩
end
theorem zgC {X : Cx} {pins : List (Addr × Obj)} {σ : L2.St} {H : Hp} {s : Shared} {h' : Heap} {ch : List Addr} {T : Addr} {o : HO} {t' : Nat} (I : Inv X pins σ H s)
    (hch : ∀ b∈ch,FpOk X pins H b) (k : ∀ b ob,b∉ch→s.heap.get? b = some ob→h'.get? b = some ob) (hT : s.heap.objs.size≤T) (new : zaU X.prog X.w (upd H T o) h' T o) : Inv X pins σ (upd H T o) { s with heap := h',toks := t' } := by
  have hTn : H T = none := I.hok.fresh hT
  have trk : ∀ b u,H b = some u→b∉ch := fun b u e hb => by rw [(hch b hb).1] at e; cases e
  have neT : ∀ b ob,s.heap.get? b = some ob→b≠T := fun b ob e => Nat.ne_of_lt (Nat.lt_of_lt_of_le (Heap.lt_size e) hT)
  have keepU : ∀ b u,H b = some u→upd H T o b = some u := fun b u e => by rw [zay (zbp e hTn)]; exact e
  refine I.step (g' := s.gens) (d' := s.drawn) (ch := ch) (fun b hb => ?_) (fun b ob _ _ hc e _ => k b ob hc e) (fun b ob _ _ hc e _ => ⟨ob.slots,k b ob hc e⟩) (fun b ob hc e n => by rw [zay (neT b ob e)]; exact n)
    (fun b ob hc e => ⟨ob,k b ob hc e⟩) (fun b xs e => keepU b _ e) (fun b ob u e => keepU b _ e) (fun b ps e => ⟨#[],by rw [keepU b _ e]; simp⟩) (fun m hm => ?_) (fun b u e => ?_) I.bare
  · obtain ⟨z0,z1,z2,z3,z4,z5⟩ := hch b hb
    exact ⟨z3,z1,z4,z5⟩
  · obtain ⟨ob,es,ep,ho,r⟩ := hm
    exact ⟨ob,es,ep,k _ ob (fun hb => (hch _ hb).2.1 rfl) ho,r⟩
  · by_cases hb : b = T
    · subst hb
      rw [zam] at e
      cases e
      exact new
    · rw [zay hb] at e
      refine (I.hok b u e).stay (fun c v hc q => k c v ?_ q) (fun c q => keepU c _ q) fun c xs q => keepU c _ q
      rcases hc with z | z
      · rw [z]; exact trk b u e
      · exact trk c _ z
noncomputable def Ien (sq : Hp→List V→Prop) : It :=
  ⟨fun i H => ∃ xs x,sq H xs∧xs[i]? = some x,fun i H x H' => ∃ p v,H p = none∧x = .ref p∧H' = upd H p (.tup [.int i,v])∧∀ xs,sq H xs→xs[i]? = some v,fun i H => ∃ xs,sq H xs∧xs.length = i⟩
theorem zj7 {P : Program} {w : World} {H : Hp} {h : Heap} {T : Addr} {i : Nat} {tk : Tok} {x : Value} {v : V} (hT : h.get? T = some { cls := .type "tuple",data := .seq #[.int i tk,x] }) (r : L2.RelV v x) : zaU P w H h T (.tup [.int i,v]) :=
  ⟨by show 2≤sizeLine; decide,[.int i tk,x],.cons ⟨tk,rfl⟩ (.cons r .nil),⟨_,hT,rfl,0,rfl⟩,_,hT,rfl⟩
theorem ziP {P : Program} {w : World} {K : PySem.W.Frag} {elts : List Expr} {k : Nat} {pos : Pos} (a it e : Addr) (hei : e≠it) : Turn P w K (.Tuple elts k pos) (Ien fun H xs => SqL K H a xs) [e,it] e (fun i h => (∃ old,IsEnum h e it i old)∧h.IsListIter it a i) where
  mem := by simp
  obj := fun i h st b hb => by
    obtain ⟨⟨old,he⟩,o,ho,hc,hd⟩ := st
    rcases List.mem_cons.mp hb with rfl | hb
    · exact ⟨_,he,fun v z => by have z' : Data.fields _ = Data.cell v := z; cases z'⟩
    · rw [List.mem_singleton.mp hb]
      exact ⟨o,ho,fun v z => by rw [hd] at z; cases z⟩
  keep := fun i h h' st kk => by
    obtain ⟨⟨old,he⟩,hi⟩ := st
    exact ⟨⟨old,kk e (by simp) _ he⟩,hi.at fun o q => kk it (by simp) o q⟩
  item := by
    intro X hP hw hK hc i pins s σ H E I hf st hg
    subst hP hw hK
    obtain ⟨xs,x,hq,hx⟩ := hg
    obtain ⟨its,rv,p,hz⟩ := I.list hq
    obtain ⟨⟨old,he⟩,hi⟩ := st
    obtain ⟨o1,ho1,hc1,hd1⟩ := id hi
    obtain ⟨o2,ho2,hc2,_⟩ := id p.isList
    have hai : a≠it := by rintro rfl; rw [ho1] at ho2; cases ho2; rw [hc1] at hc2; exact absurd hc2 (by decide)
    have hea : e≠a := by rintro rfl; rw [he] at ho2; cases ho2; exact absurd (show Value.type "enumerate" = _ from hc2) (by decide)
    have hlt : i < its.toArray.size := by
      have := (List.getElem?_eq_some_iff.mp hx).1
      rw [List.size_toArray,← rv.length]; exact this
    refine wpAny_pyNext_enum_itemD (Draws.list (A := X.A.in1) (show X.A.in1.handled = none from I.ok.hd hc) it a hai its.toArray) he ⟨hi,p.isList⟩ hlt hei (by simp [hei,hea]) fun y h' tk hP ho hs' hT hsz hk => ?_
    refine ⟨_,rfl,wpAny_letOwnedTupleGo_enum ho fun h'' he'' hs'' => ?_⟩
    obtain ⟨u,hu,ru⟩ := rv.get hx
    have hy : y = u := by
      have : its[i]? = some y := by simpa using hP
      rw [hu] at this; exact (Option.some.inj this).symm
    subst hy
    have hTe : s.heap.objs.size≠e := Nat.ne_of_gt (Heap.lt_size he)
    have hT'' : h''.get? s.heap.objs.size = some { cls := .type "tuple",data := .seq #[.int i tk,y] } := (hs''.2 _ hTe).trans hT
    refine ⟨.ref s.heap.objs.size,upd H s.heap.objs.size (.tup [.int i,x]),zgC (s := s) (h' := h'') (t' := tk + 1) (ch := [e,it]) I hf (fun b ob hb q => ?_) (Nat.le_refl _) (zj7 hT'' ru),rfl,⟨_,x,I.hok.fresh (Nat.le_refl _),rfl,rfl,fun ys hy => by rw [I.list_inj hy hq]; exact hx⟩,⟨⟨_,by simpa using he''⟩,hs'.1.extBut hs''.extBut (Ne.symm hei)⟩,fun b hb => ?_⟩
    · have hbe : b≠e := fun z => hb (by simp [z])
      exact (hs''.2 b hbe).trans (hk b ob hbe (fun z => hb (by simp [z])) q)
    · rw [zay ?_]
      · exact (hf b hb).1
      · rcases List.mem_cons.mp hb with rfl | hb
        · exact Nat.ne_of_lt (Heap.lt_size he)
        · rw [List.mem_singleton.mp hb]; exact Nat.ne_of_lt (Heap.lt_size ho1)
  done := by
    intro X hP hw hK hc i pins s σ H E I hf st hg
    subst hP hw hK
    obtain ⟨xs,hq,hx⟩ := hg
    obtain ⟨its,rv,p,hz⟩ := I.list hq
    obtain ⟨⟨old,he⟩,hi⟩ := st
    obtain ⟨o1,ho1,hc1,hd1⟩ := id hi
    obtain ⟨o2,ho2,hc2,_⟩ := id p.isList
    have hai : a≠it := by rintro rfl; rw [ho1] at ho2; cases ho2; rw [hc1] at hc2; exact absurd hc2 (by decide)
    obtain ⟨f0,f1,f2,f3,f4,f5⟩ := hf it (by simp)
    have hn : its.toArray.size = i := by rw [List.size_toArray,← rv.length]; exact hx
    refine wpAny_pyNext_enum_endD (Draws.list (A := X.A.in1) (show X.A.in1.handled = none from I.ok.hd hc) it a hai its.toArray) he ⟨by rw [hn]; exact hi,p.isList⟩ fun h' eb => ⟨rfl,I.turned (t' := s.toks) (fun b o hb q => eb b o hb q) f0 f1 f3 f4 f5⟩
  self := fun _ _ _ _ _ st h => let ⟨⟨_,he⟩,_⟩ := st; wpAny_pyIter_enum he h
theorem IsTupleIter.at' {h h' : Heap} {a t : Addr} {i : Nat} (x : h.IsTupleIter a t i) (hs : ∀ o,h.get? a = some o→h'.get? a = some o) : h'.IsTupleIter a t i := let ⟨o,ho,r⟩ := x; ⟨o,hs o ho,r⟩
theorem ziO {P : Program} {w : World} {K : PySem.W.Frag} {elts : List Expr} {k : Nat} {pos : Pos} (a it e : Addr) (hei : e≠it) : Turn P w K (.Tuple elts k pos) (Ien fun H xs => SqT K H a xs) [e,it] e (fun i h => (∃ old,IsEnum h e it i old)∧h.IsTupleIter it a i) where
  mem := by simp
  obj := fun i h st b hb => by
    obtain ⟨⟨old,he⟩,o,ho,hc,hd⟩ := st
    rcases List.mem_cons.mp hb with rfl | hb
    · exact ⟨_,he,fun v z => by have z' : Data.fields _ = Data.cell v := z; cases z'⟩
    · rw [List.mem_singleton.mp hb]
      exact ⟨o,ho,fun v z => by rw [hd] at z; cases z⟩
  keep := fun i h h' st kk => by
    obtain ⟨⟨old,he⟩,hi⟩ := st
    exact ⟨⟨old,kk e (by simp) _ he⟩,IsTupleIter.at' hi fun o q => kk it (by simp) o q⟩
  item := by
    intro X hP hw hK hc i pins s σ H E I hf st hg
    subst hP hw hK
    obtain ⟨xs,x,hq,hx⟩ := hg
    obtain ⟨its,rv,p,hz⟩ := I.tuple hq
    obtain ⟨⟨old,he⟩,hi⟩ := st
    obtain ⟨o1,ho1,hc1,hd1⟩ := id hi
    obtain ⟨o2,ho2,hc2,_⟩ := id p
    have hai : a≠it := by rintro rfl; rw [ho1] at ho2; cases ho2; rw [hc1] at hc2; exact absurd hc2 (by decide)
    have hea : e≠a := by rintro rfl; rw [he] at ho2; cases ho2; exact absurd (show Value.type "enumerate" = _ from hc2) (by decide)
    have hlt : i < its.toArray.size := by
      have := (List.getElem?_eq_some_iff.mp hx).1
      rw [List.size_toArray,← rv.length]; exact this
    refine wpAny_pyNext_enum_itemD (zk0 (A := X.A.in1) (show X.A.in1.handled = none from I.ok.hd hc) it a hai its.toArray) he ⟨hi,p⟩ hlt hei (by simp [hei,hea]) fun y h' tk hP ho hs' hT hsz hk => ?_
    refine ⟨_,rfl,wpAny_letOwnedTupleGo_enum ho fun h'' he'' hs'' => ?_⟩
    obtain ⟨u,hu,ru⟩ := rv.get hx
    have hy : y = u := by
      have : its[i]? = some y := by simpa using hP
      rw [hu] at this; exact (Option.some.inj this).symm
    subst hy
    have hTe : s.heap.objs.size≠e := Nat.ne_of_gt (Heap.lt_size he)
    have hT'' : h''.get? s.heap.objs.size = some { cls := .type "tuple",data := .seq #[.int i tk,y] } := (hs''.2 _ hTe).trans hT
    refine ⟨.ref s.heap.objs.size,upd H s.heap.objs.size (.tup [.int i,x]),zgC (s := s) (h' := h'') (t' := tk + 1) (ch := [e,it]) I hf (fun b ob hb q => ?_) (Nat.le_refl _) (zj7 hT'' ru),rfl,⟨_,x,I.hok.fresh (Nat.le_refl _),rfl,rfl,fun ys hy => by rw [I.tuple_inj hy hq]; exact hx⟩,⟨⟨_,by simpa using he''⟩,hs'.1.extBut hs''.extBut (Ne.symm hei)⟩,fun b hb => ?_⟩
    · have hbe : b≠e := fun z => hb (by simp [z])
      exact (hs''.2 b hbe).trans (hk b ob hbe (fun z => hb (by simp [z])) q)
    · rw [zay ?_]
      · exact (hf b hb).1
      · rcases List.mem_cons.mp hb with rfl | hb
        · exact Nat.ne_of_lt (Heap.lt_size he)
        · rw [List.mem_singleton.mp hb]; exact Nat.ne_of_lt (Heap.lt_size ho1)
  done := by
    intro X hP hw hK hc i pins s σ H E I hf st hg
    subst hP hw hK
    obtain ⟨xs,hq,hx⟩ := hg
    obtain ⟨its,rv,p,hz⟩ := I.tuple hq
    obtain ⟨⟨old,he⟩,hi⟩ := st
    obtain ⟨o1,ho1,hc1,hd1⟩ := id hi
    obtain ⟨o2,ho2,hc2,_⟩ := id p
    have hai : a≠it := by rintro rfl; rw [ho1] at ho2; cases ho2; rw [hc1] at hc2; exact absurd hc2 (by decide)
    obtain ⟨f0,f1,f2,f3,f4,f5⟩ := hf it (by simp)
    have hn : its.toArray.size = i := by rw [List.size_toArray,← rv.length]; exact hx
    refine wpAny_pyNext_enum_endD (zk0 (A := X.A.in1) (show X.A.in1.handled = none from I.ok.hd hc) it a hai its.toArray) he ⟨by rw [hn]; exact hi,p⟩ fun h' eb => ⟨rfl,I.turned (t' := s.toks) (fun b o hb q => eb b o hb q) f0 f1 f3 f4 f5⟩
  self := fun _ _ _ _ _ st h => let ⟨⟨_,he⟩,_⟩ := st; wpAny_pyIter_enum he h
end DL
end
section
namespace DL
open PySem PySem.Spec PyProof.Rows L2
noncomputable def tyN : D→Option String
  | .non => some "NoneType"
  | .bl _ => some "bool"
  | .int _ => some "int"
  | .str _ => some "str"
  | .tup _ => some "tuple"
  | .lst _ => some "list"
  | .dic _ => some "dict"
  | .obj _ _ => none
noncomputable def subT (t T : String) : Bool := t == T || (t == "bool" && T == "int")
noncomputable def isiD (T : String) (d : D) : Option D := (tyN d).map fun t => .bl (subT t T)
noncomputable def TyD (K : PySem.W.Frag) (x : V) (H : Hp) (t : String) : Prop := match x with
  | .non => t = "NoneType"
  | .bl _ => t = "bool"
  | .int _ => t = "int"
  | .str _ => t = "str"
  | .ref p => (t = "list"∧∃ xs,SqL K H p xs)∨(t = "tuple"∧∃ xs,SqT K H p xs)∨(t = "dict"∧∃ kvs,Rd H p (.dK kvs))
  | _ => False
theorem zoF {K : PySem.W.Frag} {G : GH} {H : Hp} {v : V} {d : D} {t : String} (gk : GOk K G H) (h : RB K G H v d) (e : tyN d = some t) : TyD K v H t := by
  cases d with
  | non => cases e; rw [h.non gk]; rfl
  | bl b => cases e; rw [h.bl gk]; rfl
  | int i => cases e; rw [h.int gk]; rfl
  | str x => cases e; rw [h.str gk]; rfl
  | tup ds => cases e; obtain ⟨a,xs,rfl,s,r⟩ := h.tup gk; exact .inr (.inl ⟨rfl,xs,s⟩)
  | lst ds => cases e; obtain ⟨a,xs,rfl,s,r⟩ := h.lst gk; exact .inl ⟨rfl,xs,s⟩
  | dic ds => cases e; obtain ⟨a,xs,rfl,s,r⟩ := h.dic gk; exact .inr (.inr ⟨rfl,xs,s⟩)
  | obj _ _ => cases e
section
variable {X : Cx} {g : GE} {m : List Md} {e a : Expr} {f : FE} {pos p p2 : Pos}
theorem zmk : zcO X (.builtin "isinstance") (fun xs H Q => ∃ x t T b,xs = [x,.ty T]∧TyD X.K x H t∧PySem.W.kitOne X.K (.type t) (.type T) = some b∧Q (.bl b) H) := by
  intro pins s σ H xs us Q I r h
  obtain ⟨x,t,T,b,rfl,ty,e,q⟩ := h
  obtain ⟨u,w',rfl,rx,ry⟩ := zoA r
  cases ry
  have fin : ∀ tk,EP X pins σ Q (.bool b) { s with toks := tk } := fun tk => ⟨.bl b,H,I.tok tk,rfl,q⟩
  cases x with
  | non => cases rx; cases (show t = "NoneType" from ty); exact PySem.W.kia_one PySem.W.kitx_none I.kIn True.intro e (fun z => nomatch z) fin
  | bl y => cases rx; cases (show t = "bool" from ty); exact PySem.W.kia_one PySem.W.kitx_bool I.kIn True.intro e (fun z => nomatch z) fin
  | int i => obtain ⟨t,rfl⟩ := rx; cases ty; exact PySem.W.kia_one PySem.W.kitx_int I.kIn True.intro e (fun z => nomatch z) fin
  | str i => obtain ⟨t,rfl⟩ := rx; cases ty; exact PySem.W.kia_one PySem.W.kitx_str I.kIn True.intro e (fun z => nomatch z) fin
  | ref p =>
    cases rx
    rcases ty with ⟨rfl,xs,hq⟩ | ⟨rfl,xs,hq⟩ | ⟨rfl,kvs,hq⟩
    · obtain ⟨its,_,pl,_⟩ := I.list hq
      obtain ⟨o,ho,hc,_⟩ := pl.isList
      exact PySem.W.kia_one PySem.W.kitx_list I.kIn ⟨o,ho,hc⟩ e (fun z => nomatch z) fin
    · obtain ⟨its,_,pl,_⟩ := I.tuple hq
      obtain ⟨o,ho,hc,_⟩ := pl
      exact PySem.W.kia_one PySem.W.kitx_tuple I.kIn ⟨o,ho,hc⟩ e (fun z => nomatch z) fin
    · obtain ⟨_,_,vs,_,pp⟩ := (show zaU X.prog X.w H s.heap p (.dK kvs) from hq.ok I.hok)
      obtain ⟨o,es,ep,h1,h2,_⟩ := pp
      exact PySem.W.kia_one PySem.W.kitx_dict I.kIn ⟨o,h1,h2.1⟩ e (fun z => nomatch z) fin
  | _ => exact (show False from ty).elim
theorem zgs (x : Str) (T : String) (hv : bootBuiltins x = some (.type T)) (hk : ∀ (d : D) (t : String),tyN d = some t→PySem.W.kitOne X.K (.type t) (.type T) = some (subT t T)) (hg : Gl X "isinstance") (hm : X.mg "isinstance" = none) (hgT : Gl X x) (hmT : X.mg x = none) (he : SB X g m e f)
    (hn : x≠"__name__" := by decide) (hd : (x == ("__debug__" : Str)) = false := by decide) (hs1 : starEach [e,.Name x p2] X.env = (false,eval e X.env)::starEach [.Name x p2] X.env := by rfl) (hs2 : starEach [.Name x p2] X.env = (false,eval (.Name x p2) X.env)::starEach [] X.env := by rfl)
    (hpl : (backTo pos (starEach [.Name x p2] X.env)).any (·.1) = false := by rfl) :
    SE X g m (.Call (.Name "isinstance" p) [e,.Name x p2] [] pos) (f1 f (isiD T)) := by
  refine PE.imp (zdW zmk hg hm (by first | exact PyProof.Rows.boot_isinstance | rfl) (zbo he (zbo (znJ (v := .ty T) hgT hmT hv rfl hn hd) zdX hs2) hs1) (by decide) (by decide) hs1 hpl) fun σ H Q ⟨r,G,si,q⟩ => ⟨r,G,si,zah (zaf q) fun d q1 v G1 H1 w1 r1 => ?_⟩
  obtain ⟨d',e',q2⟩ := zax q1
  unfold isiD at e'
  cases et : tyN d with
  | none => rw [et] at e'; cases e'
  | some t =>
    rw [et] at e'
    cases e'
    exact ⟨v,t,T,_,rfl,zoF w1.ok r1 et,hk d t et,q2 _ G1 H1 w1 (.scl (.bl _))⟩
end
theorem zcP {d : D} {t : String} (h : tyN d = some t) {P : String→Prop} (h1 : P "NoneType") (h2 : P "bool") (h3 : P "int") (h4 : P "str") (h5 : P "tuple") (h6 : P "list") (h7 : P "dict") : P t := by
  cases d <;> cases h <;> assumption
theorem zkA (K : PySem.W.Frag) (d : D) (t : String) (h : tyN d = some t) : PySem.W.kitOne K (.type t) (.type "int") = some (subT t "int") := zcP (P := fun t => PySem.W.kitOne K (.type t) (.type "int") = some (subT t "int")) h (by kernel_rfl) (by kernel_rfl) (by kernel_rfl) (by kernel_rfl) (by kernel_rfl) (by kernel_rfl) (by kernel_rfl)
theorem ziy (K : PySem.W.Frag) (d : D) (t : String) (h : tyN d = some t) : PySem.W.kitOne K (.type t) (.type "bool") = some (subT t "bool") := zcP (P := fun t => PySem.W.kitOne K (.type t) (.type "bool") = some (subT t "bool")) h (by kernel_rfl) (by kernel_rfl) (by kernel_rfl) (by kernel_rfl) (by kernel_rfl) (by kernel_rfl) (by kernel_rfl)
theorem zn5 (K : PySem.W.Frag) (d : D) (t : String) (h : tyN d = some t) : PySem.W.kitOne K (.type t) (.type "str") = some (subT t "str") := zcP (P := fun t => PySem.W.kitOne K (.type t) (.type "str") = some (subT t "str")) h (by kernel_rfl) (by kernel_rfl) (by kernel_rfl) (by kernel_rfl) (by kernel_rfl) (by kernel_rfl) (by kernel_rfl)
theorem zl0 (K : PySem.W.Frag) (d : D) (t : String) (h : tyN d = some t) : PySem.W.kitOne K (.type t) (.type "list") = some (subT t "list") := zcP (P := fun t => PySem.W.kitOne K (.type t) (.type "list") = some (subT t "list")) h (by kernel_rfl) (by kernel_rfl) (by kernel_rfl) (by kernel_rfl) (by kernel_rfl) (by kernel_rfl) (by kernel_rfl)
theorem zfl (K : PySem.W.Frag) (d : D) (t : String) (h : tyN d = some t) : PySem.W.kitOne K (.type t) (.type "tuple") = some (subT t "tuple") := zcP (P := fun t => PySem.W.kitOne K (.type t) (.type "tuple") = some (subT t "tuple")) h (by kernel_rfl) (by kernel_rfl) (by kernel_rfl) (by kernel_rfl) (by kernel_rfl) (by kernel_rfl) (by kernel_rfl)
section
variable {X : Cx} {g : GE} {m : List Md} {e a b : Expr} {f fa : FE} {pos p pos2 p2 : Pos} {es : List Expr} {fl : Rho → Res (List D)}
noncomputable def rngV (lo : Int) (n : Nat) : List V := (List.range n).map fun (i : Nat) => V.int (lo + (i : Int))
theorem zo8 {K : PySem.W.Frag} {G : GH} (lo : Int) (n : Nat) : RGs K G (rngV lo n) (rngD lo n) := by
  unfold rngV rngD
  induction (List.range n) with
  | nil => exact .nil
  | cons i l ih => exact .cons (.scl (.int _)) ih
theorem zci : ∀ {xs : List V} {us : List Value},xs.length = us.length→(∀ (j : Nat) v u,xs[j]? = some v→us[j]? = some u→L2.RelV v u)→Vals xs us
  | [],[],_,_ => .nil
  | v::xs,u::us,hl,h => .cons (h 0 v u rfl rfl) (zci (by simpa using hl) fun j a b e1 e2 => h (j + 1) a b (by simpa using e1) (by simpa using e2))
  | [],_::_,hl,_ => by simp at hl
  | _::_,[],hl,_ => by simp at hl
theorem zlC {lo : Int} {n : Nat} {acc : Array Value} (h : ItemsOf (fun i v => ∃ t,v = .int (lo + i * 1) t) acc n) : Vals (rngV lo n) acc.toList := by
  refine zci (by simp [rngV,h.1]) fun j v u e1 e2 => ?_
  have hj : j < n := by
    have := (List.getElem?_eq_some_iff.mp e1).1
    simpa [rngV] using this
  unfold rngV at e1
  rw [List.getElem?_map,List.getElem?_range hj] at e1
  cases e1
  obtain ⟨t,rfl⟩ := h.2 j u (by rw [← Array.getElem?_toList]; exact e2)
  exact ⟨t,by simp⟩
theorem zlc : zcO X (.type "range") (fun xs H Q => ∃ j,xs = [.int j]∧∀ p,H p = none→Q (.ref p) (upd H p (.rng 0 j))) := by
  intro pins s σ H xs us Q I r h
  obtain ⟨j,rfl,q⟩ := h
  obtain ⟨u,rfl,t,rfl⟩ := zeb r
  refine call_range_1 ⟨.ref s.heap.objs.size,_,I.laid (o := .rng 0 j) (fun b o e => Heap.get?_push_of_some _ e) (Nat.le_refl _) ⟨_,_,_,Heap.get?_push_size _ rfl⟩,rfl,q _ (I.hok.fresh (Nat.le_refl _))⟩
theorem zgN (hc : X.calm = true) : zcO X (.type "list") (fun xs H Q => ∃ p lo hi,xs = [.ref p]∧H p = some (.rng lo hi)∧(-(2 ^ 62)≤lo∧lo < 2 ^ 62∧-(2 ^ 62)≤hi∧hi < 2 ^ 62)∧(hi - lo).toNat≤sizeLine∧∀ l,H l = none→Q (.ref l) (upd H l (.lst (rngV lo (hi - lo).toNat)))) := by
  intro pins s σ H xs us Q I r h
  obtain ⟨p,lo,hi,rfl,hp,⟨h1,h2,h3,h4⟩,hz,q⟩ := h
  obtain ⟨u,rfl,rx⟩ := zeb r
  cases rx
  obtain ⟨t,u,v,ho⟩ := (show zaU X.prog X.w H s.heap p (.rng lo hi) from I.hok p _ hp)
  have e2 : Builtin.Range.rangeSize lo hi 1 = (((hi - lo).toNat : Nat) : Int) := by rw [rangeSize_one]; split <;> omega
  refine call_list_range (I.ok.hd hc) (r := p) (a := lo) (b := hi) (c := 1) ho (small_one h1 h2 h3 h4) e2 (by rw [sizeLine_eq] at hz; omega) fun h' tk acc c' kp hS hacc => ?_
  refine ⟨.ref s.heap.objs.size,_,I.laid (t' := tk) kp (Nat.le_refl _) (show zaU X.prog X.w _ h' _ (.lst (rngV lo (hi - lo).toNat)) from ⟨by unfold rngV; rw [List.length_map,List.length_range]; exact hz,acc.toList,c',zlC hacc,by rw [Array.toArray_toList]; exact hS⟩),rfl,q _ (I.hok.fresh (Nat.le_refl _))⟩
noncomputable def zhk : List D→Option D
  | [.int j] => if -(2 ^ 62)≤j∧j < 2 ^ 62∧j.toNat≤sizeLine then some (.lst (rngD 0 j.toNat)) else none
  | _ => none
theorem zm7 {H : Hp} {p l : Addr} {o : HO} (h : upd H p o l = none) : H l = none∧l≠p := by
  by_cases e : l = p
  · subst e; rw [zam] at h; cases h
  · rw [zay e] at h; exact ⟨h,e⟩
theorem zff (hc : X.calm = true) (hgl : Gl X "list") (hml : X.mg "list" = none) (hg : Gl X "range") (hm : X.mg "range" = none) (ha : SAB X g m [a] fl)
    (hs : starEach [a] X.env = (false,eval a X.env)::starEach [] X.env := by rfl)
    (hs2 : starEach [.Call (.Name "range" p2) [a] [] pos2] X.env = (false,eval (.Call (.Name "range" p2) [a] [] pos2) X.env)::starEach [] X.env := by rfl) :
    SO X g m (.Call (.Name "list" p) [.Call (.Name "range" p2) [a] [] pos2] [] pos) (fC fl zhk) := by
  refine PE.imp (zcU (zgN hc) hgl hml rfl (zbo (zcU zlc hg hm boot_range ha (by decide) (by decide) hs rfl) zdX hs2) (by decide) (by decide) hs2 rfl) fun σ H Q ⟨r,G,si,q⟩ => ⟨r,G,si,zah (zaf q) fun ds q1 vs G1 H1 w1 rs => ?_⟩
  obtain ⟨d,e,q2⟩ := zax q1
  unfold zhk at e
  split at e
  · split at e
    · rename_i j hj
      cases e
      cases rs with
      | cons r1 t =>
        cases t
        refine ⟨j,by rw [r1.int w1.ok],fun p hp => ⟨p,0,j,rfl,zam,⟨by decide,by decide,hj.1,hj.2.1⟩,by simpa using hj.2.2,fun l hl => ?_⟩⟩
        obtain ⟨hl1,hl2⟩ := zm7 hl
        have w2 := Grow.new w1.ok hp (.rng 0 j)
        have w3 := Grow.new w2.ok hl (.lst (rngV 0 (j - 0).toNat))
        refine q2 l G1 _ (w1.trans (w2.trans w3)) (w1.back hl1) ⟨w1.ok.isN hl1,.lst zam ?_⟩
        rw [show j - 0 = j by omega]
        exact zo8 0 _
    · cases e
  · cases e
end
end DL
end
section
namespace DL
open PySem PySem.Spec PyProof.Rows L2
noncomputable def MtD (K : PySem.W.Frag) (r : V→List V→Hp→VK→Prop) (k : D→List D→Option D) : Prop := ∀ (G : GH) (H : Hp) (v : V) (d : D) (vs : List V) (ds : List D) (d' : D) (Q : VK),GOk K G H→RB K G H v d→Paired (RB K G H) vs ds→k d ds = some d' →
  (∀ v' G' H',Grow K G H G' H'→RG K G' v' d'→Q v' H')→r v vs H Q
noncomputable def tyM (T : String) : D→Bool
  | .lst _ => T == "list"
  | .tup _ => T == "tuple"
  | .dic _ => T == "dict"
  | .str _ => T == "str"
  | .int _ => T == "int"
  | _ => false
theorem zoE {K : PySem.W.Frag} {G : GH} {H : Hp} {v : V} {d : D} {T : String} (gk : GOk K G H) (h : RB K G H v d) (t : tyM T d = true) : tyV K T v H := by
  cases d with
  | lst ds => obtain ⟨a,xs,rfl,s,r⟩ := h.lst gk; exact .inl ⟨eq_of_beq t,xs,s⟩
  | tup ds =>
    have e : T = "tuple" := eq_of_beq t
    rcases h with h | ⟨a,rfl,o⟩
    · cases h with
      | scl s => cases s
      | ref q =>
        cases gk _ _ q with
        | tup r s => exact .inr (.inl ⟨e,.inr ⟨_,r⟩⟩)
      | kc k =>
        cases k with
        | tup r s z => exact .inr (.inl ⟨e,.inl z⟩)
    · cases o.ob
  | dic ds => obtain ⟨a,xs,rfl,s,r⟩ := h.dic gk; exact .inr (.inr (.inl ⟨eq_of_beq t,.inl ⟨xs,s⟩⟩))
  | str x => rw [h.str gk]; exact eq_of_beq t
  | int x => rw [h.int gk]; exact eq_of_beq t
  | _ => cases t
noncomputable def fM (T : String) (fo : FE) (fl : Rho→Res (List D)) (k : D→List D→Option D) : FE := fun r => (fo r).bind fun d => if tyM T d = true then (fl r).bind fun ds => opt (k d ds) else .stuck
section
variable {X : Cx} {g : GE} {m mb : List Md} {e a b o : Expr} {es : List Expr} {f fa fb fo : FE} {fl : Rho → Res (List D)} {pos pos' apos cpos : Pos} {ro : Bool} {x name : Str} {T id : String} {R : V → List V → Hp → VK → Prop} {k : D → List D → Option D}
theorem s_bm (pa : PlainAttrs T) (slot : Slot T name id) (hty : typeOf (.builtin id) = pure (.type "method_descriptor")) (hmt : MtR X id R) (hk : MtD X.K R k) (ho : SB X g m o fo) (ha : SAB X g m (e::es) fl)
    (hbase : attributeBase o name X.env (eval o X.env) = eval o X.env := by rfl)
    (hfew : ((backTo cpos (starEach (e::es) X.env)).all (fun x => ! x.1) && (backToKw cpos (keywordEach [] X.env)).all (fun x => x.1.isSome) && decide ((e::es).length + ([] : List Keyword).length + (if ([] : List Keyword).isEmpty then 0 else 1) < 30)) = true := by rfl)
    (hline : (apos.endLine == cpos.line) = true := by rfl) (hst : starEach (e::es) X.env = (false,eval e X.env)::starEach es X.env := by rfl) (hplain : (backTo cpos (starEach es X.env)).any (·.1) = false := by rfl) :
    SE X g m (.Call (.Attribute o name apos) (e::es) [] cpos) (fM T fo fl k) := by
  refine PE.imp (zpv pa slot hty hmt ho ha hbase hfew hline hst hplain) fun σ H Q ⟨r,G,si,q⟩ => ⟨r,G,si,zah (zaf q) fun d q1 v G1 H1 w1 r1 => ?_⟩
  by_cases ht : tyM T d = true
  · rw [if_pos ht] at q1
    refine ⟨zoE w1.ok r1 ht,r,G1,si.grow w1,zaB (zaf q1) w1 fun ds q2 vs G2 H2 w2 rs => ?_⟩
    obtain ⟨d',e',q3⟩ := zax q2
    exact hk G2 H2 v d vs ds d' Q w2.ok (r1.mono w2) rs e' fun v' G' H' w' z => q3 v' G' H' ((w1.trans w2).trans w') z
  · rw [if_neg ht] at q1; exact q1.elim
noncomputable def zgG (x : V) : List V→Option Nat
  | [] => none
  | y::xs => if eqV y x = true then some 0 else (zgG x xs).map (· + 1)
noncomputable def zei (x : D) : List D→Option Nat
  | [] => none
  | y::xs => if eqs y x = true then some 0 else (zei x xs).map (· + 1)
theorem zgF (x : D) : ∀ ds : List D,zgG (toV x) (ds.map toV) = zei x ds
  | [] => rfl
  | y::ds => by
    show (if eqV (toV y) (toV x) = true then some 0 else (zgG (toV x) (ds.map toV)).map (· + 1)) = if eqs y x = true then some 0 else (zei x ds).map (· + 1)
    rw [zgF x ds]; rfl
theorem ziC {x : V} {xs : List V} {us : List Value} {j : Nat} (h0 : Vals xs us) (f : xs.all zdp = true) (h : zgG x xs = some j) : ∃ hj : j < us.length,eqU x us[j] = true∧∀ i (hi : i < us.length),i < j→eqU x us[i] = false := by
  induction h0 generalizing j with
  | nil => cases h
  | @cons y u xs us r t ih =>
    rw [List.all_cons,Bool.and_eq_true] at f
    unfold zgG at h
    by_cases hy : eqV y x = true
    · rw [if_pos hy] at h
      cases h
      exact ⟨Nat.zero_lt_succ _,by show eqU x u = true; rw [ziE r f.1]; exact hy,fun i _ hlt => absurd hlt (Nat.not_lt_zero _)⟩
    · rw [if_neg hy] at h
      cases e : zgG x xs with
      | none => rw [e] at h; cases h
      | some z =>
        rw [e] at h
        cases h
        obtain ⟨a,b,c⟩ := ih f.2 e
        refine ⟨Nat.succ_lt_succ a,b,fun i hi hlt => ?_⟩
        cases i with
        | zero => show eqU x u = false; rw [ziE r f.1]; simpa using hy
        | succ i => exact c i (Nat.lt_of_succ_lt_succ hi) (Nat.lt_of_succ_lt_succ hlt)
noncomputable def zjV (K : PySem.W.Frag) : V→List V→Hp→VK→Prop := fun x vs H Q => ∃ p xs y j,x = .ref p∧vs = [y]∧SqL K H p xs∧zdp y = true∧xs.all zdp = true∧zgG y xs = some j∧Q (.int j) H
theorem zfh : MtR X "list.index" (zjV X.K) := by
  intro pins s σ H x vs v us Q I rx rv h
  obtain ⟨p,xs,y,j,rfl,rfl,hq,fy,fx,e,q⟩ := h
  cases rx
  obtain ⟨u,rfl,ru⟩ := zeb rv
  obtain ⟨its,r,pl,hz⟩ := I.list hq
  obtain ⟨o,n,ho,hc,hd,hs⟩ := pl
  obtain ⟨a,b,c⟩ := ziC r fx e
  have hl := r.length
  obtain ⟨ocls,odict,odata,oslots⟩ := o
  simp only at hc hd hs
  subst hc hd hs
  refine call_meets PySem.F.slot_list_index ⟨_,ho,rfl⟩ PySem.F.entry_list_index (PySem.F.args_list_index_2 _ _)
    (SeqAt.list_indexAt p its.toArray n none oslots u (eqU y) j (by simpa using a) (by rw [sizeLine_eq] at hz; omega) (by simpa using b) (fun i hi hlt => by simpa using c i (by simpa using hi) hlt)) ⟨ho,fun w hw => zdf ru fy r fx w (by simpa using hw),⟨.int j,H,I.tok _,⟨_,rfl⟩,q⟩⟩
noncomputable def zp0 : D→List D→Option D
  | .lst ds,[x] => if za0 x = true∧ds.all za0 = true then (zei x ds).map fun j => .int j else none
  | .tup ds,[x] => if za0 x = true∧ds.all za0 = true then (zei x ds).map fun j => .int j else none
  | _,_ => none
theorem zje {K : PySem.W.Frag} {G : GH} {H : Hp} {ds : List D} {xs : List V} {x d' : D} {v : V} (gk : GOk K G H) (rs : RGs K G xs ds) (rx : RB K G H v x) (e : (if za0 x = true∧ds.all za0 = true then (zei x ds).map fun j => D.int j else none) = some d') :
    ∃ j : Nat,d' = .int j∧zdp v = true∧xs.all zdp = true∧zgG v xs = some j := by
  by_cases hc : za0 x = true∧ds.all za0 = true
  · rw [if_pos hc] at e
    obtain ⟨e1,f1⟩ := RB.flat rx gk hc.1
    obtain ⟨e3,f3⟩ := zqe rs gk hc.2
    cases ef : zei x ds with
    | none => rw [ef] at e; cases e
    | some j =>
      rw [ef] at e
      cases e
      exact ⟨j,rfl,f1,f3,by rw [e1,e3,zgF]; exact ef⟩
  · rw [if_neg hc] at e; cases e
noncomputable def zeh (d : D) (ds : List D) : Option D := match d with
  | .lst _ => zp0 d ds
  | _ => none
theorem zfp {K : PySem.W.Frag} : MtD K (zjV K) zeh := by
  intro G H v d vs ds d' Q gk rv rs e q
  cases d with
  | lst zs =>
    cases ds with
    | nil => cases e
    | cons x t =>
      cases t with
      | nil =>
        cases rs with
        | cons r1 rt =>
          cases rt
          obtain ⟨a,xs,rfl,s,r⟩ := rv.lst gk
          obtain ⟨j,rfl,h1,h2,h3⟩ := zje gk r r1 e
          exact ⟨a,xs,_,j,rfl,rfl,s,h1,h2,h3,q _ G H (Grow.refl gk) (.scl (.int _))⟩
      | cons _ _ => cases e
  | _ => cases e
noncomputable def zez (xs : List V) : Bool := xs.all fun x => match x with | .int _ => true | _ => false
theorem zh6 {xs : List V} (h : zez xs = true) : xs.all zdp = true := by
  unfold zez at h
  rw [List.all_eq_true] at h ⊢
  intro x hx
  have := h x hx
  cases x <;> first | rfl | exact absurd this Bool.false_ne_true
theorem zhj {k : Int} {t : Tok} : ∀ {xs : List V} {us : List Value},Vals xs us→zez xs = true→∀ u∈us,MeetsSeq.EqGives u (.int k t) (eqU (.int k) u)
  | _,_,.nil,_ => fun u hu => by cases hu
  | y::xs,u::us,.cons r rt,f => fun u' hu => by
    unfold zez at f
    rw [List.all_cons,Bool.and_eq_true] at f
    cases y with
    | int i =>
      obtain ⟨t',rfl⟩ := r
      rcases List.mem_cons.mp hu with rfl | hu
      · exact MeetsSeq.EqGives.int i k t' t
      · exact zhj rt f.2 u' hu
    | _ => exact absurd f.1 Bool.false_ne_true
noncomputable def zpd : V→List V→Hp→VK→Prop := fun x vs H Q => ∃ l xs k j,x = .ref l∧vs = [.int k]∧H l = some (.lst xs)∧zez xs = true∧zgG (.int k) xs = some j∧Q .non (upd H l (.lst (xs.eraseIdx j)))
theorem zfg : MtR X "list.remove" zpd := by
  intro pins s σ H x vs v us Q I rx rv h
  obtain ⟨l,xs,k,j,rfl,rfl,hH,hi,e,q⟩ := h
  cases rx
  obtain ⟨u,rfl,t,rfl⟩ := zeb rv
  obtain ⟨hz,its,n,r,hl,eo⟩ := I.lstM hH
  obtain ⟨a,b,c⟩ := ziC r (zh6 hi) e
  have geq : ∀ y,y∈its.toArray→MeetsSeq.EqGives y (.int k t) (eqU (.int k) y) := fun y hy => zhj r hi y (by simpa using hy)
  have hsz : its.toArray.size≤sizeLine := by rw [List.size_toArray]; omega
  refine call_meets PySem.F.slot_list_remove ⟨_,eo,rfl⟩ PySem.F.entry_list_remove (PySem.F.args_list_remove_2 _ _) (MeetsSeq.list_remove l its.toArray n (.int k t) (eqU (.int k)) geq j (by simpa using a) (by simpa using b) (fun i hi hlt => by simpa using c i (by simpa using hi) hlt) hsz) ⟨eo,?_⟩
  refine ⟨.non,_,I.lset (its' := its.eraseIdx j) hH eo ?_ ?_ ?_,rfl,q⟩
  · apply Array.toList_inj.mp
    simp [Array.toList_eraseIdxIfInBounds]
  · exact Vals.eraseIdx j r
  · have := List.length_eraseIdx_le xs j
    omega
noncomputable def isInt : D→Bool
  | .int _ => true
  | _ => false
theorem zpX {K : PySem.W.Frag} {G : GH} {H : Hp} {xs : List V} {ds : List D} (h : RGs K G xs ds) (gk : GOk K G H) (hf : ds.all isInt = true) : zez xs = true∧xs = ds.map toV := by
  induction h with
  | nil => exact ⟨rfl,rfl⟩
  | @cons x d xs ds r t ih =>
    rw [List.all_cons,Bool.and_eq_true] at hf
    obtain ⟨h1,h2⟩ := ih hf.2
    cases d with
    | int i =>
      have e := r.int gk
      subst e
      refine ⟨?_,by rw [List.map_cons,← h2]; rfl⟩
      show zez _ = true
      unfold zez at h1 ⊢
      rw [List.all_cons,h1]; rfl
    | _ => exact absurd hf.1 Bool.false_ne_true
noncomputable def remD : D→List D→Option D
  | .lst ds,[.int k] => if ds.all isInt = true then (zei (.int k) ds).map fun j => .lst (ds.eraseIdx j) else none
  | _,_ => none
theorem zjS {K : PySem.W.Frag} : MutD K zpd remD := by
  intro G H a d vs ds d' Q gk ow rs e q
  unfold remD at e
  split at e
  · split at e
    · rename_i zs k hall
      cases ef : zei (.int k) zs with
      | none => rw [ef] at e; cases e
      | some j =>
        rw [ef] at e
        cases e
        cases ow.ob with
        | lst r s =>
          cases rs with
          | cons r1 t =>
            cases t
            obtain ⟨h1,h2⟩ := zpX s gk hall
            refine ⟨a,_,k,j,rfl,by rw [r1.int gk],r,h1,?_,q _ (.lst zam (Paired.er j s))⟩
            rw [h2]
            exact (zgF (.int k) zs).trans ef
    · cases e
  · cases e
noncomputable def zqX : V→List V→Hp→VK→Prop := fun x vs H Q => ∃ d kvs,x = .ref d∧vs = []∧Rd H d (.dK kvs)∧∀ p,H p = none→Q (.ref p) (upd H p (.ext fun h => h.IsValuesView p d))
theorem zkn : MtR X "dict.values" zqX := by
  intro pins s σ H x vs v us Q I rx rv h
  obtain ⟨d,kvs,rfl,rfl,hd,q⟩ := h
  cases rx
  cases rv
  obtain ⟨z1,ns1,vs1,r1,dd1⟩ := (show zaU X.prog X.w H s.heap d (.dK kvs) from hd.ok I.hok)
  refine call_meetsIn PySem.F.slot_dict_values dd1.typeIs PySem.F.entry_dict_values (PySem.F.args_dict_values_1 _) (meets_dict_values (za3 X.prog X.w) d ns1) ⟨⟨vs1,dd1⟩,?_⟩
  refine ⟨.ref s.heap.objs.size,_,I.laid (t' := s.toks) (o := .ext fun h => h.IsValuesView s.heap.objs.size d) (fun b ob e => Heap.get?_push_of_some _ e) (Nat.le_refl _) ?_,rfl,q _ (I.hok.fresh (Nat.le_refl _))⟩
  refine ⟨⟨_,Heap.get?_push_size _ rfl,rfl,rfl⟩,⟨_,Heap.get?_push_size _ rfl⟩,fun h1 h2 hv hk => ?_⟩
  obtain ⟨ob,e,c⟩ := hv
  exact ⟨ob,hk ob e,c⟩
theorem zfY (hc : X.calm = true) : zcO X (.type "list") (fun xs H Q => ∃ p d kvs,xs = [.ref p]∧H p = some (.ext fun h => h.IsValuesView p d)∧Rd H d (.dK kvs)∧∀ l,H l = none→Q (.ref l) (upd H l (.lst (kvs.map (·.2))))) := by
  intro pins s σ H xs us Q I r h
  obtain ⟨p,d,kvs,rfl,hp,hd,q⟩ := h
  obtain ⟨u,rfl,rx⟩ := zeb r
  cases rx
  obtain ⟨hv,_,_⟩ := (show zaU X.prog X.w H s.heap p (.ext fun h => h.IsValuesView p d) from I.hok p _ hp)
  obtain ⟨z1,ns1,vs1,r1,dd1⟩ := (show zaU X.prog X.w H s.heap d (.dK kvs) from hd.ok I.hok)
  obtain ⟨ep,hat⟩ := dd1.dictAt
  have l1 := Paired.length r1
  refine PySem.W.kdl_call (PySem.W.kdl_values (knd := za3 X.prog X.w) (kvs := vs1) (ep := ep)) (I.ok.hd hc) ⟨hv,hat⟩ (by omega) fun h' tk acc c' kp hS hacc => ?_
  have hvals : Vals (kvs.map (·.2)) acc.toList := by
    refine zci (by have h1 := hacc.1; have h2 : acc.toList.length = acc.size := Array.length_toList; rw [List.length_map]; omega) fun j v u e1 e2 => ?_
    obtain ⟨k,hk⟩ := hacc.2 j u (by rw [← Array.getElem?_toList]; exact e2)
    rw [List.getElem?_map] at e1
    cases e3 : kvs[j]? with
    | none => rw [e3] at e1; cases e1
    | some kv =>
      rw [e3] at e1
      cases e1
      obtain ⟨kv',e4,e5⟩ := Paired.get r1 hk
      rw [e3] at e4
      cases e4
      exact e5.2
  refine ⟨.ref s.heap.objs.size,_,I.laid (t' := tk) kp (Nat.le_refl _) (show zaU X.prog X.w _ h' _ (.lst (kvs.map (·.2))) from ⟨by rw [List.length_map]; exact z1,acc.toList,c',hvals,by rw [Array.toArray_toList]; exact hS⟩),rfl,q _ (I.hok.fresh (Nat.le_refl _))⟩
noncomputable def znf : D→Option D
  | .dic kvs => some (.lst (kvs.map (·.2)))
  | _ => none
theorem zmv {K : PySem.W.Frag} {G : GH} : ∀ {ps : List (Key × V)} {kvs : List (Key × D)},RKs K G ps kvs→RGs K G (ps.map (·.2)) (kvs.map (·.2))
  | _,_,.nil => .nil
  | _,_,.cons r t => .cons r.2 (zmv t)
theorem zmZ (hc : X.calm = true) (hg : Gl X "list") (hm : X.mg "list" = none) (ho : SB X g m o fo) (hbase : attributeBase o "values" X.env (eval o X.env) = eval o X.env := by rfl) (hline : (apos.endLine == cpos.line) = true := by rfl)
    (hs2 : starEach [.Call (.Attribute o "values" apos) [] [] cpos] X.env = (false,eval (.Call (.Attribute o "values" apos) [] [] cpos) X.env)::starEach [] X.env := by rfl) :
    SO X g m (.Call (.Name "list" pos') [.Call (.Attribute o "values" apos) [] [] cpos] [] pos) (f1 fo znf) := by
  refine PE.imp (zcU (zfY hc) hg hm rfl (zbo (zmO PySem.F.plainAttrs_dict PySem.F.slot_dict_values PySem.F.type_dict_values zkn ho hbase hline) zdX hs2) (by decide) (by decide) hs2 rfl) fun σ H Q ⟨r,G,si,q⟩ => ⟨r,G,si,zah (zaf q) fun d q1 v G1 H1 w1 r1 => ?_⟩
  obtain ⟨d',e,q2⟩ := zax q1
  cases d with
  | dic kvs =>
    cases e
    obtain ⟨a,ps,rfl,hs,rs⟩ := r1.dic w1.ok
    refine ⟨.inr (.inr (.inl ⟨rfl,.inl ⟨ps,hs⟩⟩)),a,ps,rfl,rfl,hs,fun p hp => ⟨p,a,ps,rfl,zam,?_,fun l hl => ?_⟩⟩
    · exact Rd.mono hs fun a o e => zju hp _ _ e
    · obtain ⟨hl1,hl2⟩ := zm7 hl
      have w2 := Grow.new w1.ok hp (.ext fun h => h.IsValuesView p a)
      have w3 := Grow.new w2.ok hl (.lst (ps.map (·.2)))
      exact q2 l G1 _ (w1.trans (w2.trans w3)) (w1.back hl1) ⟨w1.ok.isN hl1,.lst zam (zmv rs)⟩
  | _ => cases e
end
end DL
end
section
namespace DL
open PySem PySem.Spec PyProof.Rows L2
noncomputable def enuD : Nat→List D→List D
  | _,[] => []
  | i,d::ds => .tup [.int i,d]::enuD (i + 1) ds
theorem zgK : ∀ (i : Nat) (ds : List D),(enuD i ds).length = ds.length
  | _,[] => rfl
  | i,d::ds => congrArg (· + 1) (zgK (i + 1) ds)
theorem ziG : ∀ (i j : Nat) (ds : List D),(enuD i ds)[j]? = (ds[j]?).map fun d => D.tup [.int ((i + j : Nat) : Int),d]
  | _,_,[] => by simp [enuD]
  | i,0,d::ds => by simp [enuD]
  | i,j + 1,d::ds => by
    show (enuD (i + 1) ds)[j]? = _
    rw [ziG (i + 1) j ds]
    simp only [List.getElem?_cons_succ]
    rw [show i + 1 + j = i + (j + 1) by omega]
noncomputable def fEnu (f : FE) : FI := fun r => (f r).bind fun d => (opt (zbA d)).bind fun ds => .ok (enuD 0 ds)
section
variable {X : Cx} {g : GE} {m : List Md} {e a : Expr} {f : FE} {pos p pos2 : Pos} {elts : List Expr} {kk : Nat}
theorem znE {te : TE} (hg : Gl X "enumerate") (hm : X.mg "enumerate" = none) (he : PE X e te) (hs : starEach [e] X.env = (false,eval e X.env)::starEach [] X.env := by rfl) : PI X (.Tuple elts kk pos2) (.Call (.Name "enumerate" p) [e] [] pos) (fun σ H R => te σ H fun x H1 =>
      (∃ a,x = .ref a∧(∃ xs,SqL X.K H1 a xs)∧R (Ien fun H xs => SqL X.K H a xs) H1)∨∃ a,x = .ref a∧(∃ xs,SqT X.K H1 a xs)∧R (Ien fun H xs => SqT X.K H a xs) H1) := by
  intro pins s σ H R I h
  refine Call_ (zf9 I hg hm boot_enumerate (PyProof.Rows.callWith_type1 (thn (zbo he zdX hs pos pins s σ H (fun vs H1 => match vs with
    | [x] => (∃ a,x = .ref a∧(∃ xs,SqL X.K H1 a xs)∧R (Ien fun H xs => SqL X.K H a xs) H1)∨∃ a,x = .ref a∧(∃ xs,SqT X.K H1 a xs)∧R (Ien fun H xs => SqT X.K H a xs) H1
    | _ => False) I h) fun us s1 ⟨vs,H1,I1,r1,q1⟩ => ?_) hs rfl))
  · cases r1 with
    | nil => exact q1.elim
    | @cons x u xs us rx rt =>
    cases rt with
    | cons _ _ => exact q1.elim
    | nil =>
    have fin : ∀ {h' : Heap},h'.objs.size = s1.heap.objs.size + 2→(∀ b o,s1.heap.get? b = some o→h'.get? b = some o)→∀ b∈[s1.heap.objs.size + 1,s1.heap.objs.size],FpOk X pins H1 b := fun hz kp b hb => by
      have hge : s1.heap.objs.size≤b := by
        rcases List.mem_cons.mp hb with rfl | hb
        · exact Nat.le_succ _
        · rw [List.mem_singleton.mp hb]; exact Nat.le_refl _
      exact I1.fpOk hge (I1.hok.fresh hge)
    rcases q1 with ⟨a,rfl,⟨xs,hq⟩,q⟩ | ⟨a,rfl,⟨xs,hq⟩,q⟩
    · cases rx
      obtain ⟨its,rv,pl,hz⟩ := I1.list hq
      refine call_enumerate_list pl.isList fun h' he hi hsz kp => wpAny_pyIter_enum he ?_
      exact ⟨_,[s1.heap.objs.size + 1,s1.heap.objs.size],_,_,H1,rfl,I1.kept (t' := s1.toks) kp,ziP a _ _ (Nat.ne_of_gt (Nat.lt_succ_self _)),⟨⟨_,he⟩,hi⟩,fin hsz kp,q⟩
    · cases rx
      obtain ⟨its,rv,pl,hz⟩ := I1.tuple hq
      refine zfz (show s1.heap.IsTuple a its.toArray from pl) fun h' he hi hsz kp => wpAny_pyIter_enum he ?_
      exact ⟨_,[s1.heap.objs.size + 1,s1.heap.objs.size],_,_,H1,rfl,I1.kept (t' := s1.toks) kp,ziO a _ _ (Nat.ne_of_gt (Nat.lt_succ_self _)),⟨⟨_,he⟩,hi⟩,fin hsz kp,q⟩
end
end DL
end
section
namespace DL
open PySem PySem.Spec PyProof.Rows L2
inductive TupI (h : Heap) : Value→List Int→Prop where
  | mk {a : Addr} {items : Array Value} {ns : List Int} : IsTup h a items→IntsAre items.toList ns→TupI h (.ref a) ns
inductive TupsI (h : Heap) : List Value→List (List Int)→Prop where
  | nil : TupsI h [] []
  | cons {p : Value} {k : List Int} {ps : List Value} {ks : List (List Int)} : TupI h p k→TupsI h ps ks→TupsI h (p::ps) (k::ks)
theorem TupsI.length {h : Heap} : ∀ {ps : List Value} {ks : List (List Int)},TupsI h ps ks→ps.length = ks.length
  | _,_,.nil => rfl
  | _,_,.cons _ t => congrArg (· + 1) t.length
section
variable {prog : Program} {w : World} {A : Around} {s : Shared}
inductive TupR (h : Heap) : Value→List (List Int)→Prop where
  | mk {a : Addr} {items : List Value} {ks : List (List Int)} : IsTup h a items.toArray→TupsI h items ks→ks≠[]→TupR h (.ref a) ks
end
end DL
end
section
namespace DL
open PySem PySem.Spec PyProof.Rows L2
noncomputable def zdz : List D→Option (List Int)
  | [] => some []
  | .int i::ds => (zdz ds).map (i::·)
  | _ => none
theorem ziI {K : PySem.W.Frag} {G : GH} {H : Hp} (gk : GOk K G H) {ds : List D} {xs : List V} {ns : List Int} (h : RGs K G xs ds) (e : zdz ds = some ns) : xs = ns.map V.int := by
  induction h generalizing ns with
  | nil => cases e; rfl
  | @cons x d xs ds r t ih =>
    cases d with
    | int i =>
      have e' : (zdz ds).map (i::·) = some ns := e
      cases q : zdz ds with
      | none => rw [q] at e'; cases e'
      | some ms =>
        rw [q] at e'
        cases e'
        rw [r.int gk,ih q]; rfl
    | _ => cases e
section
variable {X : Cx} {g : GE} {m : List Md} {e a : Expr} {f : FE} {pos p pos2 p2 : Pos}
end
end DL
end
section
namespace DL
open PySem PySem.Spec PyProof.Rows L2
noncomputable def TI2 (K : PySem.W.Frag) (H : Hp) (x : V) (k : List Int) : Prop := ∃ b,x = .ref b∧SqT K H b (k.map V.int)
theorem zaU.isS {P : Program} {w : World} {H : Hp} {h : Heap} {a : Addr} {o : HO} (x : zaU P w H h a o) : h.get? a≠none := by
  have s : ∀ {u : Obj},h.get? a = some u→h.get? a≠none := fun e z => by rw [z] at e; cases e
  cases o with
  | lst xs => obtain ⟨_,_,_,_,e⟩ := x; exact s e
  | tup xs => obtain ⟨_,_,_,⟨_,e,_⟩,_⟩ := x; exact s e
  | dK kvs => obtain ⟨_,_,_,_,o,_,_,e,_⟩ := x; exact s e
  | dT kvs => obtain ⟨_,_,_,_,o,_,_,e,_⟩ := x; exact s e
  | set S n => obtain ⟨o,_,_,_,e,_⟩ := x; exact s e
  | ins C dx fs => obtain ⟨_,_,_,e,_⟩ := x; exact s e
  | own y => obtain ⟨_,e⟩ := x; exact s e
  | xd fs => obtain ⟨_,⟨_,_,_,e,_⟩,_⟩ := x; exact s e
  | rng lo hi => obtain ⟨_,_,_,e⟩ := x; exact s e
  | frz ob u => obtain ⟨e,_⟩ := x; exact s e
  | tbl ps => exact s (show h.get? a = some _ from x)
  | met f y => exact s (show h.get? a = some _ from x)
  | ext φ => obtain ⟨_,⟨_,e⟩,_⟩ := x; exact s e
section
variable {X : Cx} {pins : List (Addr × Obj)} {σ : L2.St} {H : Hp} {s : Shared}
theorem zng (I : Inv X pins σ H s) {x : V} {k : List Int} {u : Value} (h : TI2 X.K H x k) (r : L2.RelV x u) : TupI s.heap u k := by
  obtain ⟨b,rfl,hq⟩ := h
  cases r
  obtain ⟨its,rv,pl,_⟩ := I.tuple hq
  exact .mk pl (by simpa using zjd rv)
end
end DL
end
section
namespace DL
open PySem PySem.Spec PyProof.Rows L2
noncomputable def zfo : D→Option (List Int)
  | .tup ds => zdz ds
  | _ => none
noncomputable def zeK : List D→Option (List (List Int))
  | [] => some []
  | d::ds => (zfo d).bind fun k => (zeK ds).map (k::·)
section
variable {K : PySem.W.Frag} {G : GH} {H : Hp}
theorem zoI (gk : GOk K G H) {v : V} {d : D} {k : List Int} (r : RG K G v d) (e : zfo d = some k) : TI2 K H v k := by
  cases d with
  | tup ds =>
    obtain ⟨a,xs,rfl,s,rs⟩ := r.tup gk
    have := ziI gk rs e
    subst this
    exact ⟨a,rfl,s⟩
  | _ => cases e
theorem znj (gk : GOk K G H) {ds : List D} {xs : List V} {ks : List (List Int)} (h : RGs K G xs ds) (e : zeK ds = some ks) : Paired (TI2 K H) xs ks := by
  induction h generalizing ks with
  | nil => cases e; exact .nil
  | @cons x d xs ds r t ih =>
    have e' : (zfo d).bind (fun k => (zeK ds).map (k::·)) = some ks := e
    cases e1 : zfo d with
    | none => rw [e1] at e'; cases e'
    | some k =>
      rw [e1] at e'
      cases e2 : zeK ds with
      | none => rw [e2] at e'; cases e'
      | some ks' => rw [e2] at e'; cases e'; exact .cons (zoI gk r e1) (ih e2)
end
section
variable {X : Cx} {g : GE} {m : List Md} {a : Expr} {fl : Rho → Res (List D)} {pos p : Pos} {k : Nat}
end
end DL
end
section
namespace DL
open PySem PyProof.Rows PySem.SeqAt PySem.MeetsSeq PySem.MeetsSeq2 PySem.MeetsSeq3 L2
open PySem.AutoSeq1 (wpAny_loadPart')
end DL
end
section
namespace DL
open PySem PyProof.Rows L2
section
variable {prog : Program} {w : World} {A : Around} {E : Value → Shared → Prop} {s : Shared}
end
end DL
end
section
namespace DL
open PySem PySem.Spec PyProof.Rows L2
section
variable {X : Cx} {pins : List (Addr × Obj)} {σ : L2.St} {H : Hp} {s : Shared}
end
section
variable {K : PySem.W.Frag} {G : GH} {H : Hp}
end
section
variable {X : Cx} {g : GE} {m : List Md} {a : Expr} {fl : Rho → Res (List D)} {pos p : Pos} {k : Nat}
end
end DL
end
section
namespace DL
open PySem PySem.Spec PyProof.Rows L2
section
variable {X : Cx} {pins : List (Addr × Obj)} {σ : L2.St} {H : Hp} {s : Shared}
theorem Inv.keptN {h' : Heap} (I : Inv X pins σ H s) (k : ∀ b o,b≠X.env.locals→s.heap.get? b = some o→h'.get? b = some o)
    (hns : ∀ m,s.heap.Ns X.env.locals m→h'.Ns X.env.locals m) (t' : Nat) : Inv X pins σ H { s with heap := h',toks := t' } := by
  have trkL : ∀ b u,H b = some u→b≠X.env.locals := fun b u e z => by rw [z,I.free] at e; cases e
  refine I.step (g' := s.gens) (d' := s.drawn) (ch := []) (fun b hb => absurd hb (by simp)) (fun b ob hL _ _ e _ => k b ob hL e) (fun b ob hL _ _ e _ => ⟨ob.slots,k b ob hL e⟩) (fun b ob _ e n => n)
    (fun b ob _ e => ?_) (fun b xs e => e) (fun b ob u e => e) (fun b ps e => ⟨#[],by rw [e]; simp⟩) hns (fun b u e => ?_) I.bare
  · by_cases hb : b = X.env.locals
    · subst hb
      obtain ⟨m,hn,_⟩ := I.loc
      obtain ⟨o,_,_,ho',_⟩ := hns m hn
      exact ⟨o,ho'⟩
    · exact ⟨ob,k b ob hb e⟩
  · refine (I.hok b u e).stay (fun cc v hc q => k cc v ?_ q) (fun cc q => q) fun cc xs q => q
    rcases hc with z | z
    · rw [z]; exact trkL b u e
    · exact trkL cc _ z
end
section
variable {X : Cx} {g : GE} {m : List Md} {e a b : Expr} {es : List Expr} {fl : Rho → Res (List D)} {fa fb : FE} {pos p : Pos}
noncomputable def zpe (K : PySem.W.Frag) : R2 := fun x y H Q => ∃ a b ys,x = .ref a∧y = .ref b∧SqT K H a []∧SqT K H b ys∧Q (.ref b) H
theorem znN : OpR X (binaryOp .Add) (zpe X.K) := by
  intro pins s σ H x y v u Q I rx ry h
  obtain ⟨a,b,ys,rfl,rfl,ha,hb,q⟩ := h
  cases rx
  cases ry
  obtain ⟨its,r1,p1,_⟩ := I.tuple ha
  obtain ⟨its2,r2,p2,_⟩ := I.tuple hb
  cases r1
  obtain ⟨⟨cls,dd,data,sl⟩,ho,hc,n,hd⟩ := id p1
  obtain ⟨⟨cls2,dd2,data2,sl2⟩,ho2,hc2,n2,hd2⟩ := id p2
  simp only at hc hd hc2 hd2
  subst hc hd hc2 hd2
  exact concat_meets ⟨_,ho,rfl⟩ ⟨_,ho2,rfl⟩ noFill_tuple_add seq_tuple_add PySem.F.slot_tuple_add PySem.F.entry_tuple_add (PySem.F.args_tuple_add_2 _ _)
    (tuple_addW0 a b _ _ n n2 dd dd2 sl sl2 rfl) ⟨ho,ho2,⟨.ref b,H,I,rfl,q⟩⟩
noncomputable def addE : D→D→Option D
  | .tup [],.tup b => some (.tup b)
  | a,b => addA a b
theorem zos {K : PySem.W.Frag} : OpD K (fun x y H Q => zpe K x y H Q∨((∃ i j,x = .int i∧y = .int j∧Q (.int (i + j)) H)∨(∃ i j,x = .str i∧y = .str j∧i.length + j.length≤sizeLine∧Q (.str (i++j)) H)∨znx K x y H Q∨znw K x y H Q)) addE := by
  intro G H v1 v2 d1 d2 d Q gk r1 r2 e q
  unfold addE at e
  split at e
  · cases e
    rcases r1 with r1 | ⟨a',_,oo⟩
    · rcases r2 with r2 | ⟨a',_,oo⟩
      · obtain ⟨a,xs,rfl,s1,t1⟩ := r1.tup gk
        obtain ⟨b,ys,rfl,s2,t2⟩ := r2.tup gk
        cases t1
        exact .inl ⟨a,b,ys,rfl,rfl,s1,s2,q _ G H (Grow.refl gk) r2⟩
      · cases oo.ob
    · cases oo.ob
  · exact .inr (zlj G H v1 v2 d1 d2 d Q gk r1 r2 e q)
theorem zjH (ha : SB X g m a fa) (hb : SB X g m b fb) : SE X g m (.BinOp a .Add b pos) (f2 fa fb addE) := zhO (OpR.or znN (OpR.or zmP (OpR.or zf3 (OpR.or zkj zki)))) zos ha hb
end
end DL
end
section
namespace DL
open PySem PyProof.Rows L2
open PySem.AutoSeq1 (wpAny_loadPart')
section
variable {X : Cx}
end
end DL
end
section
namespace DL
open PySem PyProof.Rows PySem.W
section
variable {n : Nat} {c : Nat → Nat → Bool} (as : ∀ i j, c i j = true → c j i = false) (tr : ∀ i j k, c j i = false → c k j = false → c k i = false)
noncomputable def Le (c : Nat→Nat→Bool) (i j : Nat) : Prop := c j i = false
noncomputable def Eqv (c : Nat→Nat→Bool) (i j : Nat) : Prop := Le c i j∧Le c j i
include tr in
theorem Eqv.trans {i j k : Nat} (h1 : Eqv c i j) (h2 : Eqv c j k) : Eqv c i k := ⟨tr _ _ _ h1.1 h2.1,tr _ _ _ h2.2 h1.2⟩
theorem Eqv.symm {i j : Nat} (h : Eqv c i j) : Eqv c j i := ⟨h.2,h.1⟩
include as tr in
include tr in
include as tr in
include as tr in
include as tr in
include as tr in
include as tr in
include as tr in
include as tr in
include as tr in
include as tr in
end
end DL
end
section
namespace DL
section
variable {α : Type} {lt : α → α → Bool} {d : α}
end
end DL
end
section
namespace DL
open PySem PySem.Spec PyProof.Rows L2
section
variable {X : Cx} {pins : List (Addr × Obj)} {σ : L2.St} {H : Hp} {s : Shared}
end
section
variable {X : Cx} {g : GE} {m : List Md} {a : Expr} {fl : Rho → Res (List D)} {pos p : Pos} {k : Nat}
end
end DL
end
section
namespace DL
open PySem PySem.Spec PyProof.Rows L2
section
variable {X : Cx} {pins : List (Addr × Obj)} {σ : L2.St} {H : Hp} {s : Shared}
theorem zli (bs : List Bool) : ((List.range bs.length).all fun i => bs.getD i true) = bs.all id := by
  rw [Bool.eq_iff_iff,List.all_eq_true,List.all_eq_true]
  constructor
  · intro h b hb
    obtain ⟨i,hi,rfl⟩ := List.getElem_of_mem hb
    have := h i (List.mem_range.mpr hi)
    simpa [List.getD_eq_getElem?_getD,hi] using this
  · intro h i hi
    have hi := List.mem_range.mp hi
    have := h bs[i] (List.getElem_mem _)
    simpa [List.getD_eq_getElem?_getD,hi] using this
theorem ziL (hc : X.calm = true) (I : Inv X pins σ H s) {p : Addr} {bs : List Bool} (hq : SqL X.K H p (bs.map V.bl)) {A : Around} (hA : A.handled = none) {E : Value→Shared→Prop} {Q : Value→Shared→Prop}
    (h : ∀ I fp wr n P St tr it s₂,it = Value.ref I→Walks X.prog X.w A I fp wr n P St→St 0 s₂.heap→TruthOf X.prog X.w A P tr→n = bs.length→(∀ i,tr i = bs.getD i true) →
      (∀ (h' : Heap) (tk : Nat),(∀ (b : Addr) (o : Obj),¬b∈wr→s₂.heap.get? b = some o→h'.get? b = some o)→Inv X pins σ H { heap := h',gens := s₂.gens,drawn := s₂.drawn,toks := tk,os := s₂.os })→Q it s₂) :
    wpAny (model X.prog X.w) A (pyIter (.ref p)) Q E s := by
  obtain ⟨its,rv,pl,hz⟩ := I.list hq
  have hl := rv.length
  rw [List.length_map] at hl
  refine PySem.Flt.iter_list_ pl.isList fun s₂ e2 hi hlt hne => ?_
  refine h s.heap.objs.size [s.heap.objs.size,p] [s.heap.objs.size] its.toArray.size _ _ (fun i => bs.getD i true) _ s₂ rfl (Walks.list hA _ p hne its.toArray) hi ?_ (by rw [List.size_toArray,hl]) (fun i => rfl) fun h' tk k => ?_
  · intro i v s' Q' E' hv hq'
    have hv' : its[i]? = some v := by simpa using hv
    have hi : i < its.length := (List.getElem?_eq_some_iff.mp hv').1
    have hki : i < (bs.map V.bl).length := by rw [List.length_map]; omega
    obtain ⟨u,h1,h3⟩ := rv.get (i := i) (x := (bs.map V.bl)[i]) (List.getElem?_eq_getElem hki)
    rw [hv'] at h1
    cases h1
    rw [List.getElem_map] at h3
    have h3' : v = Value.bool bs[i] := h3
    subst h3'
    have e : bs.getD i true = bs[i] := by
      have hb : i < bs.length := by omega
      simp [List.getD_eq_getElem?_getD,hb]
    have hq2 : Q' (bs.getD i true) s' := hq'
    rw [e] at hq2
    exact wpAny_pure hq2
  · subst e2
    have ne : ∀ b o,s.heap.get? b = some o→¬ b∈[s.heap.objs.size] := fun b o e z => by
      have := List.mem_singleton.mp z
      subst this
      exact absurd (Heap.lt_size e) (Nat.lt_irrefl _)
    exact Inv.keptN I (fun b o _ e => k b o (ne b o e) (Heap.get?_push_of_some _ e)) (fun m ⟨o,es,ep,e,z⟩ => ⟨o,es,ep,k _ _ (ne _ _ e) (Heap.get?_push_of_some _ e),z⟩) tk
theorem zml (hc : X.calm = true) : zcO X (.builtin "all") (fun xs H Q => ∃ (p : Addr) (bs : List Bool),xs = [.ref p]∧SqL X.K H p (bs.map V.bl)∧Q (.bl (bs.all id)) H) := by
  intro pins s σ H xs us Q I r h
  obtain ⟨p,bs,rfl,hq,q⟩ := h
  obtain ⟨u,rfl,rx⟩ := zeb r
  cases rx
  refine call_all_walk (ziL hc I hq (show X.A.in1.handled = none from I.ok.hd hc) fun J fp wr n P St tr it s₂ e1 e2 e3 e4 e5 e6 e7 => ⟨J,fp,wr,n,P,St,tr,e1,e2,e3,e4,fun h' tk k => ?_⟩)
  have et : tr = fun i => bs.getD i true := funext e6
  rw [e5,et,zli]
  exact ⟨.bl (bs.all id),H,e7 h' tk k,rfl,q⟩
end
noncomputable def zgQ : List D→Option (List Bool)
  | [] => some []
  | .bl b::ds => (zgQ ds).map (b::·)
  | _ => none
theorem zop {K : PySem.W.Frag} {G : GH} {H : Hp} (gk : GOk K G H) {ds : List D} {xs : List V} {bs : List Bool} (h : RGs K G xs ds) (e : zgQ ds = some bs) : xs = bs.map V.bl := by
  induction h generalizing bs with
  | nil => cases e; rfl
  | @cons x d xs ds r t ih =>
    cases d with
    | bl b =>
      have e' : (zgQ ds).map (b::·) = some bs := e
      cases e1 : zgQ ds with
      | none => rw [e1] at e'; cases e'
      | some bs' =>
        rw [e1] at e'; cases e'
        rw [ih e1,List.map_cons,(RG.rb (H := H) r).bl gk]
    | _ => cases e
noncomputable def allD : List D→Option D
  | [.lst ds] => (zgQ ds).map fun bs => .bl (bs.all id)
  | _ => none
theorem zqu {K : PySem.W.Frag} : zjm K (fun xs H Q => ∃ (p : Addr) (bs : List Bool),xs = [.ref p]∧SqL K H p (bs.map V.bl)∧Q (.bl (bs.all id)) H) allD := by
  intro G H vs ds d Q gk rs e q
  unfold allD at e
  split at e
  · rename_i zs
    cases ek : zgQ zs with
    | none => rw [ek] at e; cases e
    | some bs =>
      rw [ek] at e; cases e
      cases rs with
      | cons r1 t =>
        cases t
        obtain ⟨b,xs,rfl,s,r⟩ := r1.lst gk
        have ex := zop gk r ek
        subst ex
        exact ⟨b,bs,rfl,s,q _ G H (Grow.refl gk) (.scl (.bl _))⟩
  · cases e
section
variable {X : Cx} {g : GE} {m : List Md} {e : Expr} {es : List Expr} {fl : Rho → Res (List D)} {pos p : Pos}
theorem zqW (hc : X.calm = true) (hg : Gl X "all") (hm : X.mg "all" = none) (ha : SAB X g m (e::es) fl) (he : starEach (e::es) X.env = (false,eval e X.env)::starEach es X.env := by rfl) (hpl : (backTo pos (starEach es X.env)).any (·.1) = false := by rfl) :
    SE X g m (.Call (.Name "all" p) (e::es) [] pos) (fC fl allD) := s_cb zqu (zdW (zml hc) hg hm PyProof.Rows.boot_all ha (by decide) (by decide) he hpl)
end
end DL
end
section
namespace DL
open PySem PySem.Spec PyProof.Rows L2
noncomputable def minZ (ks : List Int) : Int := ks.getD (argBest (fun i j => decide (ks.getD i 0 < ks.getD j 0)) (ks.length - 1)) 0
theorem zdg (f : Nat→Int) : ∀ k,argBest (fun i j => decide (f i < f j)) k≤k∧∀ i,i≤k→f (argBest (fun i j => decide (f i < f j)) k)≤f i
  | 0 => ⟨Nat.le_refl _,fun i hi => by
      have : i = 0 := by omega
      subst this
      exact Int.le_refl _⟩
  | k + 1 => by
    obtain ⟨h1,h2⟩ := zdg f k
    rw [argBest.eq_2]
    by_cases h : f (k + 1) < f (argBest (fun i j => decide (f i < f j)) k)
    · rw [if_pos (by simpa using h)]
      refine ⟨Nat.le_refl _,fun i hi => ?_⟩
      by_cases z : i = k + 1
      · subst z; exact Int.le_refl _
      · have := h2 i (by omega); omega
    · rw [if_neg (by simpa using h)]
      refine ⟨by omega,fun i hi => ?_⟩
      by_cases z : i = k + 1
      · subst z; omega
      · exact h2 i (by omega)
theorem zlW {ks : List Int} (h : ks≠[]) : minZ ks∈ks := by
  have hp := List.length_pos_iff.mpr h
  have h1 := (zdg (fun i => ks.getD i 0) (ks.length - 1)).1
  unfold minZ
  have hlt : argBest (fun i j => decide (ks.getD i 0 < ks.getD j 0)) (ks.length - 1) < ks.length := by omega
  rw [List.getD_eq_getElem?_getD,List.getElem?_eq_getElem hlt]
  exact List.getElem_mem _
theorem znZ {ks : List Int} {x : Int} (h : x∈ks) : minZ ks≤x := by
  obtain ⟨i,hi,rfl⟩ := List.getElem_of_mem h
  have := (zdg (fun i => ks.getD i 0) (ks.length - 1)).2 i (by omega)
  have e : ks.getD i 0 = ks[i] := by simp [List.getD_eq_getElem?_getD,hi]
  simp only [e] at this
  exact this
section
variable {X : Cx} {pins : List (Addr × Obj)} {σ : L2.St} {H : Hp} {s : Shared}
theorem zld (hc : X.calm = true) : zcO X (.builtin "min") (fun xs H Q => ∃ (p : Addr) (ks : List Int),xs = [.ref p]∧SqL X.K H p (ks.map V.int)∧ks≠[]∧Q (.int (minZ ks)) H) := by
  intro pins s σ H xs us Q I r h
  obtain ⟨p,ks,rfl,hq,hne,q⟩ := h
  obtain ⟨u,rfl,rx⟩ := zeb r
  cases rx
  obtain ⟨its,rv,pl,hz⟩ := I.list hq
  have hl := rv.length
  rw [List.length_map] at hl
  have hA : X.A.in1.handled = none := I.ok.hd hc
  have hp := List.length_pos_iff.mpr hne
  have gi : ∀ i v,its[i]? = some v→∃ t,v = Value.int (ks.getD i 0) t := fun i v hv => by
    have hi : i < its.length := (List.getElem?_eq_some_iff.mp hv).1
    have hki : i < (ks.map V.int).length := by rw [List.length_map]; omega
    obtain ⟨u,h1,h3⟩ := rv.get (i := i) (x := (ks.map V.int)[i]) (List.getElem?_eq_getElem hki)
    rw [hv] at h1
    cases h1
    rw [List.getElem_map] at h3
    have hki' : i < ks.length := by omega
    rw [List.getD_eq_getElem?_getD,List.getElem?_eq_getElem hki']
    exact h3
  refine call_min_walkS (PySem.Flt.iter_list_ pl.isList fun s₂ e2 hi hlt hn2 => ?_)
  refine ⟨s.heap.objs.size,[s.heap.objs.size,p],[s.heap.objs.size],_,its.toArray.size,_,_,fun i j => decide (ks.getD i 0 < ks.getD j 0),rfl,(Walks.list hA _ p hn2 its.toArray).toS,hi,hlt,by rw [List.size_toArray]; omega,?_,fun v s' hv M => ?_⟩
  · intro i j vi vj s' Q' E' h1 h2 hq'
    obtain ⟨t1,rfl⟩ := gi i vi (by simpa using h1)
    obtain ⟨t2,rfl⟩ := gi j vj (by simpa using h2)
    exact HT.rcLt_int _ s' _ t1 _ t2 X.prog X.w E' Q' hq'
  · have hsz : its.toArray.size - 1 = ks.length - 1 := by rw [List.size_toArray]; omega
    rw [hsz] at hv
    obtain ⟨t,rfl⟩ := gi _ v (by simpa using hv)
    subst e2
    have ne : ∀ b o,s.heap.get? b = some o→¬ b∈[s.heap.objs.size] := fun b o e z => by
      have := List.mem_singleton.mp z
      subst this
      exact absurd (Heap.lt_size e) (Nat.lt_irrefl _)
    obtain ⟨h',g',d',tk,os'⟩ := s'
    have e1 : g' = s.gens := M.gens
    have e3 : d' = s.drawn := M.drawn
    have e4 : os' = s.os := M.os
    subst e1 e3 e4
    exact ⟨.int (minZ ks),H,Inv.keptN I (fun b o _ e => M.heap b o (ne b o e) (Heap.get?_push_of_some _ e)) (fun m ⟨o,es,ep,e,z⟩ => ⟨o,es,ep,M.heap _ _ (ne _ _ e) (Heap.get?_push_of_some _ e),z⟩) tk,⟨_,rfl⟩,q⟩
end
noncomputable def zi7 : List D→Option D
  | [.lst (d::ds)] => (zdz (d::ds)).map fun ks => .int (minZ ks)
  | _ => none
theorem zn1 {K : PySem.W.Frag} : zjm K (fun xs H Q => ∃ (p : Addr) (ks : List Int),xs = [.ref p]∧SqL K H p (ks.map V.int)∧ks≠[]∧Q (.int (minZ ks)) H) zi7 := by
  intro G H vs ds d Q gk rs e q
  unfold zi7 at e
  split at e
  · rename_i z zs
    cases ek : zdz (z::zs) with
    | none => rw [ek] at e; cases e
    | some ks =>
      rw [ek] at e; cases e
      cases rs with
      | cons r1 t =>
        cases t
        obtain ⟨b,xs,rfl,s,r⟩ := r1.lst gk
        have hl := Paired.length r
        have ex := ziI gk r ek
        subst ex
        refine ⟨b,ks,rfl,s,?_,q _ G H (Grow.refl gk) (.scl (.int _))⟩
        rintro rfl
        simp at hl
  · cases e
section
variable {X : Cx} {g : GE} {m : List Md} {e : Expr} {es : List Expr} {fl : Rho → Res (List D)} {pos p : Pos}
theorem zo1 (hc : X.calm = true) (hg : Gl X "min") (hm : X.mg "min" = none) (ha : SAB X g m (e::es) fl) (he : starEach (e::es) X.env = (false,eval e X.env)::starEach es X.env := by rfl) (hpl : (backTo pos (starEach es X.env)).any (·.1) = false := by rfl) :
    SE X g m (.Call (.Name "min" p) (e::es) [] pos) (fC fl zi7) := s_cb zn1 (zdW (zld hc) hg hm PyProof.Rows.boot_min ha (by decide) (by decide) he hpl)
end
end DL
end
section
namespace DL
open PySem PySem.Spec PyProof.Rows L2
noncomputable def zhC (h0 H : Hp) : Prop := ∀ a o,h0 a = some o→H a = some o
structure YieldsB (K : PySem.W.Frag) (h0 : Hp) (J : It) (ds : List D) (G0 : GH) : Prop where
  go : ∀ G H (i : Nat),Gle G0 G→GOk K G H→zhC h0 H→i < ds.length→J.go i H
  yld : ∀ G H (i : Nat) x H' d,Gle G0 G→GOk K G H→zhC h0 H→J.yld i H x H'→ds[i]? = some d→∃ G',Grow K G H G' H'∧RG K G' x d
  stop : ∀ G H,Gle G0 G→GOk K G H→zhC h0 H→J.stop ds.length H
theorem Yields.toH {K : PySem.W.Frag} {h0 : Hp} {J : It} {ds : List D} {G0 : GH} (y : Yields K J ds G0) : YieldsB K h0 J ds G0 :=
  ⟨fun G H i w gk _ hi => y.go G H i w gk hi,fun G H i x H' d w gk _ q e => y.yld G H i x H' d w gk q e,fun G H w gk _ => y.stop G H w gk⟩
noncomputable def tIB (X : Cx) (g : GE) (m : List Md) (f : FI) : TI := fun σ H R => ∃ r G,SI X g m r G σ H∧fin (f r) (fun ds => ∀ J G' H',Grow X.K G H G' H'→YieldsB X.K g.h0 J ds G'→R J H') (XW X σ G H)
noncomputable def SItB (X : Cx) (g : GE) (m : List Md) (tg iter : Expr) (f : FI) : Prop := PI X tg iter (tIB X g m f)
noncomputable def tBw (X : Cx) (g : GE) (m : List Md) (f : FE) : TE := fun σ H Q => ∃ r G,SI X g m r G σ H∧fin (f r) (fun d => ∀ v G' H',Grow X.K G H G' H'→Bw X.K g.h0 G' H' v d→Q v H') (XW X σ G H)
noncomputable def SBw (X : Cx) (g : GE) (m : List Md) (e : Expr) (f : FE) : Prop := PE X e (tBw X g m f)
section
variable {X : Cx} {g : GE} {m m' mb : List Md} {tg e a iter : Expr} {f : FE} {pos p pos2 : Pos} {ro : Bool} {sts : List Stmt} {s1 : FS} {elts : List Expr} {kk : Nat}
theorem vw_ (i : Nat) {x : Str} (hm : m[i]? = some .bw := by rfl) (hN : X.N[i]? = some x := by rfl) (hv : Vis X.env.scope x := by first | exact Or.inl rfl | exact Or.inr (Or.inl rfl) | exact Or.inr (Or.inr rfl)) (hd : (x == ("__debug__" : Str)) = false := by decide) (hcd : (x == ("__classdict__" : Str)) = false := by decide) :
    SBw X g m (.Name x pos) fun r => getV r i := by
  refine PE.imp (zfd hN hv hd hcd) fun σ H Q ⟨r,G,si,q⟩ => ?_
  obtain ⟨d,e,k⟩ := zeX q
  obtain ⟨v,e1,e2⟩ := si.bw i d e hm
  exact ⟨v,e1,k _ G H (Grow.refl si.gok) e2⟩
theorem zj8 {K : PySem.W.Frag} {h0 : Hp} {G0 G : GH} {H0 H : Hp} {a : Addr} {ds : List D} (o : Own K G0 H0 a (.lst ds)) (h : h0 a≠none) (o0 : zhC h0 H0) (le : Gle G0 G) (o1 : zhC h0 H) : ∃ xs,SqL K H a xs∧RGs K G xs ds := by
  cases e : h0 a with
  | none => exact absurd e h
  | some u =>
    have h1 := o0 a u e
    have h2 := o1 a u e
    cases o.ob with
    | lst r s =>
      rw [h1] at r
      cases r
      exact ⟨_,SqL.of h2,RGs.mono s le⟩
theorem zoz {K : PySem.W.Frag} {h0 : Hp} {ds : List D} {G0 : GH} {a : Addr} (h : ∀ G H,Gle G0 G→GOk K G H→zhC h0 H→∃ xs,SqL K H a xs∧RGs K G xs ds) : YieldsB K h0 (Itl K a) ds G0 := by
  refine ⟨fun G H i w gk o hi => ?_,fun G H i x H' d w gk o y e => ?_,fun G H w gk o => ?_⟩
  · obtain ⟨xs,s,r⟩ := h G H w gk o
    have hl := Paired.length r
    exact ⟨xs,xs[i],s,List.getElem?_eq_getElem (by omega)⟩
  · obtain ⟨xs,s,r⟩ := h G H w gk o
    obtain ⟨rfl,y⟩ := y
    obtain ⟨v,e1,rv⟩ := Paired.get r e
    have := y xs s
    rw [e1] at this; cases this
    exact ⟨G,Grow.refl gk,rv⟩
  · obtain ⟨xs,s,r⟩ := h G H w gk o
    exact ⟨xs,s,Nat.le_of_eq (Paired.length r)⟩
theorem SI.oldIn {r : Rho} {G : GH} {st : L2.St} {H : Hp} (s : SI X g m r G st H) : zhC g.h0 H := s.old
theorem zp3 (h : SBw X g m e f) : SItB X g m tg e (fSeq zbA f) := by
  refine PI.imp (zj4 h) fun σ H R ⟨r,G,si,q⟩ => ⟨r,G,si,zah (zaf q) fun d q v G' H' w rv => ?_⟩
  obtain ⟨ds,e,q⟩ := zax q
  cases d with
  | lst ds' =>
    cases e
    rcases rv with rv | ⟨a,rfl,o,ho⟩
    · obtain ⟨a,xs,rfl,s,rs⟩ := rv.lst w.ok
      exact .inl ⟨a,rfl,⟨xs,s⟩,q _ G' H' w (zhD rv).toH⟩
    · cases o.ob with
      | lst r s => exact .inl ⟨a,rfl,⟨_,SqL.of r⟩,q _ G' H' w (zoz fun G2 H2 le _ o2 => zj8 o ho (si.grow w).oldIn le o2)⟩
  | tup ds' =>
    cases e
    rcases rv with rv | ⟨a,rfl,o,ho⟩
    · obtain ⟨a,xs,rfl,s,rs⟩ := rv.tup w.ok
      exact .inr ⟨a,rfl,⟨xs,s⟩,q _ G' H' w (zjq rv).toH⟩
    · cases o.ob
  | _ => cases e
theorem zhE {K : PySem.W.Frag} {h0 : Hp} {ds : List D} {G0 : GH} {sq : Hp→List V→Prop} (h : ∀ G H,Gle G0 G→GOk K G H→zhC h0 H→∃ xs,sq H xs∧RGs K G xs ds) : YieldsB K h0 (Ien sq) (enuD 0 ds) G0 := by
  refine ⟨fun G H i w gk o hi => ?_,fun G H i x H' d w gk o y e => ?_,fun G H w gk o => ?_⟩
  · obtain ⟨xs,s,r⟩ := h G H w gk o
    rw [zgK] at hi
    have hl := Paired.length r
    exact ⟨xs,xs[i],s,List.getElem?_eq_getElem (by omega)⟩
  · obtain ⟨xs,s,r⟩ := h G H w gk o
    obtain ⟨p,v,hp,rfl,rfl,hv⟩ := y
    rw [ziG] at e
    cases ed : ds[i]? with
    | none => rw [ed] at e; cases e
    | some d0 =>
      rw [ed] at e
      simp only [Option.map_some,Option.some.injEq,Nat.zero_add] at e
      subst e
      obtain ⟨v',e1,rv⟩ := Paired.get r ed
      have := hv xs s
      rw [e1] at this; cases this
      exact ⟨_,Grow.newF gk hp (.tup (.inl zam) (.cons (.scl (.int _)) (.cons rv .nil))),.ref zat⟩
  · obtain ⟨xs,s,r⟩ := h G H w gk o
    rw [zgK]
    exact ⟨xs,s,Paired.length r⟩
theorem zob (hg : Gl X "enumerate") (hm : X.mg "enumerate" = none) (he : SBw X g m e f) (hs : starEach [e] X.env = (false,eval e X.env)::starEach [] X.env := by rfl) : SItB X g m (.Tuple elts kk pos2) (.Call (.Name "enumerate" p) [e] [] pos) (fEnu f) := by
  refine PI.imp (znE hg hm he hs) fun σ H R ⟨r,G,si,q⟩ => ⟨r,G,si,zah (zaf q) fun d q v G' H' w rv => ?_⟩
  obtain ⟨ds,e,q⟩ := zax (zaf q)
  cases d with
  | lst ds' =>
    cases e
    rcases rv with rv | ⟨a,rfl,o,ho⟩
    · obtain ⟨a,xs,rfl,s,rs⟩ := rv.lst w.ok
      refine .inl ⟨a,rfl,⟨xs,s⟩,q _ G' H' w (zhE fun G H le gk _ => ?_)⟩
      obtain ⟨b,ys,e,s',r'⟩ := (rv.mono le).lst gk
      cases e
      exact ⟨ys,s',r'⟩
    · cases o.ob with
      | lst r s => exact .inl ⟨a,rfl,⟨_,SqL.of r⟩,q _ G' H' w (zhE fun G2 H2 le _ o2 => zj8 o ho (si.grow w).oldIn le o2)⟩
  | tup ds' =>
    cases e
    rcases rv with rv | ⟨a,rfl,o,ho⟩
    · obtain ⟨a,xs,rfl,s,rs⟩ := rv.tup w.ok
      refine .inr ⟨a,rfl,⟨xs,s⟩,q _ G' H' w (zhE fun G H le gk _ => ?_)⟩
      obtain ⟨b,ys,e,s',r'⟩ := (rv.mono le).tup gk
      cases e
      exact ⟨ys,s',r'⟩
    · cases o.ob
  | _ => cases e
theorem zmF (hp : PassesOwn (model X.prog X.w) X.A X.env X.xe) (hc : X.calm = true) {ft : FT} {fi : FI} (hi : SItB X g m tg iter fi) (hg : SG X g m tg ft m) (hb : SSs X g ro m m sts s1 m)
    (hs : ∀ x,foldedSetIterable iter X.env x = pure x := by intro _; rfl) : SS X g ro mb m (.For tg iter sts [] pos) (zcN m fi ft s1) m := by
  refine ⟨rfl,PS.imp (zj1 hp hc hi hg.2 hb.2 hs) fun D σ H ⟨r,G,si,q⟩ => ⟨r,G,si,zah (zba si rfl q) fun ds q J G0 H0 w0 Y => ?_⟩⟩
  refine ⟨fun i n σ H => ∃ r G,SI X g m r G σ H∧Gle G0 G∧i≤ds.length∧n = ds.length - i∧oTo X g ro m mb G D (forF ft s1 (ds.drop i) r),⟨ds.length,r,G0,si.grow w0,Gle.refl G0,Nat.zero_le _,rfl,oTo.gle q w0.ge⟩,?_⟩
  rintro i n σ1 H1 ⟨r1,G1,si1,le1,hi,rfl,q1⟩
  by_cases hlt : i < ds.length
  · have hd : ds.drop i = ds[i]::ds.drop (i + 1) := List.drop_eq_getElem_cons hlt
    rw [hd] at q1
    unfold forF at q1
    refine .inr ⟨Y.go G1 H1 i le1 si1.gok si1.oldIn hlt,fun σ' H' => ∃ r G,SI X g m r G σ' H'∧Gle G0 G∧oTo X g ro m mb G D (forF ft s1 (ds.drop (i + 1)) r),fun σ' H' ⟨r',G',si',le',q'⟩ => ⟨ds.length - (i + 1),by omega,r',G',si',le',hlt,rfl,q'⟩,fun x H' y => ?_⟩
    obtain ⟨G',w',rv⟩ := Y.yld G1 H1 i x H' ds[i] le1 si1.gok si1.oldIn y (List.getElem?_eq_getElem hlt)
    have le' : Gle G0 G' := le1.trans w'.ge
    cases eft : ft ds[i] r1 with
    | none => simp only [eft] at q1; exact q1.elim
    | some r2 =>
      simp only [eft] at q1
      refine ⟨r1,G',ds[i],si1.grow w',rv,r2,eft,fun σ2 si2 => ⟨r2,G',si2,?_⟩⟩
      cases eb : s1 r2 with
      | nx r' => simp only [eb] at q1; exact fun σ3 G3 H3 le3 si3 => ⟨r',G3,si3,le'.trans le3,oTo.gle q1 (Gle.trans w'.ge le3)⟩
      | ct r' => simp only [eb] at q1; exact fun σ3 G3 H3 le3 si3 => ⟨r',G3,si3,le'.trans le3,oTo.gle q1 (Gle.trans w'.ge le3)⟩
      | bk r' => simp only [eb] at q1; exact fun σ3 G3 H3 le3 si3 => q1 σ3 G3 H3 (Gle.trans w'.ge le3) si3
      | rt d => simp only [eb] at q1; exact q1
      | exc x r' => simp only [eb] at q1; exact fun pins e s' σ3 G3 H3 le3 => q1 pins e s' σ3 G3 H3 (Gle.trans w'.ge le3)
      | stuck => simp only [eb] at q1; exact q1
  · have e : i = ds.length := by omega
    subst e
    rw [List.drop_length] at q1
    exact .inl ⟨Y.stop G1 H1 le1 si1.gok si1.oldIn,q1 σ1 G1 H1 (Gle.refl _) si1⟩
end
end DL
end
section
namespace DL
open PySem PySem.Spec PyProof.Rows L2
open HT (sIx)
section
variable {prog : Program} {w : World} {A : Around} {E : Value → Shared → Prop} {s : Shared}
theorem zgE {t sl : Addr} {items : Array Value} {vl vu : Value} {lo hi : Option Int} {Q : Value→Shared→Prop} (ht : IsTup s.heap t items) (hs : s.heap.IsSliceOf sl vl vu .none) (pl : IsPart vl lo) (pu : IsPart vu hi)
    (hw : sIx items.size 0 lo = 0∧sIx items.size items.size hi = items.size) (h : Q (.ref t) s) : wpAny (model prog w) A (getItem (.ref t) (.ref sl)) Q E s := by
  obtain ⟨os,hos,hcs,hds⟩ := id hs
  have hTs : s.TypeIs (.ref sl) "slice" := ⟨os,hos,hcs⟩
  unfold getItem
  try with_reducible refine wpAny_holding ?_
  first | refine wpAny_bind (wpAny_pure ?_) | skip
  refine wpAny_bind (wpAny_sequenceKey ht.typeIs (by decide) (wpAny_bind (wpAny_callSpecial?_slot (name := Str.ofString "__getitem__") ht.typeIs PyProof.Rows.slot_tuple_getitem (wpAny_call_entry PyProof.Rows.slot_tuple_getitem ht.typeIs PyProof.Rows.entry_tuple_getitem ?_ (PyProof.Rows.args_tuple_getitem _ _)))))
  show wpAny _ _ (Builtin.Tuple.tupleItemsOf (.ref t) >>= _) _ _ s
  refine wpAny_bind (PyProof.Rows.tupleItemsOf_ ht (wpAny_bind (wpAny_typeOf hTs ?_)))
  rw [if_pos (by decide)]
  refine wpAny_bind (HT.sliceApplied_gen hs pl pu ?_)
  rw [hw.1,hw.2]
  show wpAny _ _ (if (((0 : Nat) : Int) == 0 && (1 : Int) == 1 && (items.size - 0) == items.size) = true then _ else _) _ _ s
  rw [if_pos (by simp)]
  show wpAny _ _ (Builtin.Tuple.tupleIsExact (.ref t) >>= _) _ _ s
  unfold Builtin.Tuple.tupleIsExact
  refine wpAny_bind (wpAny_bind (wpAny_typeOf ht.typeIs (wpAny_pure ?_)))
  rw [if_pos (by decide)]
  refine wpAny_bind (wpAny_rule ?_)
  show wpAny _ _ (ret (.ref t)) _ _ s
  exact wpAny_pure ⟨_,rfl,wpAny_pure h⟩
end
noncomputable def rSlW (K : PySem.W.Frag) : V→Option Int→Option Int→Hp→VK→Prop := fun x lo hi H Q => ∃ a xs,x = .ref a∧SqT K H a xs∧(sIx xs.length 0 lo = 0∧sIx xs.length xs.length hi = xs.length)∧Q (.ref a) H
theorem zlv {X : Cx} : SlR X (rSlW X.K) := by
  intro pins s σ H x v vl vu lo hi sl Q I rx hs pl pu h
  obtain ⟨a,xs,rfl,hx,hw,q⟩ := h
  cases rx
  obtain ⟨its,r,ht,hz⟩ := I.tuple hx
  have hlen : its.toArray.size = xs.length := by rw [List.size_toArray]; exact r.length.symm
  exact ⟨"tuple",_,PyProof.Rows.slot_tuple_getitem.lookup,ht.typeIs,zgE ht hs pl pu (by rw [hlen]; exact hw) ⟨.ref a,H,I,rfl,q⟩⟩
noncomputable def slA (d : D) (lo hi : Option Int) : Option D := match d with
  | .tup ds => some (.tup (cutL ds lo hi))
  | .lst ds => some (.lst (cutL ds lo hi))
  | _ => none
noncomputable def fSlA (fa : FE) (fl fh : FP) : FE := fun r => (fa r).bind fun d => (fl r).bind fun lo => (fh r).bind fun hi => opt (slA d lo hi)
section
variable {X : Cx} {g : GE} {m : List Md} {e : Expr} {f fa : FE} {pos p2 : Pos}
theorem znn {R : V→Option Int→Option Int→Hp→Prop} {fl fh : FP} {r : Rho} {G : GH} {σ : L2.St} {H : Hp} {q : D→Prop} (si : SI X g m r G σ H) (h : fin (fSlA fa fl fh r) q (XW X σ G H))
    (hk : ∀ d lo hi v G2 H2 d',Grow X.K G H G2 H2→RB X.K G2 H2 v d→slA d lo hi = some d'→q d'→R v lo hi H2) :
    tB X g m fa σ H fun x H1 => tP X g m fl σ H1 fun l H2 => tP X g m fh σ H2 fun u H3 => R x l u H3 := by
  refine ⟨r,G,si,zah (zaf h) fun d h1 v G1 H1 w1 r1 => ⟨r,G1,si.grow w1,zaB (zaf h1) w1 fun lo h2 G2 H2 w2 => ⟨r,G2,(si.grow w1).grow w2,?_⟩⟩⟩
  refine zaB (zaf h2) (w1.trans w2) fun hi h3 G3 H3 w3 => ?_
  obtain ⟨d',e,h4⟩ := zax h3
  exact hk d lo hi v G3 H3 d' ((w1.trans w2).trans w3) ((r1.mono w2).mono w3) e h4
theorem zk6 {α : Type} {ds : List α} {lo hi : Option Int} (h : sIx ds.length 0 lo = 0∧sIx ds.length ds.length hi = ds.length) : cutL ds lo hi = ds := by
  unfold cutL
  rw [h.1,h.2]; simp
theorem zoV {lo hi : Option Expr} {fl fh : FP} (he : SB X g m e f) (hl : SP1 X g m lo fl) (hu : SP1 X g m hi fh) : SE X g m (.Subscript e (.Slice lo hi none p2) pos) (fSlA f fl fh) := by
  refine PE.imp (zim (SlR.or zlv (SlR.or zjB zmA)) he hl hu) fun σ H Q ⟨r,G,si,q⟩ => ?_
  refine znn si q fun d lo hi v G2 H2 d' w r1 e q2 => ?_
  cases d with
  | tup ds =>
    cases e
    rcases r1 with r1 | ⟨a',_,oo⟩
    · obtain ⟨a,xs,rfl,s,r⟩ := r1.tup w.ok
      by_cases hw : sIx ds.length 0 lo = 0∧sIx ds.length ds.length hi = ds.length
      · refine .inl ⟨a,xs,rfl,s,by rw [Paired.length r]; exact hw,?_⟩
        rw [zk6 hw] at q2
        exact q2 _ G2 H2 w r1
      · rw [← Paired.length r] at hw
        refine .inr (.inr ⟨a,xs,rfl,s,hw,fun p hp => ?_⟩)
        exact q2 _ _ _ (w.trans (Grow.newF w.ok hp (.tup (.inl zam) (zmd r lo hi)))) (.ref zat)
    · cases oo.ob
  | lst ds =>
    cases e
    obtain ⟨a,xs,rfl,s,r⟩ := r1.lst w.ok
    exact .inr (.inl ⟨a,xs,rfl,s,fun p hp => q2 _ _ _ (w.trans (Grow.newF w.ok hp (.lst (.inl zam) (zmd r lo hi)))) (.ref zat)⟩)
  | _ => cases e
end
end DL
end
section
namespace DL
open PySem PySem.Spec PyProof.Rows L2
open AutoSeq1 (wpAny_loadPart')
structure ZA (zp ti to u1 u2 : Addr) (f1 f2 : List Addr) : Prop where
  a1 : ti≠zp
  a2 : to≠zp
  a3 : u1≠zp
  a4 : u2≠zp
  a5 : to≠u1
  a6 : to≠u2
  a7 : u1≠u2
  a8 : ti≠to∧ti≠u1∧ti≠u2
  b1 : zp∉f1∧to∉f1∧u2∉f1
  b2 : zp∉f2∧to∉f2∧u1∉f2
theorem _root_.PySem.Draws.at' {prog : Program} {w : World} {A : Around} {it : Addr} {fp : List Addr} {n : Nat} {P : Nat→Value→Prop} {St : Nat→Heap→Prop} (D : Draws prog w A it fp n P St) {i : Nat} {h h' : Heap} {c : Addr} (st : St i h) (e : Heap.ExtBut c h h') (hc : c∉fp) : St i h' :=
  D.frame i h h' st fun b hb o q => e b o (by rintro rfl; exact hc hb) q
section
variable {prog : Program} {w : World} {A : Around} {E : Value → Shared → Prop} {s : Shared} {zp ti to u1 u2 : Addr} {f1 f2 : List Addr} {n1 n2 : Nat} {P1 P2 : Nat → Value → Prop} {St1 St2 : Nat → Heap → Prop} {p q : Value}
theorem zjp {i : Nat} {Q : Value→Shared→Prop} (Z : ZA zp ti to u1 u2 f1 f2) (D1 : Draws prog w A u1 f1 n1 P1 St1) (D2 : Draws prog w A u2 f2 n2 P2 St2) (hz : IsZip s.heap zp ti to .none) (hi : IsPair s.heap ti (.ref u1) (.ref u2)) (ho : IsPair s.heap to p q)
    (s1 : St1 i s.heap) (s2 : St2 i s.heap) (l1 : i < n1) (l2 : i < n2)
    (hQ : ∀ x y h' tk,P1 i x→P2 i y→IsZip h' zp ti to (rawInt s.heap.objs.size)→IsPair h' to x y→St1 (i + 1) h'→St2 (i + 1) h'→IsPair h' s.heap.objs.size x y→h'.objs.size = s.heap.objs.size + 1 →
      (∀ c o,c≠zp→c≠to→c≠u1→c≠u2→s.heap.get? c = some o→h'.get? c = some o)→Q (.ref s.heap.objs.size) { s with heap := h',toks := tk }) :
    wpAny (model prog w) A (Builtin.«zip.__next__» ⟨[.ref zp],[]⟩) (fun fin s' => ∃ v,fin = .done (.ret v)∧Q v s') E s := by
  show wpAny _ _ (field (.ref zp) 2 >>= _) _ _ _
  refine wpAny_bind (wpAny_field hz rfl (x := .bool false) rfl ?_)
  show wpAny _ _ (field (.ref zp) 3 >>= _) _ _ _
  refine wpAny_bind (wpAny_field hz rfl (x := .ref ti) rfl (wpAny_bind (wpAny_seqItems hi rfl ?_)))
  show wpAny _ _ (Builtin.SmallTypes.ownedTupleIsFree (.ref zp) >>= _) _ _ _
  refine wpAny_bind ?_
  unfold Builtin.SmallTypes.ownedTupleIsFree
  refine wpAny_bind (wpAny_field hz rfl (x := .none) rfl (wpAny_pure ?_))
  simp only [if_true]
  refine wpAny_bind (wpAny_rule (wpAny_bind (wpAny_field hz rfl (x := .ref to) rfl (wpAny_bind (wpAny_setField_rec hz (by simp) fun g1 hz1 k1 => ?_)))))
  replace hz1 : IsZip g1 zp ti to .ellipsis := hz1
  refine wpAny_bind ?_
  simp only [List.zipIdx_cons,List.zipIdx_nil,List.forIn_cons,List.forIn_nil]
  refine wpAny_bind (wpAny_bind (wpAny_onRaise ?_))
  show wpAny _ _ (Builtin.SmallTypes.nextOf (.ref u1) >>= _) _ _ _
  refine wpAny_bind (D1.item i _ _ _ l1 (D1.at' s1 k1.extBut Z.b1.1) fun x g2 t2 px st1 k2 => wpAny_pure ?_)
  have ho2 : IsPair g2 to p q := k2.extBut _ _ Z.a5 (k1.extBut _ _ Z.a2 ho)
  refine wpAny_bind (wpAny_seqItems ho2 rfl (wpAny_bind (wpAny_updateSeq_pair ho2 fun g3 ho3 k3 => ?_)))
  replace ho3 : IsPair g3 to x q := ho3
  refine wpAny_bind (wpAny_letGo (wpAny_pure ?_))
  refine wpAny_bind (wpAny_bind (wpAny_onRaise ?_))
  show wpAny _ _ (Builtin.SmallTypes.nextOf (.ref u2) >>= _) _ _ _
  refine wpAny_bind (D2.item i _ _ _ l2 (D2.at' (D2.at' (D2.at' s2 k1.extBut Z.b2.1) k2.extBut Z.b2.2.2) k3.extBut Z.b2.2.1) fun y g4 t4 py st2 k4 => wpAny_pure ?_)
  have ho4 : IsPair g4 to x q := k4.extBut _ _ Z.a6 ho3
  refine wpAny_bind (wpAny_seqItems ho4 rfl (wpAny_bind (wpAny_updateSeq_pair ho4 fun g5 ho5 k5 => ?_)))
  replace ho5 : IsPair g5 to x y := ho5
  refine wpAny_bind (wpAny_letGo (wpAny_pure (wpAny_pure ?_)))
  refine wpAny_bind (wpAny_seqItems ho5 rfl (wpAny_bind (wpAny_newTuple ?_)))
  have hsz : g5.objs.size = s.heap.objs.size := by rw [k5.1,k4.1,k3.1,k2.1,k1.1]
  have hz5 : IsZip g5 zp ti to .ellipsis := k5.extBut _ _ Z.a2.symm (k4.extBut _ _ Z.a4.symm (k3.extBut _ _ Z.a2.symm (k2.extBut _ _ Z.a3.symm hz1)))
  have st15 : St1 (i + 1) g5 := D1.at' (D1.at' (D1.at' st1 k3.extBut Z.b1.2.1) k4.extBut Z.b1.2.2) k5.extBut Z.b1.2.1
  have st25 : St2 (i + 1) g5 := D2.at' st2 k5.extBut Z.b2.2.1
  have hzlt : zp < g5.objs.size := Heap.lt_size hz5
  show wpAny _ _ (Builtin.SmallTypes.ownedTupleHandOut (.ref zp) (.ref g5.objs.size) >>= _) _ _ _
  refine wpAny_bind ?_
  unfold Builtin.SmallTypes.ownedTupleHandOut
  have hz6 : IsZip (g5.push { cls := .type "tuple",data := .seq #[x,y] }) zp ti to .ellipsis := Heap.get?_push_of_some _ hz5
  refine wpAny_bind (wpAny_setField_rec hz6 (by simp) fun g7 hz7 k7 => ?_)
  replace hz7 : IsZip g7 zp ti to (rawInt g5.objs.size) := hz7
  refine wpAny_setField_rec hz7 (by simp) fun g8 hz8 k8 => ?_
  replace hz8 : IsZip g8 zp ti to (rawInt g5.objs.size) := hz8
  have up : ∀ c o,c≠zp→g5.get? c = some o→g8.get? c = some o := fun c o c1 e => k8.extBut _ _ c1 (k7.extBut _ _ c1 (Heap.get?_push_of_some _ e))
  have hT8 : IsPair g8 g5.objs.size x y := k8.extBut _ _ (Nat.ne_of_gt hzlt) (k7.extBut _ _ (Nat.ne_of_gt hzlt) (Heap.get?_push_size _ rfl))
  have sz8 : g8.objs.size = g5.objs.size + 1 := by rw [k8.1,k7.1,Heap.size_push]
  rw [hsz] at hz8 hT8 sz8
  refine wpAny_pure ⟨_,rfl,?_⟩
  show Q (.ref g5.objs.size) _
  rw [hsz]
  refine hQ x y g8 _ px py hz8 (up _ _ Z.a2 ho5) (D1.frame _ _ _ st15 fun b hb o e => up b o (by rintro rfl; exact Z.b1.1 hb) e) (D2.frame _ _ _ st25 fun b hb o e => up b o (by rintro rfl; exact Z.b2.1 hb) e) hT8 sz8 fun c o c1 c2 c3 c4 e => up c o c1 ?_
  exact k5.extBut _ _ c2 (k4.extBut _ _ c4 (k3.extBut _ _ c2 (k2.extBut _ _ c3 (k1.extBut _ _ c1 e))))
theorem zlr {i : Nat} {Q : Fin→Shared→Prop} (Z : ZA zp ti to u1 u2 f1 f2) (D1 : Draws prog w A u1 f1 n1 P1 St1) (D2 : Draws prog w A u2 f2 n2 P2 St2) (hz : IsZip s.heap zp ti to .none) (hi : IsPair s.heap ti (.ref u1) (.ref u2)) (ho : IsPair s.heap to p q)
    (s1 : St1 i s.heap) (s2 : St2 i s.heap) (hend : i = n1∨(i < n1∧i = n2))
    (hE : ∀ h' e tk,(∀ c o,c≠zp→c≠to→c≠u1→c≠u2→s.heap.get? c = some o→h'.get? c = some o)→(∃ o,h'.get? e = some o∧o.cls = .type "StopIteration")→E (.ref e) { s with heap := h',toks := tk }) :
    wpAny (model prog w) A (Builtin.«zip.__next__» ⟨[.ref zp],[]⟩) Q E s := by
  show wpAny _ _ (field (.ref zp) 2 >>= _) _ _ _
  refine wpAny_bind (wpAny_field hz rfl (x := .bool false) rfl ?_)
  show wpAny _ _ (field (.ref zp) 3 >>= _) _ _ _
  refine wpAny_bind (wpAny_field hz rfl (x := .ref ti) rfl (wpAny_bind (wpAny_seqItems hi rfl ?_)))
  show wpAny _ _ (Builtin.SmallTypes.ownedTupleIsFree (.ref zp) >>= _) _ _ _
  refine wpAny_bind ?_
  unfold Builtin.SmallTypes.ownedTupleIsFree
  refine wpAny_bind (wpAny_field hz rfl (x := .none) rfl (wpAny_pure ?_))
  simp only [if_true]
  refine wpAny_bind (wpAny_rule (wpAny_bind (wpAny_field hz rfl (x := .ref to) rfl (wpAny_bind (wpAny_setField_rec hz (by simp) fun g1 hz1 k1 => ?_)))))
  replace hz1 : IsZip g1 zp ti to .ellipsis := hz1
  refine wpAny_bind ?_
  simp only [List.zipIdx_cons,List.zipIdx_nil,List.forIn_cons,List.forIn_nil]
  refine wpAny_bind (wpAny_bind (wpAny_onRaise ?_))
  show wpAny _ _ (Builtin.SmallTypes.nextOf (.ref u1) >>= _) _ _ _
  rcases hend with hend | ⟨hlt,hend⟩
  · subst hend
    refine wpAny_bind (D1.done _ _ _ (D1.at' s1 k1.extBut Z.b1.1) fun g2 e k2 he => ?_)
    obtain ⟨oe,hoe,hce⟩ := he
    have hz2 : IsZip g2 zp ti to .ellipsis := k2 _ _ Z.a3.symm hz1
    have hez : e≠zp := fun x => by subst x; rw [hz2] at hoe; cases hoe; simp at hce
    exact wpAny_setField_rec hz2 (by simp) fun g3 _ k3 => hE g3 e _ (fun c o c1 _ c3 _ x => k3.extBut _ _ c1 (k2 _ _ c3 (k1.extBut _ _ c1 x))) ⟨oe,k3.extBut _ _ hez hoe,hce⟩
  · subst hend
    refine wpAny_bind (D1.item _ _ _ _ hlt (D1.at' s1 k1.extBut Z.b1.1) fun x g2 t2 px st1 k2 => wpAny_pure ?_)
    have ho2 : IsPair g2 to p q := k2.extBut _ _ Z.a5 (k1.extBut _ _ Z.a2 ho)
    refine wpAny_bind (wpAny_seqItems ho2 rfl (wpAny_bind (wpAny_updateSeq_pair ho2 fun g3 ho3 k3 => ?_)))
    refine wpAny_bind (wpAny_letGo (wpAny_pure ?_))
    refine wpAny_bind (wpAny_bind (wpAny_onRaise ?_))
    show wpAny _ _ (Builtin.SmallTypes.nextOf (.ref u2) >>= _) _ _ _
    refine wpAny_bind (D2.done _ _ _ (D2.at' (D2.at' (D2.at' s2 k1.extBut Z.b2.1) k2.extBut Z.b2.2.2) k3.extBut Z.b2.2.1) fun g4 e k4 he => ?_)
    obtain ⟨oe,hoe,hce⟩ := he
    have hz4 : IsZip g4 zp ti to .ellipsis := k4 _ _ Z.a4.symm (k3.extBut _ _ Z.a2.symm (k2.extBut _ _ Z.a3.symm hz1))
    have hez : e≠zp := fun x => by subst x; rw [hz4] at hoe; cases hoe; simp at hce
    exact wpAny_setField_rec hz4 (by simp) fun g5 _ k5 => hE g5 e _ (fun c o c1 c2 c3 c4 x => k5.extBut _ _ c1 (k4 _ _ c4 (k3.extBut _ _ c2 (k2.extBut _ _ c3 (k1.extBut _ _ c1 x))))) ⟨oe,k5.extBut _ _ hez hoe,hce⟩
theorem zhT {i : Nat} {Q : Option Value→Shared→Prop} (Z : ZA zp ti to u1 u2 f1 f2) (D1 : Draws prog w A.in1 u1 f1 n1 P1 St1) (D2 : Draws prog w A.in1 u2 f2 n2 P2 St2) (hz : IsZip s.heap zp ti to .none) (hi : IsPair s.heap ti (.ref u1) (.ref u2)) (ho : IsPair s.heap to p q)
    (s1 : St1 i s.heap) (s2 : St2 i s.heap) (l1 : i < n1) (l2 : i < n2)
    (hQ : ∀ x y h' tk,P1 i x→P2 i y→IsZip h' zp ti to (rawInt s.heap.objs.size)→IsPair h' to x y→St1 (i + 1) h'→St2 (i + 1) h'→IsPair h' s.heap.objs.size x y→h'.objs.size = s.heap.objs.size + 1 →
      (∀ c o,c≠zp→c≠to→c≠u1→c≠u2→s.heap.get? c = some o→h'.get? c = some o)→Q (some (.ref s.heap.objs.size)) { s with heap := h',toks := tk }) :
    wpAny (model prog w) A (pyNext (.ref zp)) Q E s := by
  have hT : s.TypeIs (.ref zp) "zip" := ⟨_,hz,rfl⟩
  unfold pyNext
  exact wpAny_bind (wpAny_attempt (wpAny_callSpecial?_slot (name := Str.ofString "__next__") hT F.slot_zip_next (wpAny_call_entry F.slot_zip_next hT F.entry_zip_next
      (zjp Z D1 D2 hz hi ho s1 s2 l1 l2 fun x y h' tk b1 b2 b3 b4 b5 b6 b7 b8 b9 => wpAny_pure (hQ x y h' tk b1 b2 b3 b4 b5 b6 b7 b8 b9)) (F.args_zip_next_1 _))))
theorem zfU {i : Nat} {Q : Option Value→Shared→Prop} (Z : ZA zp ti to u1 u2 f1 f2) (D1 : Draws prog w A.in1 u1 f1 n1 P1 St1) (D2 : Draws prog w A.in1 u2 f2 n2 P2 St2) (hz : IsZip s.heap zp ti to .none) (hi : IsPair s.heap ti (.ref u1) (.ref u2)) (ho : IsPair s.heap to p q)
    (s1 : St1 i s.heap) (s2 : St2 i s.heap) (hend : i = n1∨(i < n1∧i = n2)) (hQ : ∀ h' tk,(∀ c o,c≠zp→c≠to→c≠u1→c≠u2→s.heap.get? c = some o→h'.get? c = some o)→Q none { s with heap := h',toks := tk }) :
    wpAny (model prog w) A (pyNext (.ref zp)) Q E s := by
  have hT : s.TypeIs (.ref zp) "zip" := ⟨_,hz,rfl⟩
  unfold pyNext
  refine wpAny_bind (wpAny_attempt (wpAny_callSpecial?_slot (name := Str.ofString "__next__") hT F.slot_zip_next (wpAny_call_entry F.slot_zip_next hT F.entry_zip_next (zlr Z D1 D2 hz hi ho s1 s2 hend fun h' e tk hk he => ?_) (F.args_zip_next_1 _))))
  obtain ⟨o,ho,hc⟩ := he
  exact wpAny_bind (wpAny_isInstance (T := "StopIteration") (b := true) ⟨o,ho,hc⟩ isSubtype_stop (wpAny_pure (hQ _ _ hk)))
end
noncomputable abbrev itO (c : String) (l : Addr) : Obj := { cls := .type c,data := .fields #[.ref l,.int 0 0] }
noncomputable abbrev zg2 (h : Heap) (c1 c2 : String) (l1 l2 : Addr) : Heap := (h.push (itO c1 l1)).push (itO c2 l2)
noncomputable abbrev zg3 (h : Heap) (c1 c2 : String) (l1 l2 : Addr) : Heap := (zg2 h c1 c2 l1 l2).push { cls := .type "tuple",data := .seq #[.ref h.objs.size,.ref (h.push (itO c1 l1)).objs.size] }
noncomputable abbrev zg4 (h : Heap) (c1 c2 : String) (l1 l2 : Addr) : Heap := (zg3 h c1 c2 l1 l2).push { cls := .type "tuple",data := .seq #[.none,.none] }
noncomputable abbrev zg5 (h : Heap) (c1 c2 : String) (l1 l2 : Addr) : Heap := (zg4 h c1 c2 l1 l2).push { cls := .type "zip",data := .fields #[.none,.bool false,.bool false,.ref (zg2 h c1 c2 l1 l2).objs.size,.ref (zg3 h c1 c2 l1 l2).objs.size] }
theorem zia {h : Heap} {a : Addr} {xs : Array Value} (x : h.IsTuple a xs) (o : Obj) : (h.push o).IsTuple a xs := let ⟨u,hu,r⟩ := x; ⟨u,Heap.get?_push_of_some _ hu,r⟩
theorem zkw (l1 l2 : Addr) (xs ys : Array Value) : Meets (Builtin.«zip.__new__» ⟨[.type "zip",.ref l1,.ref l2],[]⟩) (fun _ R s => s.heap.IsList l1 xs∧s.heap.IsList l2 ys ∧
      R (.ok (.ret (.ref (zg4 s.heap "list_iterator" "list_iterator" l1 l2).objs.size))) { s with heap := zg5 s.heap "list_iterator" "list_iterator" l1 l2 }) :=
  .of_wp fun prog w A R s h => by
    obtain ⟨hp,gg,dd,tk,os⟩ := s; obtain ⟨q1,q2,h⟩ := h
    have hsub := sub_zip
    have e1 : Heap.IsList (Shared.heap ⟨hp,gg,dd,tk,os⟩) l1 xs := q1
    have e2 : Heap.IsList (Shared.heap ⟨hp.push (itO "list_iterator" l1),gg,dd,tk,os⟩) l2 ys := Heap.IsList.push q2 _
    wp_walk using wpAny_pyIter_list e1,wpAny_pyIter_list e2
    exact ⟨_,rfl,h⟩
theorem zku (l1 l2 : Addr) (xs ys : Array Value) : Meets (Builtin.«zip.__new__» ⟨[.type "zip",.ref l1,.ref l2],[]⟩) (fun _ R s => s.heap.IsTuple l1 xs∧s.heap.IsList l2 ys ∧
      R (.ok (.ret (.ref (zg4 s.heap "tuple_iterator" "list_iterator" l1 l2).objs.size))) { s with heap := zg5 s.heap "tuple_iterator" "list_iterator" l1 l2 }) :=
  .of_wp fun prog w A R s h => by
    obtain ⟨hp,gg,dd,tk,os⟩ := s; obtain ⟨q1,q2,h⟩ := h
    have hsub := sub_zip
    have e1 : Heap.IsTuple (Shared.heap ⟨hp,gg,dd,tk,os⟩) l1 xs := q1
    have e2 : Heap.IsList (Shared.heap ⟨hp.push (itO "tuple_iterator" l1),gg,dd,tk,os⟩) l2 ys := Heap.IsList.push q2 _
    wp_walk using wpAny_pyIter_tuple e1,wpAny_pyIter_list e2
    exact ⟨_,rfl,h⟩
theorem zkt (l1 l2 : Addr) (xs ys : Array Value) : Meets (Builtin.«zip.__new__» ⟨[.type "zip",.ref l1,.ref l2],[]⟩) (fun _ R s => s.heap.IsTuple l1 xs∧s.heap.IsTuple l2 ys ∧
      R (.ok (.ret (.ref (zg4 s.heap "tuple_iterator" "tuple_iterator" l1 l2).objs.size))) { s with heap := zg5 s.heap "tuple_iterator" "tuple_iterator" l1 l2 }) :=
  .of_wp fun prog w A R s h => by
    obtain ⟨hp,gg,dd,tk,os⟩ := s; obtain ⟨q1,q2,h⟩ := h
    have hsub := sub_zip
    have e1 : Heap.IsTuple (Shared.heap ⟨hp,gg,dd,tk,os⟩) l1 xs := q1
    have e2 : Heap.IsTuple (Shared.heap ⟨hp.push (itO "tuple_iterator" l1),gg,dd,tk,os⟩) l2 ys := zia q2 _
    wp_walk using wpAny_pyIter_tuple e1,wpAny_pyIter_tuple e2
    exact ⟨_,rfl,h⟩
theorem zkv (l1 l2 : Addr) (xs ys : Array Value) : Meets (Builtin.«zip.__new__» ⟨[.type "zip",.ref l1,.ref l2],[]⟩) (fun _ R s => s.heap.IsList l1 xs∧s.heap.IsTuple l2 ys ∧
      R (.ok (.ret (.ref (zg4 s.heap "list_iterator" "tuple_iterator" l1 l2).objs.size))) { s with heap := zg5 s.heap "list_iterator" "tuple_iterator" l1 l2 }) :=
  .of_wp fun prog w A R s h => by
    obtain ⟨hp,gg,dd,tk,os⟩ := s; obtain ⟨q1,q2,h⟩ := h
    have hsub := sub_zip
    have e1 : Heap.IsList (Shared.heap ⟨hp,gg,dd,tk,os⟩) l1 xs := q1
    have e2 : Heap.IsTuple (Shared.heap ⟨hp.push (itO "list_iterator" l1),gg,dd,tk,os⟩) l2 ys := zia q2 _
    wp_walk using wpAny_pyIter_list e1,wpAny_pyIter_tuple e2
    exact ⟨_,rfl,h⟩
section
variable {prog : Program} {w : World} {A : Around} {E : Value → Shared → Prop} {s : Shared}
noncomputable def Made (s : Shared) (c1 c2 : String) (l1 l2 : Addr) (Q : Value→Shared→Prop) : Prop :=
  ∀ h',IsZip h' (s.heap.objs.size + 4) (s.heap.objs.size + 2) (s.heap.objs.size + 3) .none→IsPair h' (s.heap.objs.size + 2) (.ref s.heap.objs.size) (.ref (s.heap.objs.size + 1)) →
      IsPair h' (s.heap.objs.size + 3) .none .none→h'.get? s.heap.objs.size = some (itO c1 l1)→h'.get? (s.heap.objs.size + 1) = some (itO c2 l2) →
      (∀ c o,s.heap.get? c = some o→h'.get? c = some o)→Q (.ref (s.heap.objs.size + 4)) { s with heap := h' }
theorem zgy {c1 c2 : String} {l1 l2 : Addr} {Q : Value→Shared→Prop} (h : Made s c1 c2 l1 l2 Q) : (∃ o,(zg5 s.heap c1 c2 l1 l2).get? (zg4 s.heap c1 c2 l1 l2).objs.size = some o∧o.cls = .type "zip")∧Q (.ref (zg4 s.heap c1 c2 l1 l2).objs.size) { s with heap := zg5 s.heap c1 c2 l1 l2 } := by
  have z1 : (s.heap.push (itO c1 l1)).objs.size = s.heap.objs.size + 1 := Heap.size_push ..
  have z2 : (zg2 s.heap c1 c2 l1 l2).objs.size = s.heap.objs.size + 2 := by rw [Heap.size_push,z1]
  have z3 : (zg3 s.heap c1 c2 l1 l2).objs.size = s.heap.objs.size + 3 := by rw [Heap.size_push,z2]
  have z4 : (zg4 s.heap c1 c2 l1 l2).objs.size = s.heap.objs.size + 4 := by rw [Heap.size_push,z3]
  have g5 : (zg5 s.heap c1 c2 l1 l2).get? (zg4 s.heap c1 c2 l1 l2).objs.size = some _ := Heap.get?_push_size _ rfl
  have g4 : (zg5 s.heap c1 c2 l1 l2).get? (zg3 s.heap c1 c2 l1 l2).objs.size = some _ := Heap.get?_push_of_some _ (Heap.get?_push_size _ rfl)
  have g3 : (zg5 s.heap c1 c2 l1 l2).get? (zg2 s.heap c1 c2 l1 l2).objs.size = some _ := Heap.get?_push_of_some _ (Heap.get?_push_of_some _ (Heap.get?_push_size _ rfl))
  have g2 : (zg5 s.heap c1 c2 l1 l2).get? (s.heap.push (itO c1 l1)).objs.size = some (itO c2 l2) := Heap.get?_push_of_some _ (Heap.get?_push_of_some _ (Heap.get?_push_of_some _ (Heap.get?_push_size _ rfl)))
  have g1 : (zg5 s.heap c1 c2 l1 l2).get? s.heap.objs.size = some (itO c1 l1) := Heap.get?_push_of_some _ (Heap.get?_push_of_some _ (Heap.get?_push_of_some _ (Heap.get?_push_of_some _ (Heap.get?_push_size _ rfl))))
  rw [z2,z3,z4] at g5
  rw [z1,z2] at g3
  rw [z3] at g4
  rw [z1] at g2
  rw [z4]
  exact ⟨⟨_,g5,rfl⟩,h _ g5 g3 g4 g1 g2 fun c o x => Heap.get?_push_of_some _ (Heap.get?_push_of_some _ (Heap.get?_push_of_some _ (Heap.get?_push_of_some _ (Heap.get?_push_of_some _ x))))⟩
theorem zmi {l1 l2 : Addr} {xs ys : Array Value} {Q : Value→Shared→Prop} (q1 : s.heap.IsList l1 xs) (q2 : s.heap.IsList l2 ys) (h : Made s "list_iterator" "list_iterator" l1 l2 Q) : wpAny (model prog w) A (call (.type "zip") [.ref l1,.ref l2]) Q E s :=
  callType_new F.called_zip (by decide) (F.typeCall_zip_2 _ _) (F.newCall_zip_2 _ _) (fun obj => F.args_object_init_3 obj _ _) F.entry_zip_new (zkw l1 l2 xs ys) ⟨q1,q2,zgy h⟩
theorem zmg {l1 l2 : Addr} {xs ys : Array Value} {Q : Value→Shared→Prop} (q1 : s.heap.IsTuple l1 xs) (q2 : s.heap.IsList l2 ys) (h : Made s "tuple_iterator" "list_iterator" l1 l2 Q) : wpAny (model prog w) A (call (.type "zip") [.ref l1,.ref l2]) Q E s :=
  callType_new F.called_zip (by decide) (F.typeCall_zip_2 _ _) (F.newCall_zip_2 _ _) (fun obj => F.args_object_init_3 obj _ _) F.entry_zip_new (zku l1 l2 xs ys) ⟨q1,q2,zgy h⟩
theorem zmf {l1 l2 : Addr} {xs ys : Array Value} {Q : Value→Shared→Prop} (q1 : s.heap.IsTuple l1 xs) (q2 : s.heap.IsTuple l2 ys) (h : Made s "tuple_iterator" "tuple_iterator" l1 l2 Q) : wpAny (model prog w) A (call (.type "zip") [.ref l1,.ref l2]) Q E s :=
  callType_new F.called_zip (by decide) (F.typeCall_zip_2 _ _) (F.newCall_zip_2 _ _) (fun obj => F.args_object_init_3 obj _ _) F.entry_zip_new (zkt l1 l2 xs ys) ⟨q1,q2,zgy h⟩
theorem zmh {l1 l2 : Addr} {xs ys : Array Value} {Q : Value→Shared→Prop} (q1 : s.heap.IsList l1 xs) (q2 : s.heap.IsTuple l2 ys) (h : Made s "list_iterator" "tuple_iterator" l1 l2 Q) : wpAny (model prog w) A (call (.type "zip") [.ref l1,.ref l2]) Q E s :=
  callType_new F.called_zip (by decide) (F.typeCall_zip_2 _ _) (F.newCall_zip_2 _ _) (fun obj => F.args_object_init_3 obj _ _) F.entry_zip_new (zkv l1 l2 xs ys) ⟨q1,q2,zgy h⟩
end
end DL
end
section
namespace DL
open PySem PySem.Spec PyProof.Rows L2
noncomputable def sqK (K : PySem.W.Frag) (t : Bool) (a : Addr) (H : Hp) (xs : List V) : Prop := match t with
  | false => SqL K H a xs
  | true => SqT K H a xs
noncomputable def itK (t : Bool) (a u : Addr) (i : Nat) (h : Heap) : Prop := match t with
  | false => h.IsListIter u a i
  | true => h.IsTupleIter u a i
noncomputable abbrev nmK (t : Bool) : String := match t with
  | false => "list_iterator"
  | true => "tuple_iterator"
theorem zkI {t : Bool} {a u : Addr} {h : Heap} (e : h.get? u = some (itO (nmK t) a)) : itK t a u 0 h := by cases t <;> exact ⟨_,e,rfl,rfl⟩
theorem zgB {t : Bool} {a u : Addr} {i : Nat} {h : Heap} (e : itK t a u i h) : ∃ o,h.get? u = some o∧∀ v,o.data≠.cell v := by
  cases t <;> (obtain ⟨o,ho,hc,hd⟩ := e; exact ⟨o,ho,fun v z => by rw [hd] at z; cases z⟩)
theorem zeW {t : Bool} {a u : Addr} {i : Nat} {h h' : Heap} (e : itK t a u i h) (k : ∀ o,h.get? u = some o→h'.get? u = some o) : itK t a u i h' := by
  cases t <;> (obtain ⟨o,ho,r⟩ := e; exact ⟨o,k o ho,r⟩)
section
variable {X : Cx} {pins : List (Addr × Obj)} {σ : L2.St} {H : Hp} {s : Shared} {t : Bool} {a u : Addr} {xs ys : List V} {i : Nat}
theorem zmb (I : Inv X pins σ H s) (hc : X.calm = true) (hq : sqK X.K t a H xs) (hau : a≠u) (hi : itK t a u i s.heap) : ∃ (its : List Value) (St : Nat→Heap→Prop),Vals xs its∧Draws X.prog X.w X.A.in1 u [u,a] its.toArray.size (fun i v => its.toArray[i]? = some v) St∧St i s.heap∧∀ j h',St j h'→itK t a u j h' := by
  cases t with
  | false =>
    obtain ⟨its,rv,p,hz⟩ := I.list hq
    exact ⟨its,_,rv,Draws.list (A := X.A.in1) (show X.A.in1.handled = none from I.ok.hd hc) u a hau its.toArray,⟨hi,p.isList⟩,fun j h' st => st.1⟩
  | true =>
    obtain ⟨its,rv,p,hz⟩ := I.tuple hq
    exact ⟨its,_,rv,zk0 (A := X.A.in1) (show X.A.in1.handled = none from I.ok.hd hc) u a hau its.toArray,⟨hi,p⟩,fun j h' st => st.1⟩
theorem zjA (I : Inv X pins σ H s) (h1 : sqK X.K t a H xs) (h2 : sqK X.K t a H ys) : xs = ys := by
  cases t with
  | false => exact I.list_inj h1 h2
  | true => exact I.tuple_inj h1 h2
theorem zgW (I : Inv X pins σ H s) (h1 : sqK X.K t a H xs) : a < s.heap.objs.size := by
  cases t with
  | false => obtain ⟨its,rv,p,hz⟩ := I.list h1; obtain ⟨o,ho,_⟩ := p.isList; exact Heap.lt_size ho
  | true => obtain ⟨its,rv,p,hz⟩ := I.tuple h1; obtain ⟨o,ho,_⟩ := id p; exact Heap.lt_size ho
theorem zkJ {h' : Heap} {ch : List Addr} {t' : Nat} (I : Inv X pins σ H s) (hch : ∀ b∈ch,FpOk X pins H b) (k : ∀ b ob,b∉ch→s.heap.get? b = some ob→h'.get? b = some ob) : Inv X pins σ H { s with heap := h',toks := t' } := by
  have trk : ∀ b u,H b = some u→b∉ch := fun b u e hb => by rw [(hch b hb).1] at e; cases e
  refine I.step (g' := s.gens) (d' := s.drawn) (ch := ch) (fun b hb => ?_) (fun b ob _ _ hc e _ => k b ob hc e) (fun b ob _ _ hc e _ => ⟨ob.slots,k b ob hc e⟩) (fun b ob hc e n => n)
    (fun b ob hc e => ⟨ob,k b ob hc e⟩) (fun b xs e => e) (fun b ob u e => e) (fun b ps e => ⟨#[],by rw [e]; simp⟩) (fun m hm => ?_) (fun b u e => ?_) I.bare
  · obtain ⟨z0,z1,z2,z3,z4,z5⟩ := hch b hb
    exact ⟨z3,z1,z4,z5⟩
  · obtain ⟨ob,es,ep,ho,r⟩ := hm
    exact ⟨ob,es,ep,k _ ob (fun hb => (hch _ hb).2.1 rfl) ho,r⟩
  · refine (I.hok b u e).stay (fun c v hc q => k c v ?_ q) (fun c q => q) fun c xs q => q
    rcases hc with z | z
    · rw [z]; exact trk b u e
    · exact trk c _ z
end
noncomputable def Izp (sq1 sq2 : Hp→List V→Prop) : It :=
  ⟨fun i H => ∃ xs ys x y,sq1 H xs∧sq2 H ys∧xs[i]? = some x∧ys[i]? = some y,fun i H x H' => ∃ p v u,H p = none∧x = .ref p∧H' = upd H p (.tup [v,u])∧(∀ xs,sq1 H xs→xs[i]? = some v)∧∀ ys,sq2 H ys→ys[i]? = some u,
    fun i H => ∃ xs ys,sq1 H xs∧sq2 H ys∧min xs.length ys.length = i⟩
theorem zlQ {P : Program} {w : World} {H : Hp} {h : Heap} {T : Addr} {x y : Value} {v u : V} (hT : h.get? T = some { cls := .type "tuple",data := .seq #[x,y] }) (r1 : L2.RelV v x) (r2 : L2.RelV u y) : zaU P w H h T (.tup [v,u]) :=
  ⟨by show 2≤sizeLine; decide,[x,y],.cons r1 (.cons r2 .nil),⟨_,hT,rfl,0,rfl⟩,_,hT,rfl⟩
theorem zlu {P : Program} {w : World} {K : PySem.W.Frag} {elts : List Expr} {k : Nat} {pos : Pos} {t1 t2 : Bool} (a b zp ti to u1 u2 : Addr) (Z : ZA zp ti to u1 u2 [u1,a] [u2,b]) (h1 : a≠u1) (h2 : b≠u2) :
    Turn P w K (.Tuple elts k pos) (Izp (sqK K t1 a) (sqK K t2 b)) [zp,ti,to,u1,u2] zp (fun i h => IsZip h zp ti to .none∧IsPair h ti (.ref u1) (.ref u2)∧(∃ p q,IsPair h to p q)∧itK t1 a u1 i h∧itK t2 b u2 i h) where
  mem := by simp
  obj := fun i h st c hc => by
    obtain ⟨hz,hi,⟨p,q,ho⟩,s1,s2⟩ := st
    simp only [List.mem_cons,List.not_mem_nil,or_false] at hc
    rcases hc with rfl | rfl | rfl | rfl | rfl
    · exact ⟨_,hz,fun v z => by have z' : Data.fields _ = Data.cell v := z; cases z'⟩
    · exact ⟨_,hi,fun v z => by have z' : Data.seq _ _ = Data.cell v := z; cases z'⟩
    · exact ⟨_,ho,fun v z => by have z' : Data.seq _ _ = Data.cell v := z; cases z'⟩
    · exact zgB s1
    · exact zgB s2
  keep := fun i h h' st kk => by
    obtain ⟨hz,hi,⟨p,q,ho⟩,s1,s2⟩ := st
    exact ⟨kk zp (by simp) _ hz,kk ti (by simp) _ hi,⟨p,q,kk to (by simp) _ ho⟩,zeW s1 fun o e => kk u1 (by simp) o e,zeW s2 fun o e => kk u2 (by simp) o e⟩
  item := by
    intro X hP hw hK hc i pins s σ H E I hf st hg
    subst hP hw hK
    obtain ⟨xs,ys,x,y,q1,q2,hx,hy⟩ := hg
    obtain ⟨hz,hi,⟨p,q,ho⟩,s1,s2⟩ := st
    obtain ⟨its1,St1,rv1,D1,d1,f1⟩ := zmb I hc q1 h1 s1
    obtain ⟨its2,St2,rv2,D2,d2,f2⟩ := zmb I hc q2 h2 s2
    have l1 : i < its1.toArray.size := by
      have := (List.getElem?_eq_some_iff.mp hx).1
      rw [List.size_toArray,← rv1.length]; exact this
    have l2 : i < its2.toArray.size := by
      have := (List.getElem?_eq_some_iff.mp hy).1
      rw [List.size_toArray,← rv2.length]; exact this
    refine zhT Z D1 D2 hz hi ho d1 d2 l1 l2 fun vx vy h' tk px py hz' hto' st1' st2' hT hsz hk => ⟨_,rfl,wpAny_letOwnedTupleGo_zip hz' fun h'' hz'' hs'' => ?_⟩
    obtain ⟨wx,e1,r1⟩ := rv1.get hx
    obtain ⟨wy,e2,r2⟩ := rv2.get hy
    have ex : vx = wx := by
      have : its1[i]? = some vx := by simpa using px
      rw [e1] at this; exact (Option.some.inj this).symm
    have ey : vy = wy := by
      have : its2[i]? = some vy := by simpa using py
      rw [e2] at this; exact (Option.some.inj this).symm
    subst ex ey
    have nT : ∀ c o,s.heap.get? c = some o→s.heap.objs.size≠c := fun c o e => Nat.ne_of_gt (Heap.lt_size e)
    have hT'' : h''.get? s.heap.objs.size = some { cls := .type "tuple",data := .seq #[vx,vy] } := (hs''.2 _ (nT _ _ hz)).trans hT
    obtain ⟨o1,ho1,_⟩ := zgB s1
    obtain ⟨o2,ho2,_⟩ := zgB s2
    refine ⟨.ref s.heap.objs.size,upd H s.heap.objs.size (.tup [x,y]),zgC (s := s) (h' := h'') (t' := tk) (ch := [zp,to,u1,u2]) I (fun c hc => hf c ?_) (fun c ob hb e => ?_) (Nat.le_refl _) (zlQ hT'' r1 r2),rfl,⟨_,x,y,I.hok.fresh (Nat.le_refl _),rfl,rfl,fun zs hz => by rw [zjA I hz q1]; exact hx,fun zs hz => by rw [zjA I hz q2]; exact hy⟩,⟨hz'',?_,⟨vx,vy,?_⟩,?_,?_⟩,fun c hc => ?_⟩
    · simp only [List.mem_cons,List.not_mem_nil,or_false] at hc ⊢
      rcases hc with rfl | rfl | rfl | rfl <;> simp
    · simp only [List.mem_cons,List.not_mem_nil,or_false,not_or] at hb
      exact (hs''.2 c hb.1).trans (hk c ob hb.1 hb.2.1 hb.2.2.1 hb.2.2.2 e)
    · exact (hs''.2 _ Z.a1).trans (hk _ _ Z.a1 Z.a8.1 Z.a8.2.1 Z.a8.2.2 hi)
    · exact (hs''.2 _ Z.a2).trans hto'
    · exact zeW (f1 _ _ st1') fun o e => (hs''.2 _ Z.a3).trans e
    · exact zeW (f2 _ _ st2') fun o e => (hs''.2 _ Z.a4).trans e
    · rw [zay ?_]
      · exact (hf c hc).1
      · simp only [List.mem_cons,List.not_mem_nil,or_false] at hc
        rcases hc with rfl | rfl | rfl | rfl | rfl
        · exact (nT _ _ hz).symm
        · exact (nT _ _ hi).symm
        · exact (nT _ _ ho).symm
        · exact (nT _ _ ho1).symm
        · exact (nT _ _ ho2).symm
  done := by
    intro X hP hw hK hc i pins s σ H E I hf st hg
    subst hP hw hK
    obtain ⟨xs,ys,q1,q2,hm⟩ := hg
    obtain ⟨hz,hi,⟨p,q,ho⟩,s1,s2⟩ := st
    obtain ⟨its1,St1,rv1,D1,d1,f1⟩ := zmb I hc q1 h1 s1
    obtain ⟨its2,St2,rv2,D2,d2,f2⟩ := zmb I hc q2 h2 s2
    have l1 := rv1.length
    have l2 := rv2.length
    refine zfU Z D1 D2 hz hi ho d1 d2 ?_ fun h' tk hk => ⟨rfl,zkJ (h' := h') (t' := tk) (ch := [zp,to,u1,u2]) I (fun c hc => hf c ?_) fun c ob hb e => ?_⟩
    · rw [List.size_toArray,List.size_toArray]
      omega
    · simp only [List.mem_cons,List.not_mem_nil,or_false] at hc ⊢
      rcases hc with rfl | rfl | rfl | rfl <;> simp
    · simp only [List.mem_cons,List.not_mem_nil,or_false,not_or] at hb
      exact hk c ob hb.1 hb.2.1 hb.2.2.1 hb.2.2.2 e
  self := fun _ _ _ _ _ st h => wpAny_pyIter_zip st.1 h
noncomputable def fZip (fa fb : FE) : FI := fun r => (fa r).bind fun d => (fb r).bind fun e => (opt (zbA d)).bind fun ds => (opt (zbA e)).bind fun es => .ok (List.zipWith (fun a b => D.tup [a,b]) ds es)
theorem zlq {α β γ : Type} (f : α→β→γ) : ∀ (l : List α) (r : List β) (i : Nat),(List.zipWith f l r)[i]? = (match l[i]?,r[i]? with | some a,some b => some (f a b) | _,_ => none) := fun l r i => by
  rw [List.getElem?_zipWith]
  cases l[i]? <;> cases r[i]? <;> rfl
theorem zow {K : PySem.W.Frag} {ds es : List D} {G0 : GH} {sq1 sq2 : Hp→List V→Prop} (h1 : ∀ G H,Gle G0 G→GOk K G H→∃ xs,sq1 H xs∧RGs K G xs ds) (h2 : ∀ G H,Gle G0 G→GOk K G H→∃ xs,sq2 H xs∧RGs K G xs es) : Yields K (Izp sq1 sq2) (List.zipWith (fun a b => D.tup [a,b]) ds es) G0 := by
  refine ⟨fun G H i w gk hi => ?_,fun G H i x H' d w gk y e => ?_,fun G H w gk => ?_⟩
  · obtain ⟨xs,s1,r1⟩ := h1 G H w gk
    obtain ⟨ys,s2,r2⟩ := h2 G H w gk
    rw [List.length_zipWith] at hi
    have l1 := Paired.length r1
    have l2 := Paired.length r2
    exact ⟨xs,ys,xs[i]'(by omega),ys[i]'(by omega),s1,s2,List.getElem?_eq_getElem _,List.getElem?_eq_getElem _⟩
  · obtain ⟨xs,s1,r1⟩ := h1 G H w gk
    obtain ⟨ys,s2,r2⟩ := h2 G H w gk
    obtain ⟨p,v,u,hp,rfl,rfl,hv,hu⟩ := y
    rw [zlq] at e
    cases e1 : ds[i]? with
    | none => rw [e1] at e; cases e
    | some d1 =>
      cases e2 : es[i]? with
      | none => rw [e1,e2] at e; cases e
      | some d2 =>
        rw [e1,e2] at e
        cases e
        obtain ⟨v',z1,rv⟩ := Paired.get r1 e1
        obtain ⟨u',z2,ru⟩ := Paired.get r2 e2
        have a1 := hv xs s1
        have a2 := hu ys s2
        rw [z1] at a1; cases a1
        rw [z2] at a2; cases a2
        exact ⟨_,Grow.newF gk hp (.tup (.inl zam) (.cons rv (.cons ru .nil))),.ref zat⟩
  · obtain ⟨xs,s1,r1⟩ := h1 G H w gk
    obtain ⟨ys,s2,r2⟩ := h2 G H w gk
    refine ⟨xs,ys,s1,s2,?_⟩
    rw [List.length_zipWith,Paired.length r1,Paired.length r2]
section
variable {X : Cx} {g : GE} {m : List Md} {e1 e2 : Expr} {fa fb : FE} {pos p pos2 : Pos} {elts : List Expr} {kk : Nat}
theorem zom {pins : List (Addr × Obj)} {σ : L2.St} {H : Hp} {s : Shared} {t1 t2 : Bool} {a b : Addr} {xs ys : List V} {E : Value→Shared→Prop} {Q : Value→Shared→Prop} (I : Inv X pins σ H s) (q1 : sqK X.K t1 a H xs) (q2 : sqK X.K t2 b H ys) (h : Made s (nmK t1) (nmK t2) a b Q) : wpAny (model X.prog X.w) X.A (call (.type "zip") [.ref a,.ref b]) Q E s := by
  cases t1 with
  | false =>
    obtain ⟨its1,_,p1,_⟩ := I.list q1
    cases t2 with
    | false => obtain ⟨its2,_,p2,_⟩ := I.list q2; exact zmi p1.isList p2.isList h
    | true => obtain ⟨its2,_,p2,_⟩ := I.tuple q2; exact zmh p1.isList (show s.heap.IsTuple b its2.toArray from p2) h
  | true =>
    obtain ⟨its1,_,p1,_⟩ := I.tuple q1
    cases t2 with
    | false => obtain ⟨its2,_,p2,_⟩ := I.list q2; exact zmg (show s.heap.IsTuple a its1.toArray from p1) p2.isList h
    | true => obtain ⟨its2,_,p2,_⟩ := I.tuple q2; exact zmf (show s.heap.IsTuple a its1.toArray from p1) (show s.heap.IsTuple b its2.toArray from p2) h
theorem zdw {x y : Nat} (h : x≠y) : (show Addr from x)≠(show Addr from y) := h
theorem zef {x u a : Nat} (h1 : x≠u) (h2 : x≠a) : (show Addr from x)∉[(show Addr from u),(show Addr from a)] := fun h => by
  rcases List.mem_cons.mp h with h | h
  · exact h1 h
  · exact h2 (List.mem_singleton.mp h)
theorem zov {a b k : Nat} (la : a < k) (lb : b < k) : ZA (show Addr from k + 4) (show Addr from k + 2) (show Addr from k + 3) (show Addr from k) (show Addr from k + 1) [(show Addr from k),(show Addr from a)] [(show Addr from k + 1),(show Addr from b)] :=
  ⟨zdw (by omega),zdw (by omega),zdw (by omega),zdw (by omega),zdw (by omega),zdw (by omega),zdw (by omega),⟨zdw (by omega),zdw (by omega),zdw (by omega)⟩,
    ⟨zef (by omega) (by omega),zef (by omega) (by omega),zef (by omega) (by omega)⟩,⟨zef (by omega) (by omega),zef (by omega) (by omega),zef (by omega) (by omega)⟩⟩
theorem zp7 {c k : Nat} (h : c = k + 4∨c = k + 2∨c = k + 3∨c = k∨c = k + 1) : k≤c := by omega
theorem zpl {ta tb : TE} (hg : Gl X "zip") (hm : X.mg "zip" = none) (ha : PE X e1 ta) (hb : PE X e2 tb) (hs : starEach [e1,e2] X.env = (false,eval e1 X.env)::starEach [e2] X.env := by rfl) (hs2 : starEach [e2] X.env = (false,eval e2 X.env)::starEach [] X.env := by rfl) (hpl : (backTo pos (starEach [e2] X.env)).any (·.1) = false := by rfl) :
    PI X (.Tuple elts kk pos2) (.Call (.Name "zip" p) [e1,e2] [] pos) (fun σ H R => ta σ H fun x H1 => tb σ H1 fun y H2 => ∃ (t1 t2 : Bool) (a b : Addr),x = .ref a∧y = .ref b∧(∃ xs,sqK X.K t1 a H2 xs)∧(∃ ys,sqK X.K t2 b H2 ys)∧R (Izp (sqK X.K t1 a) (sqK X.K t2 b)) H2) := by
  intro pins s σ H R I h
  refine Call_ (zf9 I hg hm boot_zip (PyProof.Rows.callWith_type1 (thn (zbo ha (zbo hb zdX hs2) hs pos pins s σ H (fun vs H2 => match vs with
    | [x,y] => ∃ (t1 t2 : Bool) (a b : Addr),x = .ref a∧y = .ref b∧(∃ xs,sqK X.K t1 a H2 xs)∧(∃ ys,sqK X.K t2 b H2 ys)∧R (Izp (sqK X.K t1 a) (sqK X.K t2 b)) H2
    | _ => False) I h) fun us s1 ⟨vs,H1,I1,r1,q1⟩ => ?_) hs hpl))
  cases r1 with
  | nil => exact q1.elim
  | @cons x u xs us rx rt =>
  cases rt with
  | nil => exact q1.elim
  | @cons y u' xs' us' ry rt' =>
  cases rt' with
  | cons _ _ => exact q1.elim
  | nil =>
  obtain ⟨t1,t2,a,b,rfl,rfl,⟨zs,z1⟩,⟨ws,z2⟩,q⟩ := q1
  cases rx
  cases ry
  have la := zgW I1 z1
  have lb := zgW I1 z2
  refine zom I1 z1 z2 fun h' hz hi ho o1 o2 kp => wpAny_pyIter_zip hz ?_
  refine ⟨_,[s1.heap.objs.size + 4,s1.heap.objs.size + 2,s1.heap.objs.size + 3,s1.heap.objs.size,s1.heap.objs.size + 1],_,_,H1,rfl,I1.kept (t' := s1.toks) kp,zlu (t1 := t1) (t2 := t2) a b _ _ _ _ _ (zov la lb) (Nat.ne_of_lt la) (Nat.ne_of_lt (Nat.lt_succ_of_lt lb)),⟨hz,hi,⟨_,_,ho⟩,zkI o1,zkI o2⟩,fun c hc => ?_,q⟩
  have hge : s1.heap.objs.size≤c := by
    simp only [List.mem_cons,List.not_mem_nil,or_false] at hc
    exact zp7 hc
  exact I1.fpOk hge (I1.hok.fresh hge)
theorem zrp (hg : Gl X "zip") (hm : X.mg "zip" = none) (ha : SE X g m e1 fa) (hb : SE X g m e2 fb) (hs : starEach [e1,e2] X.env = (false,eval e1 X.env)::starEach [e2] X.env := by rfl) (hs2 : starEach [e2] X.env = (false,eval e2 X.env)::starEach [] X.env := by rfl) (hpl : (backTo pos (starEach [e2] X.env)).any (·.1) = false := by rfl) : SIt X g m (.Tuple elts kk pos2) (.Call (.Name "zip" p) [e1,e2] [] pos) (fZip fa fb) := by
  refine PI.imp (zpl hg hm ha hb hs hs2 hpl) fun σ H R ⟨r,G,si,q⟩ => ⟨r,G,si,zah (zaf q) fun d q v G1 H1 w1 rv => ⟨r,G1,si.grow w1,?_⟩⟩
  refine zaB (zaf q) w1 fun e q u G2 H2 w2 ru => ?_
  obtain ⟨ds,ed,q⟩ := zax (zaf q)
  obtain ⟨es,ee,q⟩ := zax (zaf q)
  have rv2 := rv.mono w2.ge
  have one : ∀ {v : V} {d : D} {ds : List D},RG X.K G2 v d→zbA d = some ds→∃ (t : Bool) (a : Addr),v = .ref a∧(∃ xs,sqK X.K t a H2 xs)∧∀ G H,Gle G2 G→GOk X.K G H→∃ xs,sqK X.K t a H xs∧RGs X.K G xs ds := by
    intro v d ds rv ed
    cases d with
    | lst ds' =>
      cases ed
      obtain ⟨a,xs,rfl,s,rs⟩ := rv.lst w2.ok
      refine ⟨false,a,rfl,⟨xs,s⟩,fun G H le gk => ?_⟩
      obtain ⟨b,ys,e,s',r'⟩ := (rv.mono le).lst gk
      cases e
      exact ⟨ys,s',r'⟩
    | tup ds' =>
      cases ed
      obtain ⟨a,xs,rfl,s,rs⟩ := rv.tup w2.ok
      refine ⟨true,a,rfl,⟨xs,s⟩,fun G H le gk => ?_⟩
      obtain ⟨b,ys,e,s',r'⟩ := (rv.mono le).tup gk
      cases e
      exact ⟨ys,s',r'⟩
    | _ => cases ed
  obtain ⟨t1,a,rfl,x1,y1⟩ := one rv2 ed
  obtain ⟨t2,b,rfl,x2,y2⟩ := one ru ee
  exact ⟨t1,t2,a,b,rfl,rfl,x1,x2,q _ G2 H2 (w1.trans w2) (zow y1 y2)⟩
end
end DL
end
section
namespace DL
open PySem PyProof.Rows L2
variable {X : Cx} {g : GE} {m mb : List Md} {e a b o c : Expr} {f fa fb fc : FE} {pos pos' : Pos}
theorem zgT : ∀ ds : List D,zbD ds = ds.map toPy
  | [] => by unfold zbD; rfl
  | d::ds => by unfold zbD; rw [zgT ds]; rfl
end DL
end
section
namespace DL
open PySem PySem.Spec PyProof.Rows L2
noncomputable def zfr (g : GE) (H : Hp) (fp : List Addr) (i : Nat) (p : Addr) : GE :=
  ⟨g.gh,fun b => if b∈fp then H b else g.h0 b,fun j => if j = i then some (some (V.ref p),none) else g.hd j⟩
noncomputable def RowR (K : PySem.W.Frag) (G : GH) (H : Hp) (b : Addr) (ds : List D) : Prop := ∃ xs,H b = some (.lst xs)∧RGs K G xs ds
structure LRw (K : PySem.W.Frag) (G : GH) (H : Hp) (p : Addr) (as : List Addr) (w : List (List D)) : Prop where
  out : H p = some (.lst (as.map V.ref))
  nd : (p::as).Nodup
  un : ∀ b∈p::as,G b = none
  rw : Paired (RowR K G H) as w
theorem RowR.mono {K : PySem.W.Frag} {G G' : GH} {H H' : Hp} {b : Addr} {ds : List D} (h : RowR K G H b ds) (ge : Gle G G') (he : H' b = H b) : RowR K G' H' b ds := by
  obtain ⟨xs,h1,h2⟩ := h
  exact ⟨xs,by rw [he]; exact h1,h2.mono ge⟩
theorem zin {α β : Type} {F F' : α→β→Prop} {l : List α} {r : List β} (h : Paired F l r) (f : ∀ a∈l,∀ b,F a b→F' a b) : Paired F' l r := by
  induction h with
  | nil => exact .nil
  | cons h _ ih => exact .cons (f _ List.mem_cons_self _ h) (ih fun a ha => f a (List.mem_cons_of_mem _ ha))
theorem LRw.isS {K : PySem.W.Frag} {G : GH} {H : Hp} {p : Addr} {as : List Addr} {w : List (List D)} (h : LRw K G H p as w) {b : Addr} (hb : b∈p::as) : H b≠none := by
  rcases List.mem_cons.mp hb with rfl | hb
  · rw [h.out]; simp
  · have : ∀ {as : List Addr} {w : List (List D)},Paired (RowR K G H) as w→b∈as→H b≠none := fun {as w} q hb => by
      induction q with
      | nil => cases hb
      | cons r _ ih =>
        rcases List.mem_cons.mp hb with rfl | hb
        · obtain ⟨xs,e,_⟩ := r; rw [e]; simp
        · exact ih hb
    exact this h.rw hb
theorem LRw.mono {K : PySem.W.Frag} {G G' : GH} {H H' : Hp} {p : Addr} {as : List Addr} {w : List (List D)} (h : LRw K G H p as w) (ge : Gle G G') (he : ∀ b∈p::as,H' b = H b) (un : ∀ b∈p::as,G' b = none) : LRw K G' H' p as w :=
  ⟨by rw [he p List.mem_cons_self]; exact h.out,h.nd,un,zin h.rw fun b hb ds r => r.mono ge (he b (List.mem_cons_of_mem _ hb))⟩
noncomputable def SI2 (X : Cx) (g : GE) (i : Nat) (m : List Md) (r : Rho) (w : List (List D)) (G : GH) (st : L2.St) (H : Hp) : Prop :=
  ∃ p as,LRw X.K G H p as w∧(∀ b∈p::as,g.h0 b = none)∧SI X (zfr g H (p::as) i p) m r G st H∧m[i]? = some .bw
section
variable {X : Cx} {g : GE} {i : Nat} {m m' m1 : List Md} {r r' : Rho} {w : List (List D)} {G G' : GH} {σ σ' : L2.St} {H H' : Hp}
noncomputable abbrev FS2 := Rho→List (List D)→Option (Rho × List (List D))
variable {st : Stmt} {sts : List Stmt} {ro : Bool} {mb : List Md} {s1 : FS} {f1 f2 : FS2} {tg iter : Expr} {pos : Pos}
theorem zod {K : PySem.W.Frag} {H : Hp} : ∀ {as : List Addr} {w : List (List D)} {G : GH},GOk K G H→Paired (RowR K G H) as w→as.Nodup→(∀ b∈as,G b = none)→∃ G',Gle G G'∧(∀ b,b∉as→G' b = G b)∧GOk K G' H∧Paired (fun b ds => G' b = some (.lst ds)) as w := by
  intro as
  induction as with
  | nil =>
    intro w G gk h _ _
    cases h
    exact ⟨G,Gle.refl G,fun _ _ => rfl,gk,.nil⟩
  | cons b as ih =>
    intro w G gk h nd un
    cases h with
    | @cons _ ds _ w r t =>
      rw [List.nodup_cons] at nd
      have hb := un b List.mem_cons_self
      obtain ⟨xs,e,rs⟩ := r
      have g1 : GOk K (gset G b (.lst ds)) H := gk.gset hb (.lst (.inl e) rs)
      obtain ⟨G',l,o,g,q⟩ := ih g1 (zin t fun c hc ds r => r.mono (zaR hb) rfl) nd.2 fun c hc => by
        rw [za4 (by rintro rfl; exact nd.1 hc)]; exact un c (List.mem_cons_of_mem _ hc)
      refine ⟨G',Gle.trans (zaR hb) l,fun c hc => ?_,g,.cons (l _ _ zat) q⟩
      rw [o c fun z => hc (List.mem_cons_of_mem _ z),za4 (by rintro rfl; exact hc List.mem_cons_self)]
theorem zj6 {G : GH} {as : List Addr} {w : List (List D)} {b : Addr} (hb : b∈as) (q : Paired (fun b ds => G b = some (.lst ds)) as w) : ∃ ds,G b = some (.lst ds) := by
  induction q with
  | nil => cases hb
  | cons h _ ih =>
    rcases List.mem_cons.mp hb with rfl | hb
    · exact ⟨_,h⟩
    · exact ih hb
theorem ziA {fp : List Addr} {p : Addr} {d0 : D} (si : SI X (zfr g H fp i p) m r G σ H) (hm : m[i]? = some .bw) (h0 : ∀ b∈fp,g.h0 b = none) (hS : ∀ b∈fp,H b≠none) (hb : ∀ j,j≠i→m[j]?≠some .bw) (le : Gle G G') (g2 : GOk X.K G' H) (out : ∀ b,b∉fp→G' b = G b) (hd : G' p = some d0) :
    SI X g (m.set i .sh) (r.set i (some d0)) G' σ H := by
  have hlt : i < m.length := (List.getElem?_eq_some_iff.mp hm).1
  have hst : σ[i]? = some (some (V.ref p)) := (si.lk i (some (V.ref p),none) (by show (if i = i then _ else _) = _; rw [if_pos rfl]) hm).1
  have h0' : ∀ b,b∉fp→(zfr g H (fp) i p).h0 b = g.h0 b := fun b hb => by show (if b∈fp then H b else g.h0 b) = _; rw [if_neg hb]
  have h0i : ∀ b,b∈fp→(zfr g H (fp) i p).h0 b≠none := fun b hb => by show (if b∈fp then H b else g.h0 b)≠_; rw [if_pos hb]; exact hS b hb
  have nin : ∀ b,g.h0 b≠none→b∉fp := fun b h z => h (h0 b z)
  have mne : ∀ {j x},i≠j→(m.set i .sh)[j]? = some x→m[j]? = some x := fun hij h => by rw [List.getElem?_set_ne hij] at h; exact h
  refine ⟨g2,fun a o e => ?_,fun a d e => le a d (si.ge a d e),fun a h => ?_,by simpa using si.lm,by simpa using si.lr,fun j d h1 h2 => ?_,fun j d h1 h2 => ?_,fun j d h1 h2 => ?_,fun j k a d e hjk h1 h2 m1 m2 z1 z2 => ?_,fun j o hj hm' => ?_⟩
  · exact si.old a o (by rw [h0' a (nin a (by rw [e]; simp))]; exact e)
  · have hn := nin a h
    rw [out a hn]
    exact si.gf a (by rw [h0' a hn]; exact h)
  · by_cases hij : i = j
    · subst hij
      rw [List.getElem?_set_self (by rw [si.lr,← si.lm]; exact hlt)] at h1
      cases h1
      exact ⟨_,hst,.ref hd⟩
    · rw [List.getElem?_set_ne hij] at h1
      obtain ⟨v,y1,y2⟩ := si.sh j d h1 (mne hij h2)
      exact ⟨v,y1,y2.mono le⟩
  · by_cases hij : i = j
    · subst hij; rw [List.getElem?_set_self hlt] at h2; cases h2
    · rw [List.getElem?_set_ne hij] at h1
      obtain ⟨a,y1,y2,y3⟩ := si.ow j d h1 (mne hij h2)
      have hn : a∉fp := fun z => h0i a z y3
      exact ⟨a,y1,⟨by rw [out a hn]; exact y2.un,y2.ob.mono le fun _ z => z⟩,by rw [← h0' a hn]; exact y3⟩
  · by_cases hij : i = j
    · subst hij; rw [List.getElem?_set_self hlt] at h2; cases h2
    · exact absurd (mne hij h2) (hb j (Ne.symm hij))
  · have hij : i≠j := by rintro rfl; rw [List.getElem?_set_self hlt] at m1; cases m1
    have hik : i≠k := by rintro rfl; rw [List.getElem?_set_self hlt] at m2; cases m2
    rw [List.getElem?_set_ne hij] at h1
    rw [List.getElem?_set_ne hik] at h2
    exact si.dis j k a d e hjk h1 h2 (mne hij m1) (mne hik m2) z1 z2
  · by_cases hij : i = j
    · subst hij; rw [List.getElem?_set_self hlt] at hm'; cases hm'
    · exact absurd (mne hij hm') (hb j (Ne.symm hij))
theorem SI2.frz (s : SI2 X g i m r w G σ H) (hb : ∀ j,j≠i→m[j]?≠some .bw) : ∃ G',Gle G G'∧(∀ b d,G b = none→G' b = some d→∃ ds,d = .lst ds)∧SI X g (m.set i .sh) (r.set i (some (.lst (w.map D.lst)))) G' σ H := by
  obtain ⟨p,as,R,h0,si,hm⟩ := s
  have nd := List.nodup_cons.mp R.nd
  obtain ⟨G1,l1,o1,g1,q1⟩ := zod si.gok R.rw nd.2 fun b hb => R.un b (List.mem_cons_of_mem _ hb)
  have hp1 : G1 p = none := by rw [o1 p nd.1]; exact R.un p List.mem_cons_self
  have rs : RGs X.K G1 (as.map V.ref) (w.map D.lst) := by
    have : ∀ {as : List Addr} {w : List (List D)},Paired (fun b ds => G1 b = some (.lst ds)) as w→RGs X.K G1 (as.map V.ref) (w.map D.lst) := fun {as w} q => by
      induction q with
      | nil => exact .nil
      | cons h _ ih => exact .cons (.ref h) ih
    exact this q1
  have g2 : GOk X.K (gset G1 p (.lst (w.map D.lst))) H := g1.gset hp1 (.lst (.inl R.out) rs)
  have le : Gle G (gset G1 p (.lst (w.map D.lst))) := Gle.trans l1 (zaR hp1)
  have out : ∀ b,b∉p::as→gset G1 p (.lst (w.map D.lst)) b = G b := fun b hb => by
    rw [za4 (by rintro rfl; exact hb List.mem_cons_self),o1 b fun z => hb (List.mem_cons_of_mem _ z)]
  refine ⟨_,le,fun b d hn e => ?_,ziA si hm h0 (fun b hb => R.isS hb) hb le g2 out zat⟩
  by_cases hbp : b = p
  · subst hbp; rw [zat] at e; cases e; exact ⟨_,rfl⟩
  · rw [za4 hbp] at e
    by_cases hba : b∈as
    · obtain ⟨ds,e1⟩ := zj6 hba q1
      rw [e1] at e; cases e; exact ⟨_,rfl⟩
    · rw [o1 b hba,hn] at e; cases e
end
end DL
end
section
namespace DL
open PySem PySem.Spec PyProof.Rows L2
noncomputable def RO (K : PySem.W.Frag) (H2 : Hp) (p : Addr) (G : GH) (H : Hp) (ws : List V) (ds : List D) : Prop := Paired (fun v d => ∃ b,v = V.ref b∧H2 b = none∧b≠p∧Own K G H b d) ws ds∧ws.Nodup
section
variable {K : PySem.W.Frag} {H2 : Hp} {p : Addr} {G G' : GH} {H H' : Hp} {ws : List V} {ds : List D}
theorem RO.upd {o : HO} (h : RO K H2 p G H ws ds) : RO K H2 p G (L2.upd H p o) ws ds :=
  ⟨Paired.mono (fun v d ⟨b,e,h1,h2,h3⟩ => ⟨b,e,h1,h2,h3.un,h3.ob.mono (fun _ _ z => z) fun _ z => by rw [zay h2]; exact z⟩) h.1,h.2⟩
end
section
variable {X : Cx} {pins : List (Addr × Obj)} {σ : L2.St} {H2 : Hp} {s2 : Shared} {scope : Scope} {N' : List Str} {nl : Nat} {cap : List Nat} {cl : List (Str × Addr)} {fp : List Addr} {g : GE} {G2 : GH} {m : List Md} {r : Rho} {elt tg iter : Expr} {ifs : List Expr} {pos : Pos}
end
end DL
end
section
namespace DL
open PySem PySem.Spec PyProof.Rows L2
section
variable {X : Cx} {g : GE} {m mb : List Md} {scope : Scope} {N' : List Str} {nl : Nat} {cap : List Nat} {elt tg iter : Expr} {ifs : List Expr} {pos pos' spos : Pos} {fi : FI} {ft : FT} {q : FQ} {fe : FE} {ro : Bool}
end
end DL
end
section
namespace DL
open PySem PySem.Spec PyProof.Rows L2
section
variable {X : Cx} {g : GE} {i : Nat} {m m' m1 : List Md} {r r' : Rho} {w : List (List D)} {G G' : GH} {σ σ' : L2.St} {H H' : Hp}
theorem SI.row {p : Addr} {as : List Addr} (R : LRw X.K G H p as w) (si : SI X (zfr g H (p::as) i p) m r G σ H) (hm : m[i]? = some .bw) (hb : ∀ j,j≠i→m[j]?≠some .bw) {b : Addr} (hbm : b∈p::as) (o : HO) : SI X (zfr g (upd H b o) (p::as) i p) m r G σ (upd H b o) := by
  have un := R.un b hbm
  have h0' : ∀ c,c∉p::as→(zfr g H (p::as) i p).h0 c = g.h0 c := fun c hc => by show (if c∈p::as then H c else g.h0 c) = _; rw [if_neg hc]
  have h0i : ∀ c,c∈p::as→(zfr g H (p::as) i p).h0 c = H c := fun c hc => by show (if c∈p::as then H c else g.h0 c) = _; rw [if_pos hc]
  have k0' : ∀ c,c∉p::as→(zfr g (upd H b o) (p::as) i p).h0 c = g.h0 c := fun c hc => by show (if c∈p::as then _ else g.h0 c) = _; rw [if_neg hc]
  have k0i : ∀ c,c∈p::as→(zfr g (upd H b o) (p::as) i p).h0 c = upd H b o c := fun c hc => by show (if c∈p::as then upd H b o c else g.h0 c) = _; rw [if_pos hc]
  refine ⟨fun c d e => ?_,fun c u e => ?_,si.ge,fun c h => ?_,si.lm,si.lr,si.sh,fun j d h1 h2 => ?_,fun j d h1 h2 => ?_,si.dis,si.lk⟩
  · have hc : c≠b := by rintro rfl; rw [un] at e; cases e
    exact (si.gok c d e).mono (fun _ _ z => z) fun u z => by rw [zay hc]; exact z
  · by_cases hc : c∈p::as
    · rw [k0i c hc] at e; exact e
    · rw [k0' c hc] at e
      have hcb : c≠b := by rintro rfl; exact hc hbm
      rw [zay hcb]
      exact si.old c u (by rw [h0' c hc]; exact e)
  · by_cases hc : c∈p::as
    · exact si.gf c (by rw [h0i c hc]; exact R.isS hc)
    · rw [k0' c hc] at h
      exact si.gf c (by rw [h0' c hc]; exact h)
  · obtain ⟨a,q1,q2,q3⟩ := si.ow j d h1 h2
    have ha : a∉p::as := fun z => by rw [h0i a z] at q3; exact R.isS z q3
    have hab : a≠b := by rintro rfl; exact ha hbm
    rw [h0' a ha] at q3
    exact ⟨a,q1,⟨q2.un,q2.ob.mono (fun _ _ z => z) fun u z => by rw [zay hab]; exact z⟩,by rw [k0' a ha]; exact q3⟩
  · by_cases hj : j = i
    · subst hj
      have := (si.lk j (some (V.ref p),none) (by show (if j = j then _ else _) = _; rw [if_pos rfl]) hm).2 d h1
      cases this
    · exact absurd h2 (hb j hj)
variable {ro : Bool} {mb : List Md} {pos p1 p2 p3 p4 p5 p6 p7 p8 p9 p10 p11 : Pos} {x xa xb : Str} {jc : Nat}
end
end DL
end
section
namespace DL
open PySem PySem.Spec PyProof.Rows L2
noncomputable def lessA (H : Hp) (a : Addr) : Hp := fun b => if b = a then none else H b
theorem zf8 {H : Hp} {a : Addr} : lessA H a a = none := if_pos rfl
theorem zix {H : Hp} {a b : Addr} (h : b≠a) : lessA H a b = H b := if_neg h
theorem Grow.lessA {K : PySem.W.Frag} {G G' G2 : GH} {H H' H2 : Hp} {a : Addr} (w : Grow K G H G' H') (ha : H a = none) (w2 : Grow K G' (lessA H' a) G2 H2) : Grow K G H G2 H2 := by
  have ne : ∀ b,H b≠none→b≠a := fun b h => by rintro rfl; exact h ha
  have he : ∀ b o,H b = some o→DL.lessA H' a b = some o := fun b o e => by rw [zix (ne b (by rw [e]; simp))]; exact w.he b o e
  refine ⟨w2.ok,fun b o e => w2.he b o (he b o e),fun b d e => w2.ge b d (w.ge b d e),fun b h => ?_⟩
  rw [w2.gf b ?_,w.gf b h]
  cases e : H b with
  | none => exact absurd e h
  | some o => rw [he b o e]; simp
noncomputable def spV (K : PySem.W.Frag) (ro : Bool) (ms : List Md) (F : List D→Res D) : Sp := fun vs H Q _ => ∃ G us a ds d,GOk K G H∧vs = us++[V.ref a]∧ArgsOk K G H ms us ds∧Own K G H a d ∧
  fin (F (ds++[d])) (fun d' => ∀ v G' H',Grow K G (lessA H a) G' H'→RV ro K (lessA H a) G' H' v d'→Q v H') fun _ => False
section
variable {K : PySem.W.Frag} {G : GH} {H : Hp}
theorem ArgsOk.snoc {ms : List Md} {us : List V} {ds : List D} {v : V} {d : D} (h : ArgsOk K G H ms us ds) (r : RB K G H v d) : ArgsOk K G H (ms++[.bw]) (us++[v]) (ds++[d]) := by
  induction h with
  | nil => exact .bw r .nil
  | sh h _ ih => exact .sh h ih
  | bw h _ ih => exact .bw h ih
end
theorem SI.moved {X : Cx} {m : List Md} {r : Rho} {G : GH} {st : L2.St} {H : Hp} (s : SI X ⟨G,H,fun _ => none⟩ m r G st H) {i : Nat} {a : Addr} {d : D} (hm : m[i]? = some .bw) (hsh : ∀ j,j≠i→∀ x,m[j]? = some x→x = .sh) (hr : r[i]? = some (some d)) (hs : st[i]? = some (some (V.ref a))) (ho : Own X.K G H a d) :
    SI X ⟨G,lessA H a,fun _ => none⟩ (m.set i .ow) r G st H := by
  have hlt : i < m.length := (List.getElem?_eq_some_iff.mp hm).1
  have mne : ∀ {j x},i≠j→(m.set i .ow)[j]? = some x→x = .sh := fun hij h => by rw [List.getElem?_set_ne hij] at h; exact hsh _ (Ne.symm hij) _ h
  refine ⟨s.gok,fun b o e => ?_,fun _ _ e => e,fun _ _ => rfl,by simpa using s.lm,s.lr,fun j e h1 h2 => ?_,fun j e h1 h2 => ?_,fun j e h1 h2 => ?_,fun j k b e1 e2 hjk h1 h2 m1 m2 z1 z2 => ?_,fun j o hj => nomatch hj⟩
  · have e' : lessA H a b = some o := e
    by_cases hb : b = a
    · subst hb; rw [zf8] at e'; cases e'
    · rw [zix hb] at e'; exact e'
  · by_cases hij : i = j
    · subst hij; rw [List.getElem?_set_self hlt] at h2; cases h2
    · rw [List.getElem?_set_ne hij] at h2; exact s.sh j e h1 h2
  · by_cases hij : i = j
    · subst hij
      rw [hr] at h1; cases h1
      exact ⟨a,hs,ho,zf8⟩
    · cases mne hij h2
  · by_cases hij : i = j
    · subst hij; rw [List.getElem?_set_self hlt] at h2; cases h2
    · cases mne hij h2
  · by_cases hij : i = j
    · subst hij
      cases mne hjk m2
    · cases mne hij m1
section
variable {P : Program} {w : World} {K : PySem.W.Frag} {mg : Str → Option Value} {base : Heap}
theorem zjz {X : Cx} {N : List Str} {ms : List Md} {us : List V} {ds : List D} {a : Addr} {d : D} {G : GH} {H : Hp} (gk : GOk X.K G H) (rs : ArgsOk X.K G H ms us ds) (hsh : ∀ x∈ms,x = Md.sh) (ho : Own X.K G H a d) (hn : ms.length + 1≤N.length) :
    SI X ⟨G,lessA H a,fun _ => none⟩ (zbG N.length (ms++[.ow])) (zap N.length (ds++[d])) G (L2.start N (us++[V.ref a])) H := by
  obtain ⟨l1,l2⟩ := rs.len
  have s := zgm (X := X) (N := N) gk (rs.snoc (v := V.ref a) (.inr ⟨a,rfl,ho⟩)) (by simpa using hn)
  have em : (zbG N.length (ms++[.bw])).set ms.length .ow = zbG N.length (ms++[.ow]) := by
    unfold zbG
    rw [List.set_append_left _ _ (by simp),List.set_append_right _ _ (Nat.le_refl _)]
    simp
  rw [← em]
  refine s.moved (d := d) ?_ (fun j hj x hx => ?_) ?_ ?_ ho
  · unfold zbG
    rw [List.getElem?_append_left (by simp),List.getElem?_append_right (Nat.le_refl _)]; simp
  · unfold zbG at hx
    by_cases hj1 : j < ms.length
    · rw [List.getElem?_append_left (by simp; omega),List.getElem?_append_left hj1] at hx
      exact hsh x (List.mem_of_getElem? hx)
    · rw [List.getElem?_append_right (by simp; omega),List.getElem?_replicate] at hx
      split at hx
      · cases hx; rfl
      · cases hx
  · unfold zap
    rw [List.getElem?_append_left (by simp; omega),List.getElem?_map,List.getElem?_append_right (by omega)]
    rw [show ms.length - ds.length = 0 by omega]; rfl
  · unfold L2.start
    rw [List.getElem?_append_left (by simp; omega),List.getElem?_map,List.getElem?_append_right (by omega)]
    rw [show ms.length - us.length = 0 by omega]; rfl
theorem zoe {x qual : Str} {st : Stmt} {f : Addr} {fd : FuncData} {N ps : List Str} {k : Nat} {ro : Bool} {ms : List Md} {fs : FS} {m' : List Md} (F : Fun K x qual st f fd) (S : FnScope N ps (zab st)) (hms : ms.length + 1 = ps.length) (hsh : ∀ x∈ms,x = Md.sh)
    (hbody : ∀ (cdv : Value) (A : Around) (outer : List Env) (s : Shared) (H : Hp) (g : GE) (E : XK),Room k (A.deeper (envOfC qual (zab st) s.heap.objs.size f cdv)) →
      SSs (cxOf CX0 P w K mg base N qual (zab st) f cdv A outer s H E).nox g ro [] (zbG N.length (ms++[.ow])) (zaT st) fs m') :
    FnOk P w K mg base CX0 (k + 1) f fd ps (spV K ro ms fun ds => outR ro (fs (zap N.length ds))) := by
  refine F.ok S (fun vs H Q E ⟨G,us,a,ds,d,gk,e,rs,ho,q⟩ => by rw [e,List.length_append,List.length_singleton,rs.len.1]; exact hms) fun cdv A outer s H vs Q E hr h => ?_
  obtain ⟨G,us,a,ds,d,gk,rfl,rs,ho,q⟩ := h
  have hpl : ps.length≤N.length := by have := congrArg List.length S.pre; rw [List.length_take] at this; omega
  exact ⟨_,(hbody cdv A outer s H ⟨G,lessA H a,fun _ => none⟩ E hr).2,zap N.length (ds++[d]),G,zjz gk rs hsh ho (by omega),zgO q⟩
structure CalleeV (P : Program) (w : World) (K : PySem.W.Frag) (mg : Str→Option Value) (base : Heap) (x : Str) (ps : List Str) (k : Nat) (ro : Bool) (ms : List Md) (F : List D→Res D) : Prop where
  ex : ∃ f fd,mg x = some (.ref f)∧PySem.W.keepIn K (.ref f) = true∧zfO K fd ps []∧FnOk P w K mg base CX0 k f fd ps (spV K ro ms F)
theorem znY {x : Str} {st : Stmt} {N ps : List Str} {k : Nat} {ro : Bool} {ms : List Md} {fs : FS} {m' : List Md} (A : DefAt K mg x st) (S : FnScope N ps (zab st)) (hms : ms.length + 1 = ps.length) (hsh : ∀ x∈ms,x = Md.sh)
    (hb : ∀ (kV doc pm : Value) (an : Option Addr) (cdv ct : Value) (us : List Value),us.length = ps.length→bindArgs (PySem.W.fnOf x x (zbE st) (zaT st) (zab st) .none kV doc pm an cdv ct) ⟨us,[]⟩ = pure (ps.zip us))
    (hbody : ∀ (f : Addr) (cdv : Value) (A : Around) (outer : List Env) (s : Shared) (H : Hp) (g : GE) (E : XK),Room k (A.deeper (envOfC x (zab st) s.heap.objs.size f cdv)) →
      SSs (cxOf CX0 P w K mg base N x (zab st) f cdv A outer s H E).nox g ro [] (zbG N.length (ms++[.ow])) (zaT st) fs m') :
    CalleeV P w K mg base x ps (k + 1) ro ms fun ds => outR ro (fs (zap N.length ds)) := by
  obtain ⟨f,fd,h1,F⟩ := A.ex
  exact ⟨f,fd,h1,F.kp,F.binds hb,zoe F S hms hsh (hbody f)⟩
end
section
variable {X : Cx} {g : GE} {m ms : List Md} {e : Expr} {es : List Expr} {f : FE} {fl : Rho → Res (List D × D)} {x : Str} {ps : List Str} {k : Nat} {F : List D → Res D} {p pos : Pos}
noncomputable def tLV (X : Cx) (g : GE) (m : List Md) (ms : List Md) (f : Rho→Res (List D × D)) : TA := fun σ H Q => ∃ r G,SI X g m r G σ H∧fin (f r) (fun z => ∀ us a G' H',Grow X.K G H G' H'→ArgsOk X.K G' H' ms us z.1→H a = none→Own X.K G' H' a z.2→Q (us++[V.ref a]) H') (XW X σ G H)
noncomputable def SAV (X : Cx) (g : GE) (m : List Md) (es : List Expr) (ms : List Md) (f : Rho→Res (List D × D)) : Prop := PA X es (tLV X g m ms f)
noncomputable def zlt (f : FE) : Rho→Res (List D × D) := fun r => (f r).bind fun d => .ok ([],d)
noncomputable def zjt (f : FE) (fl : Rho→Res (List D × D)) : Rho→Res (List D × D) := fun r => (f r).bind fun d => (fl r).bind fun z => .ok (d::z.1,z.2)
theorem zoB (he : SO X g m e f) (hs : starEach [e] X.env = (false,eval e X.env)::starEach [] X.env := by rfl) : SAV X g m [e] [] (zlt f) := by
  refine PA.imp (zbo he zdX hs) fun σ H Q ⟨r,G,si,k⟩ => ⟨r,G,si,zah (zaf k) fun d k1 a G1 H1 w1 hn ho => ?_⟩
  exact k1 [] a G1 H1 w1 .nil hn ho
theorem zmw (he : SE X g m e f) (hr : SAV X g m es ms fl) (hs : starEach (e::es) X.env = (false,eval e X.env)::starEach es X.env := by rfl) : SAV X g m (e::es) (.sh::ms) (zjt f fl) := by
  refine PA.imp (zbo he hr hs) fun σ H Q ⟨r,G,si,k⟩ => ⟨r,G,si,zah (zaf k) fun d k1 v G1 H1 w1 r1 => ⟨r,G1,si.grow w1,?_⟩⟩
  exact zaB (zaf k1) w1 fun z q us a G2 H2 w2 r2 hn ho => q (v::us) a G2 H2 (w1.trans w2) (.sh (r1.mono w2.ge) r2) (w1.back hn) ho
noncomputable def zh4 (fl : Rho→Res (List D × D)) (F : List D→Res D) : FE := fun r => (fl r).bind fun z => noX (F (z.1++[z.2]))
theorem zon (c : CalleeV X.prog X.w X.K X.mg X.base x ps k false ms F) (hr : Room k X.A) (ha : SAV X g m (e::es) ms fl) (hg : Gl X x := by rfl)
    (hdb : (x == ("__debug__" : Str)) = false := by decide) (he : starEach (e::es) X.env = (false,eval e X.env)::starEach es X.env := by rfl) (hpl : (backTo pos (starEach es X.env)).any (·.1) = false := by rfl) :
    SE X g m (.Call (.Name x p) (e::es) [] pos) (zh4 fl F) := by
  obtain ⟨fa,fd,h1,h2,h3,G1⟩ := c.ex
  refine PE.imp (zgx G1 hr hg h1 h2 h3 .nil zlP ha hdb he hpl) fun σ H Q ⟨r,G,si,q⟩ => ⟨r,G,si,?_⟩
  cases ez : fl r with
  | ok z =>
    unfold zh4 at q
    rw [ez] at q
    intro us a G' H' w' rs hn ho
    refine ⟨G',us,a,z.1,z.2,w'.ok,List.append_nil _,rs,ho,?_⟩
    cases ef : F (z.1++[z.2]) with
    | ok d =>
      have q' : fin (noX (F (z.1++[z.2]))) (fun d => ∀ v G' H',Grow X.K G H G' H'→RG X.K G' v d→Q v H') (XW X σ G H) := q
      rw [ef] at q'
      exact fun v G2 H2 w2 rv => q' v G2 H2 (w'.lessA hn w2) rv
    | exc x =>
      have q' : fin (noX (F (z.1++[z.2]))) (fun d => ∀ v G' H',Grow X.K G H G' H'→RG X.K G' v d→Q v H') (XW X σ G H) := q
      rw [ef] at q'; exact q'.elim
    | stuck =>
      have q' : fin (noX (F (z.1++[z.2]))) (fun d => ∀ v G' H',Grow X.K G H G' H'→RG X.K G' v d→Q v H') (XW X σ G H) := q
      rw [ef] at q'; exact q'.elim
  | exc x => unfold zh4 at q; rw [ez] at q; exact q
  | stuck => unfold zh4 at q; rw [ez] at q; exact q
end
end DL
end
section
namespace DL
open PySem PySem.Spec PyProof.Rows L2
section
variable {X : Cx} {g : GE} {i : Nat} {m m' m1 : List Md} {r r' : Rho} {w : List (List D)} {G G' : GH} {σ σ' : L2.St} {H H' : Hp} {st : Stmt} {sts sts' : List Stmt} {f1 f2 : FS2} {c e ie : Expr} {es : List Expr} {q : FQ} {f fi : FE} {fl : Rho → Res (List D)} {pos p1 p2 p3 apos cpos spos : Pos} {x y : Str}
end
end DL
end
section
namespace DL
open PySem PySem.Spec PyProof.Rows L2
end DL
end
section
namespace DL
open PySem PySem.Spec PyProof.Rows L2
section
variable {X : Cx} {pins : List (Addr × Obj)} {σ : L2.St} {H : Hp} {s : Shared}
end
section
variable {X : Cx} {g : GE} {m : List Md} {a b : Expr} {fl : Rho → Res (List D)} {fa fb : FE} {pos p : Pos}
end
end DL
end
section
namespace DL
open PySem PySem.Spec PyProof.Rows L2
inductive Cln : D→Prop where
  | non : Cln .non
  | bl (b : Bool) : Cln (.bl b)
  | int (i : Int) : Cln (.int i)
  | str (x : Str) : Cln (.str x)
  | tup {ds : List D} : (∀ d∈ds,Cln d)→Cln (.tup ds)
theorem Cln.lst {ds : List D} (h : Cln (.lst ds)) : False := nomatch h
theorem Cln.dic {ds : List (Key × D)} (h : Cln (.dic ds)) : False := nomatch h
theorem Cln.get {ds : List D} (h : Cln (.tup ds)) : ∀ d∈ds,Cln d := by
  cases h with
  | tup h => exact h
section
variable {X : Cx} {g : GE} {i : Nat} {m m' m1 : List Md} {r r' : Rho} {w : List (List D)} {G G' : GH} {σ σ' : L2.St} {H H' : Hp} {e : Expr} {f : FE} {st : Stmt} {pos p1 p2 p3 p4 p5 p6 p7 p8 p9 p10 : Pos} {x xa xb y : Str}
end
end DL
end
section
namespace DL
open PySem PySem.Spec PyProof.Rows L2
structure TL (K : PySem.W.Frag) (G : GH) (H : Hp) (p a : Addr) (d1 : D) (ds : List D) : Prop where
  tp : ∃ x xs,H p = some (.tup [x,.ref a])∧RG K G x d1∧H a = some (.lst xs)∧RGs K G xs ds
  un : ∀ b∈[p,a],G b = none
  ne : p≠a
theorem TL.isS {K : PySem.W.Frag} {G : GH} {H : Hp} {p a : Addr} {d1 : D} {ds : List D} (t : TL K G H p a d1 ds) : ∀ b∈[p,a],H b≠none := fun b hb => by
  obtain ⟨x,xs,h1,_,h2,_⟩ := t.tp
  rcases List.mem_cons.mp hb with rfl | hb
  · rw [h1]; simp
  · rw [List.mem_singleton.mp hb,h2]; simp
noncomputable def RW (K : PySem.W.Frag) (H0 : Hp) (G : GH) (H : Hp) (v : V) (d : D) : Prop := ∃ p a d1 ds,v = .ref p∧d = .tup [d1,.lst ds]∧(∀ b∈[p,a],H0 b = none)∧TL K G H p a d1 ds
noncomputable def spW (K : PySem.W.Frag) (ms : List Md) (F : List D→Res D) : Sp := fun vs H Q _ => ∃ G ds,GOk K G H∧ArgsOk K G H ms vs ds∧fin (F ds) (fun d => ∀ v G' H',Grow K G H G' H'→RW K H G' H' v d→Q v H') fun _ => False
noncomputable abbrev FW := Rho→Res D
section
variable {X : Cx} {g : GE} {ro : Bool} {i : Nat} {m m' m1 mb : List Md} {r r' : Rho} {G G' : GH} {σ σ' : L2.St} {H H' : Hp} {e e1 e2 c : Expr} {f f1 f2 : FE} {q : FQ} {st : Stmt} {sts sts1 : List Stmt} {s1 : FS} {fs : FW} {pos p1 p2 p3 p4 apos cpos : Pos} {x y : Str}
end
section
variable {P : Program} {w : World} {K : PySem.W.Frag} {mg : Str → Option Value} {base : Heap}
structure CalleeW (P : Program) (w : World) (K : PySem.W.Frag) (mg : Str→Option Value) (base : Heap) (x : Str) (ps : List Str) (k : Nat) (ms : List Md) (F : List D→Res D) : Prop where
  ex : ∃ f fd,mg x = some (.ref f)∧PySem.W.keepIn K (.ref f) = true∧zfO K fd ps []∧FnOk P w K mg base CX0 k f fd ps (spW K ms F)
end
section
variable {X : Cx} {g : GE} {ro : Bool} {i : Nat} {m m' m1 mb ms : List Md} {r r' : Rho} {G G' : GH} {σ σ' : L2.St} {H H' : Hp} {e c : Expr} {es : List Expr} {q : FQ} {st : Stmt} {sts sts1 : List Stmt} {fl : Rho → Res (List D)} {F : List D → Res D} {k : Nat} {ps : List Str} {pos p1 p2 p3 p4 apos cpos : Pos} {x y : Str} {d1 : D} {ds : List D}
noncomputable def SI3 (X : Cx) (g : GE) (i : Nat) (m : List Md) (r : Rho) (d1 : D) (ds : List D) (G : GH) (st : L2.St) (H : Hp) : Prop :=
  ∃ p a,TL X.K G H p a d1 ds∧(∀ b∈[p,a],g.h0 b = none)∧SI X (zfr g H [p,a] i p) m r G st H∧m[i]? = some .bw
theorem SI3.frz (s : SI3 X g i m r d1 ds G σ H) (hb : ∀ j,j≠i→m[j]?≠some .bw) : ∃ G',Gle G G'∧(∀ b d,G b = none→G' b = some d→¬ Cln d)∧SI X g (m.set i .sh) (r.set i (some (.tup [d1,.lst ds]))) G' σ H := by
  obtain ⟨p,a,t,h0,si,hm⟩ := s
  obtain ⟨x,xs,h1,h2,h3,h4⟩ := t.tp
  have ua := t.un a (List.mem_cons_of_mem _ List.mem_cons_self)
  have up := t.un p List.mem_cons_self
  have g1 : GOk X.K (gset G a (.lst ds)) H := si.gok.gset ua (.lst (.inl h3) h4)
  have up1 : gset G a (.lst ds) p = none := by rw [za4 t.ne]; exact up
  have g2 : GOk X.K (gset (gset G a (.lst ds)) p (.tup [d1,.lst ds])) H := g1.gset up1 (.tup (.inl h1) (.cons (h2.mono (zaR ua)) (.cons (.ref zat) .nil)))
  refine ⟨_,Gle.trans (zaR ua) (zaR up1),fun b d hn e hc => ?_,ziA si hm h0 t.isS hb (Gle.trans (zaR ua) (zaR up1)) g2 (fun b hb => ?_) zat⟩
  · by_cases hbp : b = p
    · subst hbp; rw [zat] at e; cases e
      exact (hc.get _ (List.mem_cons_of_mem _ List.mem_cons_self)).lst
    · rw [za4 hbp] at e
      by_cases hba : b = a
      · subst hba; rw [zat] at e; cases e; exact hc.lst
      · rw [za4 hba,hn] at e; cases e
  · rw [za4 (by rintro rfl; exact hb List.mem_cons_self),za4 (by rintro rfl; exact hb (List.mem_cons_of_mem _ List.mem_cons_self))]
end
end DL
end
section
namespace DL
section
open PySem PyProof.Rows PySem.W PySem.Calls
variable {prog : Program} {w : World} {A : Around} {E : Value → Shared → Prop} {s : Shared} {l : Addr} {vs : List Value} {ns : List Int}
end
open PySem PySem.Spec PyProof.Rows L2
section
variable {X : Cx} {pins : List (Addr × Obj)} {σ : L2.St} {H : Hp} {s : Shared}
end
section
variable {X : Cx} {g : GE} {m : List Md} {a b : Expr} {fl : Rho → Res (List D)} {fa fb : FE} {pos p : Pos}
end
end DL
end
section
namespace DL
section
open PySem PyProof.Rows
variable {prog : Program} {w : World} {A : Around} {R : Result → Shared → Prop} {I S : Addr} {fp wr : List Addr} {n : Nat} {P : Nat → Value → Prop} {St : Nat → Heap → Prop} {TP : Heap → Prop} {bt : Nat → Nat → Bool}
noncomputable def CmpT (prog : Program) (w : World) (A : Around) (TP : Heap→Prop) (P : Nat→Value→Prop) (bt : Nat→Nat→Bool) : Prop :=
  ∀ i j x y (s : Shared) (Q : Value→Shared→Prop) (E : Value→Shared→Prop),TP s.heap→P i x→P j y→Q (.bool (bt i j)) s→wpAny (model prog w) A (richCompare .Lt x y) Q E s
noncomputable def zb5 (wr : List Addr) (S : Addr) (h h' : Heap) : Prop := ∀ b o,b∉wr→b≠S→h.get? b = some o→h'.get? b = some o
theorem zb5.trans {h h1 h2 : Heap} (a : zb5 wr S h h1) (b : zb5 wr S h1 h2) : zb5 wr S h h2 := fun c o hc hs e => b c o hc hs (a c o hc hs e)
theorem zkr (W : Walks prog w A.in1 I fp wr n P St) (hT : ∀ h h',TP h→zb5 wr S h h'→TP h') (hc : CmpT prog w A.in1 TP P bt) (hSf : S∉fp) : ∀ (k j : Nat) (s : Shared) (vb : Value) (c : Nat),n - (j + 1) = k→j + 1≤n→St (j + 1) s.heap→TP s.heap→P (argBest bt j) vb →
    s.heap.get? S = some { cls := .type "list",dict := none,data := .seq #[vb,vb] c,slots := #[] }→(∀ v h' tk,P (argBest bt (n - 1)) v→zb5 wr S s.heap h'→R (.ok (.ret v)) { s with heap := h',toks := tk }) →
    codeAny (model prog w) A (.builtin "min.loop" ⟨[.ref I,.none,.ref S],[]⟩) R s := by
  have hSw : S∉wr := fun z => hSf (W.sub _ z)
  have nm : (toString "min"++toString ".loop" : String) = "min.loop" := by decide
  intro k
  induction k with
  | zero =>
    intro j s vb c hk hj hst tp hb hS hR
    have hin : j + 1 = n := by omega
    refine codeAny_builtin F.entry_min_loop ?_
    rw [Around.under_plainId (F.plain_min_loop) _]; show wpAny _ A.in1 (seqItems? (.ref S) >>= _) _ _ s
    refine wpAny_bind (wpAny_seqItems hS rfl ?_); show wpAny _ A.in1 (tryCatch (pyNext (.ref I)) _ >>= _) _ _ s
    refine wpAny_bind (wpAny_tryCatch (W.done s _ _ (hin ▸ hst) fun h' tk k1 => ?_))
    show wpAny _ A.in1 (updateSeq S (fun _ => #[]) >>= _) _ _ _
    refine wpAny_bind (wpAny_updateSeq (k1 S _ hSw hS) rfl (wpAny_bind (wpAny_letGo (wpAny_pure ?_))))
    exact hR vb _ tk (by rw [← hin]; exact hb) fun b o hw hs e => (Heap.get?_update_other _ _ (Ne.symm hs)).trans (k1 b o hw e)
  | succ k ih =>
    intro j s vb c hk hj hst tp hb hS hR
    have hlt : j + 1 < n := by omega
    refine codeAny_builtin F.entry_min_loop ?_
    rw [Around.under_plainId (F.plain_min_loop) _]; show wpAny _ A.in1 (seqItems? (.ref S) >>= _) _ _ s
    refine wpAny_bind (wpAny_seqItems hS rfl ?_); show wpAny _ A.in1 (tryCatch (pyNext (.ref I)) _ >>= _) _ _ s
    refine wpAny_bind (wpAny_tryCatch (W.item (j + 1) s _ _ hlt hst fun v h' tk hP st1 k1 => ?_))
    have hS1 := k1 S _ hSw hS
    have kp : zb5 wr S s.heap h' := fun b o hw _ e => k1 b o hw e
    have tp1 := hT _ _ tp kp
    show wpAny _ A.in1 (tryCatch (holding [v,v] (richCompare .Lt v vb >>= _)) _ >>= _) _ _ _
    refine wpAny_bind (wpAny_tryCatch (wpAny_holding (wpAny_bind (hc (j + 1) (argBest bt j) v vb _ _ _ tp1 hP hb (wpAny_bind (wpAny_holding (wpAny_truthy_bool (wpAny_bind (wpAny_letGo (wpAny_pure ?_))))))))))
    cases hq : bt (j + 1) (argBest bt j) with
    | true =>
      simp only [if_true]
      refine wpAny_bind (wpAny_updateSeq hS1 rfl (wpAny_bind (wpAny_letGo ?_)))
      have ku : zb5 wr S h' (h'.update S (Obj.mapSeq fun _ => #[v,v])) := fun b o _ hs e => (Heap.get?_update_other _ _ (Ne.symm hs)).trans e
      rw [nm]
      refine wpAny_pure ⟨plainId_quiet F.plain_min_loop _,ih (j + 1) _ v _ (by omega) hlt (W.frame _ _ _ st1 fun b hbf o e => ?_) (hT _ _ tp1 ku) (by simp only [argBest,hq,if_true]; exact hP) (Heap.get?_update_self _ hS1 rfl) fun v' h2 tk2 p2 k2 => hR v' h2 tk2 p2 ((kp.trans ku).trans k2)⟩
      exact (Heap.get?_update_other _ _ (fun z : S = b => hSf (z ▸ hbf))).trans e
    | false =>
      simp only [Bool.false_eq_true,if_false]
      refine wpAny_bind (wpAny_letGo ?_)
      rw [nm]
      exact wpAny_pure ⟨plainId_quiet F.plain_min_loop _,ih (j + 1) _ vb c (by omega) hlt st1 tp1 (by simp only [argBest,hq,Bool.false_eq_true,if_false]; exact hb) hS1 fun v' h2 tk2 p2 k2 => hR v' h2 tk2 p2 (kp.trans k2)⟩
theorem zi6 (W : Walks prog w A.in1 I fp wr n P St) (hT : ∀ h h',TP h→zb5 wr S h h'→TP h') (hc : CmpT prog w A.in1 TP P bt) (hSf : S∉fp) (hn : 0 < n) {s : Shared} {c : Nat} (hst : St 0 s.heap) (tp : TP s.heap)
    (hS : s.heap.get? S = some { cls := .type "list",dict := none,data := .seq #[] c,slots := #[] }) (hR : ∀ v h' tk,P (argBest bt (n - 1)) v→zb5 wr S s.heap h'→R (.ok (.ret v)) { s with heap := h',toks := tk }) :
    codeAny (model prog w) A (.builtin "min.loop" ⟨[.ref I,.none,.ref S],[]⟩) R s := by
  have hSw : S∉wr := fun z => hSf (W.sub _ z)
  have nm : (toString "min"++toString ".loop" : String) = "min.loop" := by decide
  refine codeAny_builtin F.entry_min_loop ?_
  rw [Around.under_plainId (F.plain_min_loop) _]; show wpAny _ A.in1 (seqItems? (.ref S) >>= _) _ _ s
  refine wpAny_bind (wpAny_seqItems hS rfl ?_); show wpAny _ A.in1 (tryCatch (pyNext (.ref I)) _ >>= _) _ _ s
  refine wpAny_bind (wpAny_tryCatch (W.item 0 s _ _ hn hst fun v h' tk hP st1 k1 => ?_))
  have hS1 := k1 S _ hSw hS
  have kp : zb5 wr S s.heap h' := fun b o hw _ e => k1 b o hw e
  have ku : zb5 wr S h' (h'.update S (Obj.mapSeq fun _ => #[v,v])) := fun b o _ hs e => (Heap.get?_update_other _ _ (Ne.symm hs)).trans e
  show wpAny _ A.in1 (updateSeq S (fun _ => #[v,v]) >>= _) _ _ _
  refine wpAny_bind (wpAny_updateSeq hS1 rfl ?_)
  rw [nm]
  refine wpAny_pure ⟨plainId_quiet F.plain_min_loop _,zkr W hT hc hSf _ 0 _ v _ rfl hn (W.frame _ _ _ st1 fun b hbf o e => ?_) (hT _ _ tp (kp.trans ku)) hP (Heap.get?_update_self _ hS1 rfl) fun v' h2 tk2 p2 k2 => hR v' h2 tk2 p2 ((kp.trans ku).trans k2)⟩
  exact (Heap.get?_update_other _ _ (fun z : S = b => hSf (z ▸ hbf))).trans e
theorem zle {E : Value→Shared→Prop} {s : Shared} {x : Value} {Q : Value→Shared→Prop}
    (h : wpAny (model prog w) A.in1 (pyIter x) (fun it s2 => ∃ I fp wr n P St TP bt,it = .ref I∧Walks prog w A.in1 I fp wr n P St∧St 0 s2.heap∧(∀ b∈fp,b < s2.heap.objs.size)∧0 < n∧TP s2.heap∧(∀ h h',TP h→zb5 wr s2.heap.objs.size h h'→TP h')∧CmpT prog w A.in1 TP P bt ∧
      ∀ v h' tk,P (argBest bt (n - 1)) v→(∀ b o,b∉wr→s2.heap.get? b = some o→h'.get? b = some o)→Q v { s2 with heap := h',toks := tk }) E s) : wpAny (model prog w) A (call (.builtin "min") [x]) Q E s := by
  have nm : (toString "min"++toString ".loop" : String) = "min.loop" := by decide
  refine call_function_tree F.kind_min F.plain_min F.entry_min (F.args_min1 _) ?_
  show wpAny _ A.in1 (Builtin.Builtins.bindParams "min" ["key","default"] 0 ⟨[],[]⟩ >>= _) _ _ s
  refine wpAny_bind (wpAny_of_eq (show Builtin.Builtins.bindParams "min" ["key","default"] 0 ⟨[],[]⟩ = pure [none,none] from rfl) (wpAny_bind (wpAny_pure (wpAny_bind (wpAny_mono h (fun it s2 hh => ?_) fun _ _ e => e)))))
  obtain ⟨I,fp,wr,n,P,St,TP,bt,rfl,W,hst,hfp,hn,tp,hT,hc,hQ⟩ := hh
  refine wpAny_bind (wpAny_newObj_type ?_)
  rw [nm]
  have hpu : zb5 wr s2.heap.objs.size s2.heap (s2.heap.push { cls := .type "list",data := .seq #[] }) := fun b o _ _ e => Heap.get?_push_of_some _ e
  refine wpAny_pure ⟨plainId_quiet F.plain_min_loop _,zi6 W hT hc (fun hm => Nat.lt_irrefl _ (hfp _ hm)) hn (W.frame _ _ _ hst fun b _ o e => Heap.get?_push_of_some _ e) (hT _ _ tp hpu) (Heap.get?_push_size _ rfl) fun v h' tk hP hk => hQ v h' tk hP fun b o hw e => ?_⟩
  exact hk b o hw (Nat.ne_of_lt (Heap.lt_size e)) (Heap.get?_push_of_some _ e)
end
end DL
end
section
namespace DL
open PySem PySem.Spec PyProof.Rows L2
noncomputable def zc2 (kss : List (List Int)) : Nat := argBest (fun i j => HT.lexLt (kss.getD i []) (kss.getD j [])) (kss.length - 1)
theorem zej (bt : Nat→Nat→Bool) : ∀ k,argBest bt k≤k
  | 0 => Nat.le_refl _
  | k + 1 => by
    rw [argBest.eq_2]
    have := zej bt k
    split <;> omega
section
variable {X : Cx} {pins : List (Addr × Obj)} {σ : L2.St} {H : Hp} {s : Shared}
theorem zlf (hc : X.calm = true) (hu : X.A.units + 64 < cLine) : zcO X (.builtin "min") (fun xs H Q => ∃ (p : Addr) (ys : List V) (kss : List (List Int)),xs = [.ref p]∧SqL X.K H p ys∧Paired (TI2 X.K H) ys kss∧ys≠[]∧Q (ys.getD (zc2 kss) .non) H) := by
  intro pins s σ H xs us Q I r h
  obtain ⟨p,ys,kss,rfl,hq,hk,hne,q⟩ := h
  obtain ⟨u,rfl,rx⟩ := zeb r
  cases rx
  obtain ⟨its,rv,pl,hz⟩ := I.list hq
  have hl := rv.length
  have hkl := Paired.length hk
  have hA : X.A.in1.handled = none := I.ok.hd hc
  have hp := List.length_pos_iff.mpr hne
  have gi : ∀ i v,its[i]? = some v→TupI s.heap v (kss.getD i []) := fun i v hv => by
    have hi : i < its.length := (List.getElem?_eq_some_iff.mp hv).1
    have hki : i < kss.length := by omega
    obtain ⟨y,h1,h2⟩ := Paired.get hk (List.getElem?_eq_getElem hki)
    obtain ⟨u,h3,h4⟩ := rv.get h1
    rw [hv] at h3; cases h3
    rw [List.getD_eq_getElem?_getD,List.getElem?_eq_getElem hki]
    exact zng I h2 h4
  refine zle (PySem.Flt.iter_list_ pl.isList fun s₂ e2 hi hlt hn2 => ?_)
  subst e2
  refine ⟨s.heap.objs.size,[s.heap.objs.size,p],[s.heap.objs.size],its.toArray.size,_,_,fun h => ∀ b o,s.heap.get? b = some o→h.get? b = some o,fun i j => HT.lexLt (kss.getD i []) (kss.getD j []),rfl,Walks.list hA _ p hn2 its.toArray,hi,hlt,by rw [List.size_toArray]; omega,fun b o e => Heap.get?_push_of_some _ e,fun h h' t k b o e => k b o (fun z => ?_) ?_ (t b o e),?_,fun v h' tk hv k => ?_⟩
  · rw [List.mem_singleton] at z
    exact absurd (Heap.lt_size e) (by rw [z]; exact Nat.lt_irrefl _)
  · rw [Heap.size_push]
    exact Nat.ne_of_lt (Nat.lt_succ_of_lt (Heap.lt_size e))
  · intro i j x y s' Q' E' tp h1 h2 hq'
    have t1 := gi i x (by simpa using h1)
    have t2 := gi j y (by simpa using h2)
    cases t1 with
    | mk a1 b1 =>
      cases t2 with
      | mk a2 b2 =>
        exact HT.lt_tupInts (a1.keeps tp) (a2.keeps tp) b1 b2 (by show X.A.units + 1 < cLine; omega) hq'
  · have hsz : its.toArray.size - 1 = kss.length - 1 := by rw [List.size_toArray]; omega
    rw [hsz] at hv
    have hv' : its[zc2 kss]? = some v := by
      have hv : its.toArray[zc2 kss]? = some v := hv
      simpa using hv
    have hb : zc2 kss < ys.length := by
      have := (List.getElem?_eq_some_iff.mp hv').1
      omega
    obtain ⟨u,h3,h4⟩ := rv.get (List.getElem?_eq_getElem hb)
    rw [hv'] at h3; cases h3
    have ne : ∀ b o,s.heap.get? b = some o→¬ b∈[s.heap.objs.size] := fun b o e z => by
      have := List.mem_singleton.mp z
      subst this
      exact absurd (Heap.lt_size e) (Nat.lt_irrefl _)
    have eg : ys.getD (zc2 kss) V.non = ys[zc2 kss] := by rw [List.getD_eq_getElem?_getD,List.getElem?_eq_getElem hb]; rfl
    rw [eg] at q
    exact ⟨_,H,Inv.keptN I (fun b o _ e => k b o (ne b o e) (Heap.get?_push_of_some _ e)) (fun m ⟨o,es,ep,e,z⟩ => ⟨o,es,ep,k _ _ (ne _ _ e) (Heap.get?_push_of_some _ e),z⟩) tk,h4,q⟩
end
noncomputable def zks : List D→Option D
  | [.lst (d::ds)] => (zeK (d::ds)).map fun kss => (d::ds).getD (zc2 kss) .non
  | _ => none
theorem zgS : ∀ {ds : List D} {ks : List (List Int)},zeK ds = some ks→ks.length = ds.length
  | [],ks,e => by cases e; rfl
  | d::ds,ks,e => by
    have e' : (zfo d).bind (fun k => (zeK ds).map (k::·)) = some ks := e
    cases e1 : zfo d with
    | none => rw [e1] at e'; cases e'
    | some k =>
      rw [e1] at e'
      cases e2 : zeK ds with
      | none => rw [e2] at e'; cases e'
      | some ks' => rw [e2] at e'; cases e'; rw [List.length_cons,List.length_cons,zgS e2]
theorem zn0 {K : PySem.W.Frag} : zjm K (fun xs H Q => ∃ (p : Addr) (ys : List V) (kss : List (List Int)),xs = [.ref p]∧SqL K H p ys∧Paired (TI2 K H) ys kss∧ys≠[]∧Q (ys.getD (zc2 kss) .non) H) zks := by
  intro G H vs ds d Q gk rs e q
  unfold zks at e
  split at e
  · rename_i z zs
    cases ek : zeK (z::zs) with
    | none => rw [ek] at e; cases e
    | some kss =>
      rw [ek] at e; cases e
      cases rs with
      | cons r1 t =>
        cases t
        obtain ⟨b,xs,rfl,s,r⟩ := r1.lst gk
        have hl := Paired.length r
        have hkl := zgS ek
        have hb : zc2 kss < (z::zs).length := by
          have := zej (fun i j => HT.lexLt (kss.getD i []) (kss.getD j [])) (kss.length - 1)
          show argBest _ _ < _
          rw [List.length_cons] at hkl ⊢
          omega
        obtain ⟨v,h1,h2⟩ := Paired.get r (List.getElem?_eq_getElem hb)
        have e1 : xs.getD (zc2 kss) V.non = v := by rw [List.getD_eq_getElem?_getD,h1]; rfl
        have e2 : (z::zs).getD (zc2 kss) D.non = (z::zs)[zc2 kss] := by rw [List.getD_eq_getElem?_getD,List.getElem?_eq_getElem hb]; rfl
        refine ⟨b,xs,kss,rfl,s,znj gk r ek,?_,?_⟩
        · rintro rfl
          simp at hl
        · rw [e1]
          refine q v G H (Grow.refl gk) ?_
          show RG K G v ((z::zs).getD (zc2 kss) D.non)
          rw [e2]; exact h2
  · cases e
section
variable {X : Cx} {g : GE} {m : List Md} {e : Expr} {es : List Expr} {fl : Rho → Res (List D)} {pos p : Pos}
theorem zo0 (hc : X.calm = true) (hu : X.A.units + 64 < cLine) (hg : Gl X "min") (hm : X.mg "min" = none) (ha : SAB X g m (e::es) fl) (he : starEach (e::es) X.env = (false,eval e X.env)::starEach es X.env := by rfl) (hpl : (backTo pos (starEach es X.env)).any (·.1) = false := by rfl) :
    SE X g m (.Call (.Name "min" p) (e::es) [] pos) (fC fl zks) := s_cb zn0 (zdW (zlf hc hu) hg hm PyProof.Rows.boot_min ha (by decide) (by decide) he hpl)
end
open Classical in
noncomputable def zfq (c : D) (ds : List D) : Option D := match c,ds with
  | .lst zs,[x] => if Shp 60 x∧Shp 60 (.lst zs) then (zs.findIdx? fun y => eqb y x).map fun j : Nat => D.int (j : Int) else none
  | _,_ => none
noncomputable def zjW (K : PySem.W.Frag) : V→List V→Hp→VK→Prop := fun x vs H Q => ∃ (G : GH) (y : V) (d : D) (zs : List D) (j : Nat),vs = [y]∧GOk K G H∧RB K G H x (.lst zs)∧RB K G H y d∧Shp 60 d∧Shp 60 (.lst zs)∧zs.findIdx? (fun z => eqb z d) = some j∧Q (.int j) H
section
variable {X : Cx}
theorem zkp (hu : X.A.units + 64 < cLine) : MtR X "list.index" (zjW X.K) := by
  intro pins s σ H x vs v us Q I rx rv h
  obtain ⟨G,y,d,zs,j,rfl,gk,r1,r2,s1,s2,ej,q⟩ := h
  obtain ⟨u,rfl,ru⟩ := zeb rv
  obtain ⟨as,h1⟩ := zdd I gk 60 d y u s1 r2 ru
  obtain ⟨bs,h2⟩ := zdd I gk 60 (.lst zs) x v s2 r1 rx
  have e : toPy (.lst zs) = PyData.list (zbD zs) := by rw [toPy]
  rw [e] at h2
  obtain ⟨c1,c2⟩ := zjD 60 d s1
  obtain ⟨k1,k2⟩ := zgp (k := 59) (zjD 59) zs (zcR.mp s2)
  obtain ⟨a,xs,rfl,sq,_⟩ := r1.lst gk
  cases rx
  obtain ⟨its,r,pl,hz⟩ := I.list sq
  obtain ⟨o,n,ho,hc,hd,hs⟩ := pl
  have hl := r.length
  cases h2 with
  | list z1 z2 z3 z4 =>
    rw [ho] at z1; cases z1
    rw [hs] at z3; cases z3
    have hm := SeqAt.readsAll_map (zbD zs) _ _ k1 z4
    have he := SeqAt.items_eqAt (A := X.A) z4 h1 k1 c1 (by
      have : min (PyData.depthAll (zbD zs)) (toPy d).depth≤60 := Nat.le_trans (Nat.min_le_right _ _) c2
      omega)
    have hm' : its.map (SeqAt.readOf s.heap) = zs.map toPy := by rw [← zgT,← hm]
    have hlz : its.length = zs.length := by have := congrArg List.length hm'; simpa using this
    obtain ⟨hj,hjt,hjn⟩ := List.findIdx?_eq_some_iff_getElem.mp ej
    have at_ : ∀ i (hi : i < its.length),SeqAt.readOf s.heap its[i] = toPy (zs[i]'(by omega)) := fun i hi => by
      have := congrArg (fun l => l[i]?) hm'
      simp only [List.getElem?_map,List.getElem?_eq_getElem hi,List.getElem?_eq_getElem (show i < zs.length by omega),Option.map_some,Option.some.injEq] at this
      exact this
    obtain ⟨ocls,odict,odata,oslots⟩ := o
    simp only at hc hd hs
    subst hc hd hs
    refine call_meets PySem.F.slot_list_index ⟨_,ho,rfl⟩ PySem.F.entry_list_index (PySem.F.args_list_index_2 _ _)
      (SeqAt.list_indexAt a its.toArray n none oslots u (fun y => PyData.eqv (SeqAt.readOf s.heap y) (toPy d)) j (by simpa using (show j < its.length by omega)) (by rw [sizeLine_eq] at hz; omega) ?_ fun i hi hlt => ?_) ⟨ho,he,⟨.int j,H,I.tok _,⟨_,rfl⟩,q⟩⟩
    · have := at_ j (by omega)
      simp only [List.getElem_toArray]
      rw [this]; exact hjt
    · have hi' : i < its.length := by simpa using hi
      have := at_ i hi'
      simp only [List.getElem_toArray]
      rw [this]
      exact Bool.eq_false_iff.mpr (hjn i hlt)
theorem zkM {K : PySem.W.Frag} : MtD K (zjW K) zfq := by
  intro G H v d vs ds d' Q gk rv rs e q
  unfold zfq at e
  split at e
  · rename_i zs x
    split at e
    · rename_i hs
      cases ef : zs.findIdx? (fun y => eqb y x) with
      | none => rw [ef] at e; cases e
      | some j =>
        rw [ef] at e; cases e
        cases rs with
        | cons r1 t =>
          cases t
          exact ⟨G,_,x,zs,j,rfl,gk,rv,r1,hs.1,hs.2,ef,q _ G H (Grow.refl gk) (.scl (.int _))⟩
    · cases e
  · cases e
end
end DL
end
section
namespace Rg
theorem zcm {α : Type} [DecidableEq α] : ∀ {l m : List α},l.Nodup→(∀ x∈l,x∈m)→l.length≤m.length
  | [],_,_,_ => Nat.zero_le _
  | a::l,m,hn,hs => by
    have hn' := List.nodup_cons.mp hn
    have h1 := zcm (l := l) (m := m.erase a) hn'.2 fun x hx => by
      have hxa : x≠a := by rintro rfl; exact hn'.1 hx
      exact (List.mem_erase_of_ne hxa).mpr (hs x (List.mem_cons_of_mem _ hx))
    have ha : a∈m := hs a List.mem_cons_self
    rw [List.length_erase_of_mem ha] at h1
    have := List.length_pos_of_mem ha
    simp only [List.length_cons]; omega
theorem zcZ {α : Type} (p : α→Bool) (l : List α) : (l.filter p).length + (l.filter fun x => ! p x).length = l.length := by
  induction l with
  | nil => rfl
  | cons a l ih =>
    simp only [List.filter_cons]
    cases p a <;> simp <;> omega
theorem zbx {α : Type} {p : α→Bool} {l : List α} (h : l.Nodup) : (l.filter p).Nodup := List.Pairwise.filter p h
structure S where
  line : List Nat
  things : List Nat
section
variable (W : Nat → List Nat) (O : Nat → Option Nat)
noncomputable def best (row things : List Nat) : Nat := (row.find? fun x => decide (x∈things)).getD 0
noncomputable def tgt (s : S) (h : Nat) : Nat := best (W h) s.things
noncomputable def pt (s : S) (x : Nat) : Nat := (s.line.find? fun h => decide (O h = some x)).getD (s.line.headD 0)
noncomputable def nxt (s : S) (h : Nat) : Nat := pt O s (tgt W s h)
noncomputable def minus (s : S) (C : List Nat) : S := ⟨s.line.filter fun h => decide (h∉C),s.things.filter fun x => decide (x∉C.map (tgt W s))⟩
noncomputable def it {α : Type} (f : α→α) : Nat→α→α
  | 0,x => x
  | n + 1,x => it f n (f x)
theorem zdy {α : Type} (f : α→α) : ∀ (a b : Nat) (x : α),it f (a + b) x = it f b (it f a x)
  | 0,b,x => by rw [Nat.zero_add]; rfl
  | a + 1,b,x => by rw [Nat.add_right_comm]; exact zdy f a b (f x)
theorem zdC {α : Type} (f : α→α) (n : Nat) (x : α) : it f (n + 1) x = f (it f n x) := zdy f n 1 x
theorem zkG {α : Type} (f : α→α) {p : Nat} {x : α} (h : it f p x = x) : ∀ k,it f (p * k) x = x
  | 0 => rfl
  | k + 1 => by rw [Nat.mul_succ,zdy,zkG f h k,h]
structure Ok (s : S) : Prop where
  nl : s.line.Nodup
  nt : s.things.Nodup
  le : s.line.length≤s.things.length
  row : ∀ h∈s.line,∀ x∈s.things,x∈W h
  inj : ∀ h k x,O h = some x→O k = some x→h = k
  own : ∀ h∈s.line,∀ x,O h = some x→x∈s.things
structure Cyc (s : S) (C : List Nat) : Prop where
  sub : ∀ h∈C,h∈s.line
  cl : ∀ h∈C,nxt W O s h∈C
  per : ∀ h∈C,∃ k,it (nxt W O s) (k + 1) h = h
variable {W O}
theorem zmo {row things : List Nat} (h : ∃ x∈row,x∈things) : best row things∈things := by
  unfold best
  cases e : row.find? fun x => decide (x∈things) with
  | none =>
    obtain ⟨x,h1,h2⟩ := h
    have := List.find?_eq_none.mp e x h1
    simp [h2] at this
  | some x => have := List.find?_some e; simpa using this
theorem zgP {row things t' : List Nat} (hs : ∀ x∈t',x∈things) (hb : best row things∈t') (hr : best row things∈row) : best row t' = best row things := by
  unfold best at *
  cases e : row.find? fun x => decide (x∈things) with
  | none =>
    rw [e] at hb hr
    have := List.find?_eq_none.mp e _ hr
    simp only [decide_eq_true_eq] at this
    exact absurd (hs _ hb) this
  | some x =>
    rw [e] at hb
    simp only [Option.getD_some] at hb ⊢
    obtain ⟨hx,as,bs,rfl,h2⟩ := List.find?_eq_some_iff_append.mp e
    rw [List.find?_append]
    have : as.find? (fun y => decide (y∈t')) = none := List.find?_eq_none.mpr fun y hy => by
      have := h2 y hy
      simp only [Bool.not_eq_true',decide_eq_false_iff_not] at this
      simp only [decide_eq_true_eq]
      exact fun z => this (hs y z)
    rw [this]
    simp [List.find?_cons,hb]
theorem zmn {row things : List Nat} (h : ∃ x∈row,x∈things) : best row things∈row := by
  unfold best
  cases e : row.find? fun x => decide (x∈things) with
  | none =>
    obtain ⟨x,h1,h2⟩ := h
    have := List.find?_eq_none.mp e x h1
    simp [h2] at this
  | some x => exact List.mem_of_find?_eq_some e
variable {s : S}
theorem Ok.some_thing (k : Ok W O s) {h : Nat} (hh : h∈s.line) : ∃ x∈W h,x∈s.things := by
  have h1 := List.length_pos_of_mem hh
  have h2 : 0 < s.things.length := Nat.lt_of_lt_of_le h1 k.le
  obtain ⟨x,hx⟩ := List.exists_mem_of_length_pos h2
  exact ⟨x,k.row h hh x hx,hx⟩
theorem Ok.tgt_mem (k : Ok W O s) {h : Nat} (hh : h∈s.line) : tgt W s h∈s.things := zmo (k.some_thing hh)
theorem Ok.tgt_row (k : Ok W O s) {h : Nat} (hh : h∈s.line) : tgt W s h∈W h := zmn (k.some_thing hh)
theorem zmK {x : Nat} (h : s.line≠[]) : pt O s x∈s.line := by
  unfold pt
  cases e : s.line.find? fun h => decide (O h = some x) with
  | none =>
    cases q : s.line with
    | nil => exact absurd q h
    | cons a l => simp [List.headD]
  | some y => exact List.mem_of_find?_eq_some e
theorem zil (k : Ok W O s) {h x : Nat} (hh : h∈s.line) (ho : O h = some x) : pt O s x = h := by
  unfold pt
  cases e : s.line.find? fun h => decide (O h = some x) with
  | none =>
    have := List.find?_eq_none.mp e h hh
    simp [ho] at this
  | some y =>
    have := List.find?_some e
    simp only [decide_eq_true_eq] at this
    exact k.inj y h x this ho
theorem zkl {h : Nat} (hl : s.line≠[]) : nxt W O s h∈s.line := zmK hl
theorem Cyc.it_mem {C : List Nat} (c : Cyc W O s C) {h : Nat} (hh : h∈C) : ∀ n,it (nxt W O s) n h∈C := by
  intro n
  induction n generalizing h with
  | zero => exact hh
  | succ n ih => exact ih (c.cl h hh)
theorem znH {α : Type} {f : α→α} {x y : α} {a b : Nat} (hx : it f (a + 1) x = x) (hy : it f (b + 1) y = y) (e : f x = f y) : x = y := by
  have h1 := zkG f hx (b + 1)
  have h2 := zkG f hy (a + 1)
  rw [Nat.mul_comm] at h2
  have h3 : (a + 1) * (b + 1) = 1 + (a * b + a + b) := by
    rw [Nat.add_mul,Nat.mul_add]; omega
  rw [h3,zdy] at h1 h2
  have e1 : it f 1 x = it f 1 y := e
  rw [e1] at h1
  rw [← h1,h2]
theorem Cyc.out {C E : List Nat} (c : Cyc W O s C) (e : Cyc W O s E) {h : Nat} (hc : h∈C) (he : h∉E) : nxt W O s h∉E := by
  intro z
  obtain ⟨k,hk⟩ := c.per h hc
  exact he (by rw [← hk]; exact e.it_mem z k)
theorem zjy {C E : List Nat} (c : Cyc W O s C) (e : Cyc W O s E) {h k : Nat} (hc : h∈C) (he : k∈E) (q : tgt W s h = tgt W s k) : h = k := by
  obtain ⟨a,ha⟩ := c.per h hc
  obtain ⟨b,hb⟩ := e.per k he
  exact znH ha hb (by unfold nxt; rw [q])
theorem zdM (k : Ok W O s) {C E : List Nat} (c : Cyc W O s C) (e : Cyc W O s E) {h : Nat} (he : h∈E) (hc : h∉C) : tgt W (minus W s C) h = tgt W s h := by
  have hl := e.sub h he
  refine zgP (fun x hx => (List.mem_filter.mp hx).1) ?_ (k.tgt_row hl)
  refine List.mem_filter.mpr ⟨k.tgt_mem hl,?_⟩
  simp only [decide_eq_true_eq]
  intro z
  obtain ⟨h',h1,h2⟩ := List.mem_map.mp z
  have := zjy c e h1 he h2
  rw [this] at h1
  exact hc h1
theorem zcn {p : Nat→Bool} : ∀ {l : List Nat} {a : Nat},l.headD 0 = a→l≠[]→p a = true→(l.filter p).headD 0 = a
  | [],_,_,h,_ => absurd rfl h
  | b::l,a,e,_,hp => by
    have : b = a := e
    subst this
    rw [List.filter_cons,if_pos hp]; rfl
theorem zid (k : Ok W O s) {C E : List Nat} (c : Cyc W O s C) (e : Cyc W O s E) {h : Nat} (he : h∈E) (hc : h∉C) : nxt W O (minus W s C) h = nxt W O s h := by
  unfold nxt
  rw [zdM k c e he hc]
  have hl := e.sub h he
  have hne : s.line≠[] := List.ne_nil_of_mem hl
  have ho : pt O s (tgt W s h)∉C := e.out c he hc
  have hm : pt O s (tgt W s h)∈s.line := zmK hne
  unfold pt at *
  show ((s.line.filter fun h => decide (h∉C)).find? _).getD ((s.line.filter fun h => decide (h∉C)).headD 0) = _
  cases q : s.line.find? fun k => decide (O k = some (tgt W s h)) with
  | none =>
    rw [q] at ho
    simp only [Option.getD_none] at ho ⊢
    have : (s.line.filter fun h => decide (h∉C)).find? (fun k => decide (O k = some (tgt W s h))) = none := List.find?_eq_none.mpr fun y hy => List.find?_eq_none.mp q y (List.mem_filter.mp hy).1
    rw [this]
    exact zcn rfl hne (by simpa using ho)
  | some y =>
    rw [q] at ho
    simp only [Option.getD_some] at ho ⊢
    have hy := List.find?_some q
    simp only [decide_eq_true_eq] at hy
    have hyl := List.mem_of_find?_eq_some q
    cases q2 : (s.line.filter fun h => decide (h∉C)).find? (fun k => decide (O k = some (tgt W s h))) with
    | none =>
      have := List.find?_eq_none.mp q2 y (List.mem_filter.mpr ⟨hyl,by simpa using ho⟩)
      simp [hy] at this
    | some z =>
      have hz := List.find?_some q2
      simp only [decide_eq_true_eq] at hz
      exact k.inj z y _ hz hy
theorem zeV (k : Ok W O s) {C : List Nat} (c : Cyc W O s C) : Ok W O (minus W s C) where
  nl := zbx k.nl
  nt := zbx k.nt
  le := by
    have h1 := zcZ (fun h => decide (h∉C)) s.line
    have h2 := zcZ (fun x => decide (x∉C.map (tgt W s))) s.things
    have h3 : (s.things.filter fun x => ! decide (x∉C.map (tgt W s))).length≤((s.line.filter fun h => ! decide (h∉C)).map (tgt W s)).length := by
      refine zcm (zbx k.nt) fun x hx => ?_
      obtain ⟨_,hx⟩ := List.mem_filter.mp hx
      simp only [decide_not,Bool.not_not,decide_eq_true_eq] at hx
      obtain ⟨h,h1,h2⟩ := List.mem_map.mp hx
      exact List.mem_map.mpr ⟨h,List.mem_filter.mpr ⟨c.sub h h1,by simpa using h1⟩,h2⟩
    rw [List.length_map] at h3
    have := k.le
    show (s.line.filter _).length≤(s.things.filter _).length
    omega
  row := fun h hh x hx => k.row h (List.mem_filter.mp hh).1 x (List.mem_filter.mp hx).1
  inj := k.inj
  own := fun h hh x hx => by
    obtain ⟨h1,h2⟩ := List.mem_filter.mp hh
    simp only [decide_eq_true_eq] at h2
    refine List.mem_filter.mpr ⟨k.own h h1 x hx,?_⟩
    simp only [decide_eq_true_eq]
    intro z
    obtain ⟨b,b1,b2⟩ := List.mem_map.mp z
    have := c.cl b b1
    unfold nxt at this
    rw [b2,zil k h1 hx] at this
    exact h2 this
noncomputable def less (E C : List Nat) : List Nat := E.filter fun h => decide (h∉C)
theorem zbf {E C : List Nat} {h : Nat} : h∈less E C↔h∈E∧h∉C := by simp [less,List.mem_filter]
theorem ziw (k : Ok W O s) {C E : List Nat} (c : Cyc W O s C) (e : Cyc W O s E) : Cyc W O (minus W s C) (less E C) := by
  have stay : ∀ n h,h∈less E C→it (nxt W O (minus W s C)) n h = it (nxt W O s) n h := by
    intro n
    induction n with
    | zero => intro h _; rfl
    | succ n ih =>
      intro h hh
      obtain ⟨h1,h2⟩ := zbf.mp hh
      show it _ n (nxt W O (minus W s C) h) = it _ n (nxt W O s h)
      rw [zid k c e h1 h2]
      exact ih _ (zbf.mpr ⟨e.cl h h1,e.out c h1 h2⟩)
  refine ⟨fun h hh => ?_,fun h hh => ?_,fun h hh => ?_⟩
  · obtain ⟨h1,h2⟩ := zbf.mp hh
    exact List.mem_filter.mpr ⟨e.sub h h1,by simpa using h2⟩
  · obtain ⟨h1,h2⟩ := zbf.mp hh
    rw [zid k c e h1 h2]
    exact zbf.mpr ⟨e.cl h h1,e.out c h1 h2⟩
  · obtain ⟨h1,h2⟩ := zbf.mp hh
    obtain ⟨n,hn⟩ := e.per h h1
    exact ⟨n,by rw [stay _ _ hh]; exact hn⟩
theorem zbz {p q : Nat→Bool} {l : List Nat} (h : ∀ x∈l,p x = q x) : l.filter p = l.filter q := by
  induction l with
  | nil => rfl
  | cons a l ih =>
    rw [List.filter_cons,List.filter_cons,h a List.mem_cons_self,ih fun x hx => h x (List.mem_cons_of_mem _ hx)]
theorem zfi (k : Ok W O s) {C E : List Nat} (c : Cyc W O s C) (e : Cyc W O s E) : minus W (minus W s C) (less E C) = minus W s (C++E) := by
  have h1 : (minus W (minus W s C) (less E C)).line = (minus W s (C++E)).line := by
    show ((s.line.filter _).filter _) = s.line.filter _
    rw [List.filter_filter]
    refine zbz fun x _ => ?_
    by_cases hc : x∈C <;> by_cases he : x∈E <;> simp [zbf,hc,he]
  have h2 : (minus W (minus W s C) (less E C)).things = (minus W s (C++E)).things := by
    show ((s.things.filter _).filter _) = s.things.filter _
    rw [List.filter_filter]
    refine zbz fun x _ => ?_
    have key : x∈(less E C).map (tgt W (minus W s C))↔∃ h,h∈E∧h∉C∧tgt W s h = x := by
      rw [List.mem_map]
      constructor
      · rintro ⟨h,hh,q⟩
        obtain ⟨a,b⟩ := zbf.mp hh
        exact ⟨h,a,b,by rw [← q,zdM k c e a b]⟩
      · rintro ⟨h,a,b,q⟩
        exact ⟨h,zbf.mpr ⟨a,b⟩,by rw [zdM k c e a b]; exact q⟩
    have key2 : x∈(C++E).map (tgt W s)↔x∈C.map (tgt W s)∨x∈(less E C).map (tgt W (minus W s C)) := by
      rw [key,List.map_append,List.mem_append]
      constructor
      · rintro (z | z)
        · exact .inl z
        · obtain ⟨h,a,b⟩ := List.mem_map.mp z
          by_cases hc : h∈C
          · exact .inl (List.mem_map.mpr ⟨h,hc,b⟩)
          · exact .inr ⟨h,a,hc,b⟩
      · rintro (z | ⟨h,a,_,b⟩)
        · exact .inl z
        · exact .inr (List.mem_map.mpr ⟨h,a,b⟩)
    rw [Bool.eq_iff_iff]
    simp only [Bool.and_eq_true,decide_eq_true_eq]
    rw [key2]
    constructor
    · rintro ⟨a,b⟩ (z | z)
      · exact b z
      · exact a z
    · intro z
      exact ⟨fun q => z (.inr q),fun q => z (.inl q)⟩
  cases e1 : minus W (minus W s C) (less E C)
  cases e2 : minus W s (C++E)
  rw [e1,e2] at h1 h2
  simp only at h1 h2
  rw [h1,h2]
theorem zi5 (k : Ok W O s) {C E : List Nat} (c : Cyc W O s C) (e : Cyc W O s E) : minus W (minus W s C) (less E C) = minus W (minus W s E) (less C E) := by
  rw [zfi k c e,zfi k e c]
  unfold minus
  congr 1
  · exact zbz fun x _ => by rw [Bool.eq_iff_iff]; simp [and_comm]
  · refine zbz fun x _ => ?_
    rw [Bool.eq_iff_iff]
    simp only [decide_eq_true_eq,List.map_append,List.mem_append]
    constructor <;> intro z q <;> exact z q.symm
inductive TTC (W : Nat→List Nat) (O : Nat→Option Nat) (a : Nat→Nat) : S→Prop where
  | nil {s : S} : s.line = []→TTC W O a s
  | step {s : S} (C : List Nat) : Cyc W O s C→(∀ h∈C,a h = tgt W s h)→TTC W O a (minus W s C)→TTC W O a s
theorem zib {a : Nat→Nat} (t : TTC W O a s) : ∀ (k : Ok W O s) {E : List Nat},Cyc W O s E→TTC W O a (minus W s E)∧∀ h∈E,a h = tgt W s h := by
  induction t with
  | nil h0 =>
    intro k E e
    refine ⟨.nil (by unfold minus; rw [h0]; rfl),fun h hh => ?_⟩
    have := e.sub h hh
    rw [h0] at this; cases this
  | step C c ha t ih =>
    intro k E e
    obtain ⟨h1,h2⟩ := ih (zeV k c) (ziw k c e)
    refine ⟨.step (less C E) (ziw k e c) (fun h hh => ?_) (by rw [← zi5 k c e]; exact h1),fun h hh => ?_⟩
    · obtain ⟨z1,z2⟩ := zbf.mp hh
      rw [zdM k e c z1 z2]
      exact ha h z1
    · by_cases hc : h∈C
      · exact ha h hc
      · rw [h2 h (zbf.mpr ⟨hh,hc⟩),zdM k c e hh hc]
end
end Rg
end
section
namespace Rg
section
variable {W : Nat → List Nat} {O : Nat → Option Nat} {s : S} {a : Nat → Nat}
theorem znh (t : TTC W O a s) (k : Ok W O s) : ∀ h∈s.line,a h∈s.things := by
  induction t with
  | nil h0 => intro h hh; rw [h0] at hh; cases hh
  | step C c ha t ih =>
    intro h hh
    by_cases hc : h∈C
    · rw [ha h hc]; exact k.tgt_mem hh
    · exact (List.mem_filter.mp (ih (zeV k c) h (List.mem_filter.mpr ⟨hh,by simpa using hc⟩))).1
theorem zqE (t : TTC W O a s) (k : Ok W O s) : ∀ h∈s.line,∀ l∈s.line,a h = a l→h = l := by
  induction t with
  | nil h0 => intro h hh; rw [h0] at hh; cases hh
  | @step s C c ha t ih =>
    intro h hh l hl e
    have k' := zeV k c
    have rest : ∀ h∈s.line,h∉C→h∈(minus W s C).line := fun h hh hc => List.mem_filter.mpr ⟨hh,by simpa using hc⟩
    have outs : ∀ h∈s.line,h∉C→a h∉C.map (tgt W s) := fun h hh hc => by
      have := (List.mem_filter.mp (znh t k' h (rest h hh hc))).2
      simpa using this
    by_cases hc : h∈C
    · by_cases lc : l∈C
      · rw [ha h hc,ha l lc] at e; exact zjy c c hc lc e
      · exact absurd (List.mem_map.mpr ⟨h,hc,by rw [← ha h hc,e]⟩) (outs l hl lc)
    · by_cases lc : l∈C
      · exact absurd (List.mem_map.mpr ⟨l,lc,by rw [← ha l lc,e]⟩) (outs h hh hc)
      · exact ih k' h (rest h hh hc) l (rest l hl lc) e
theorem zmN {f : Nat→Nat} {l : List Nat} (hcl : ∀ h∈l,f h∈l) {x : Nat} (hx : x∈l) : ∃ i j,i < j∧j≤l.length∧it f i x = it f j x := by
  have mem : ∀ i,it f i x∈l := by
    intro i
    induction i with
    | zero => exact hx
    | succ i ih => rw [zdC]; exact hcl _ ih
  by_cases hn : ((List.range (l.length + 1)).map fun i => it f i x).Nodup
  · have := zcm hn (m := l) fun y hy => by
      obtain ⟨i,_,rfl⟩ := List.mem_map.mp hy
      exact mem i
    simp at this
    omega
  · apply Classical.byContradiction
    intro h
    apply hn
    rw [List.nodup_iff_pairwise_ne] at *
    rw [List.pairwise_map]
    refine List.Pairwise.imp_of_mem (R := fun i j => i < j) (fun hi hj hij e => ?_) List.pairwise_lt_range
    exact h ⟨_,_,hij,by have := List.mem_range.mp hj; omega,e⟩
theorem zpN {P : Nat→Prop} : (∃ n,P n)→∃ n,P n∧∀ k,k < n→¬ P k := by
  rintro ⟨n,hn⟩
  induction n using Nat.strongRecOn with
  | _ n ih =>
    by_cases h : ∃ k,k < n∧P k
    · obtain ⟨k,h1,h2⟩ := h; exact ih k h1 h2
    · exact ⟨n,hn,fun k hk hp => h ⟨k,hk,hp⟩⟩
theorem zkH {α : Type} (f : α→α) (a b : Nat) (x : α) : it f a (it f b x) = it f b (it f a x) := by
  rw [← zdy,← zdy,Nat.add_comm]
theorem zja {f : Nat→Nat} {l : List Nat} (hcl : ∀ h∈l,f h∈l) (hne : l≠[]) : ∃ z p,z∈l∧0 < p∧p≤l.length∧it f p z = z∧∀ i,0 < i→i < p→z < it f i z := by
  have mem : ∀ x∈l,∀ i,it f i x∈l := by
    intro x hx i
    induction i with
    | zero => exact hx
    | succ i ih => rw [zdC]; exact hcl _ ih
  obtain ⟨x,hx⟩ := List.exists_mem_of_ne_nil l hne
  obtain ⟨i,j,hij,_,e⟩ := zmN hcl hx
  obtain ⟨z,⟨hz,k,hk⟩,hmin⟩ := zpN (P := fun z => z∈l∧∃ k,it f (k + 1) z = z) ⟨it f i x,mem x hx i,j - i - 1,by
    rw [← zdy,show i + (j - i - 1 + 1) = j by omega]; exact e.symm⟩
  obtain ⟨p,hp,hpm⟩ := zpN (P := fun p => it f (p + 1) z = z) ⟨k,hk⟩
  have ge : ∀ i,z≤it f i z := fun i => by
    have := hmin (it f i z)
    apply Classical.byContradiction
    intro h
    exact this (by omega) ⟨mem z hz i,p,by rw [zkH,hp]⟩
  have ne : ∀ i,0 < i→i < p + 1→it f i z≠z := fun i h1 h2 q => hpm (i - 1) (by omega) (by rw [show i - 1 + 1 = i by omega]; exact q)
  refine ⟨z,p + 1,hz,Nat.succ_pos _,?_,hp,fun i h1 h2 => by have := ge i; have := ne i h1 h2; omega⟩
  obtain ⟨i,j,hij,hj,e⟩ := zmN hcl hz
  apply Classical.byContradiction
  intro h
  have : it f (p + 1 - j + i) z = z := by
    have h1 : it f (p + 1 - j) (it f j z) = z := by rw [← zdy,show j + (p + 1 - j) = p + 1 by omega]; exact hp
    rw [← e,← zdy] at h1
    rw [Nat.add_comm]; exact h1
  exact ne _ (by omega) (by omega) this
noncomputable def zg0 (f : Nat→Nat) (n first : Nat) : Nat→List Nat→Nat→Option (List Nat)
  | 0,_,_ => none
  | k + 1,ring,hand => if first < hand∧ring.length < n then zg0 f n first k (ring++[hand]) (f hand) else if hand = first then some ring else none
noncomputable def zij (f : Nat→Nat) (n first : Nat) : Option (List Nat) := zg0 f n first (n + 1) [first] (f first)
noncomputable def orb (f : Nat→Nat) (x n : Nat) : List Nat := (List.range n).map fun i => it f i x
theorem zio (f : Nat→Nat) (x n : Nat) : orb f x (n + 1) = orb f x n++[it f n x] := by
  unfold orb; rw [List.range_succ,List.map_append]; rfl
theorem zkd (f : Nat→Nat) (x n : Nat) : (orb f x n).length = n := by simp [orb]
theorem ziT {f : Nat→Nat} {n first : Nat} : ∀ {k i : Nat} {r : List Nat},zg0 f n first k (orb f first i) (it f i first) = some r→∃ j,i≤j∧r = orb f first j∧it f j first = first := by
  intro k
  induction k with
  | zero => intro i r h; cases h
  | succ k ih =>
    intro i r h
    unfold zg0 at h
    split at h
    · rw [← zio,← zdC f] at h
      obtain ⟨j,h1,h2⟩ := ih h
      exact ⟨j,by omega,h2⟩
    · split at h
      · rename_i e
        cases h
        exact ⟨i,Nat.le_refl _,rfl,e⟩
      · cases h
theorem zfb {f : Nat→Nat} {n first : Nat} {r : List Nat} (h : zij f n first = some r) : ∃ j,0 < j∧r = orb f first j∧it f j first = first := by
  have h' : zg0 f n first (n + 1) (orb f first 1) (it f 1 first) = some r := h
  obtain ⟨j,h1,h2⟩ := ziT h'
  exact ⟨j,by omega,h2⟩
theorem zhP {f : Nat→Nat} {n z p : Nat} (hp : p≤n) (he : it f p z = z) (hg : ∀ i,0 < i→i < p→z < it f i z) : ∀ {k i : Nat},0 < i→i≤p→p < k + i→zg0 f n z k (orb f z i) (it f i z) = some (orb f z p) := by
  intro k
  induction k with
  | zero => intro i h1 h2 h3; omega
  | succ k ih =>
    intro i h1 h2 h3
    unfold zg0
    by_cases hi : i = p
    · subst hi
      rw [if_neg (by rw [he]; omega),if_pos he]
    · rw [if_pos ⟨hg i h1 (by omega),by rw [zkd]; omega⟩,← zio,← zdC f]
      exact ih (by omega) (by omega) (by omega)
theorem zha {f : Nat→Nat} {n z p : Nat} (h0 : 0 < p) (hp : p≤n) (he : it f p z = z) (hg : ∀ i,0 < i→i < p→z < it f i z) : zij f n z = some (orb f z p) := by
  show zg0 f n z (n + 1) (orb f z 1) (it f 1 z) = _
  exact zhP hp he hg (by omega) h0 (by omega)
noncomputable def zfa (W : Nat→List Nat) (O : Nat→Option Nat) (s : S) : List (List Nat) := s.line.filterMap fun h => zij (nxt W O s) s.line.length h
theorem zjQ {C : List Nat} (hC : ∀ h,h∈C→∃ r∈zfa W O s,h∈r) (hC' : ∀ r∈zfa W O s,∀ h∈r,h∈C) : Cyc W O s C := by
  have one : ∀ r∈zfa W O s,∃ x j,x∈s.line∧0 < j∧r = orb (nxt W O s) x j∧it (nxt W O s) j x = x := fun r hr => by
    obtain ⟨x,h1,h2⟩ := List.mem_filterMap.mp hr
    obtain ⟨j,h3,h4,h5⟩ := zfb h2
    exact ⟨x,j,h1,h3,h4,h5⟩
  have hm : ∀ x∈s.line,∀ i,it (nxt W O s) i x∈s.line := by
    intro x hx i
    induction i with
    | zero => exact hx
    | succ i ih => rw [zdC]; exact zkl (List.ne_nil_of_mem hx)
  refine ⟨fun h hh => ?_,fun h hh => ?_,fun h hh => ?_⟩
  · obtain ⟨r,hr,h1⟩ := hC h hh
    obtain ⟨x,j,hx,hj,rfl,he⟩ := one r hr
    obtain ⟨i,_,rfl⟩ := List.mem_map.mp h1
    exact hm x hx i
  · obtain ⟨r,hr,h1⟩ := hC h hh
    obtain ⟨x,j,hx,hj,rfl,he⟩ := one r hr
    obtain ⟨i,hi,rfl⟩ := List.mem_map.mp h1
    have hi := List.mem_range.mp hi
    refine hC' _ hr _ ?_
    rw [← zdC (nxt W O s)]
    by_cases q : i + 1 = j
    · rw [q,he]; exact List.mem_map.mpr ⟨0,List.mem_range.mpr hj,rfl⟩
    · exact List.mem_map.mpr ⟨i + 1,List.mem_range.mpr (by omega),rfl⟩
  · obtain ⟨r,hr,h1⟩ := hC h hh
    obtain ⟨x,j,hx,hj,rfl,he⟩ := one r hr
    obtain ⟨i,hi,rfl⟩ := List.mem_map.mp h1
    exact ⟨j - 1,by rw [show j - 1 + 1 = j by omega,zkH,he]⟩
theorem zi0 (hne : s.line≠[]) : zfa W O s≠[] := by
  obtain ⟨z,p,h1,h2,h3,h4,h5⟩ := zja (f := nxt W O s) (l := s.line) (fun h hh => zkl hne) hne
  exact List.ne_nil_of_mem (List.mem_filterMap.mpr ⟨z,h1,zha h2 h3 h4 h5⟩)
noncomputable def gone (W : Nat→List Nat) (O : Nat→Option Nat) (s : S) : List Nat := (zfa W O s).flatten
theorem ziB : Cyc W O s (gone W O s) := zjQ (fun h hh => List.mem_flatten.mp hh) (fun r hr h hh => List.mem_flatten.mpr ⟨r,hr,hh⟩)
theorem zjR {f : Nat→Nat} {n x : Nat} {r : List Nat} (h : zij f n x = some r) : r≠[] := by
  obtain ⟨j,h1,rfl,_⟩ := zfb h
  intro z
  have := zkd f x j
  rw [z] at this
  simp at this; omega
theorem zkQ (hne : s.line≠[]) : gone W O s≠[] := by
  have h := zi0 (W := W) (O := O) hne
  cases q : zfa W O s with
  | nil => exact absurd q h
  | cons r t =>
    have hr : r∈zfa W O s := by rw [q]; exact List.mem_cons_self
    obtain ⟨x,_,h2⟩ := List.mem_filterMap.mp hr
    unfold gone
    rw [q,List.flatten_cons]
    intro z
    exact zjR h2 (List.append_eq_nil_iff.mp z).1
theorem zkR (hne : s.line≠[]) : (minus W s (gone W O s)).line.length < s.line.length := by
  have h := zkQ (W := W) (O := O) hne
  obtain ⟨x,hx⟩ := List.exists_mem_of_ne_nil _ h
  have hx2 := (ziB (W := W) (O := O) (s := s)).sub x hx
  have := zcZ (fun h => decide (h∉gone W O s)) s.line
  have h3 : 0 < (s.line.filter fun h => ! decide (h∉gone W O s)).length := List.length_pos_of_mem (List.mem_filter.mpr ⟨hx2,by simpa using hx⟩)
  show (s.line.filter _).length < _
  omega
noncomputable def deal (W : Nat→List Nat) (O : Nat→Option Nat) : Nat→S→Nat→Nat
  | 0,_,_ => 0
  | n + 1,s,h => if h∈gone W O s then tgt W s h else deal W O n (minus W s (gone W O s)) h
theorem zjx {b : Nat→Nat} (t : TTC W O a s) : (∀ h∈s.line,b h = a h)→TTC W O b s := by
  induction t with
  | nil h0 => exact fun _ => .nil h0
  | @step s C c ha t ih => exact fun e => .step C c (fun h hh => by rw [e h (c.sub h hh)]; exact ha h hh) (ih fun h hh => e h (List.mem_filter.mp hh).1)
theorem zqz : ∀ (n : Nat) (s : S),s.line.length < n→TTC W O (deal W O n s) s := by
  intro n
  induction n with
  | zero => intro s h; omega
  | succ n ih =>
    intro s h
    by_cases hl : s.line = []
    · exact .nil hl
    · have hlt := zkR (W := W) (O := O) hl
      refine .step (gone W O s) ziB (fun h hh => ?_) (zjx (ih _ (by omega)) fun h hh => ?_)
      · show (if h∈gone W O s then _ else _) = _
        rw [if_pos hh]
      · have := (List.mem_filter.mp hh).2
        simp only [decide_eq_true_eq] at this
        show (if h∈gone W O s then _ else _) = _
        rw [if_neg this]
end
end Rg
end
section
namespace Rg
section
variable {W W' : Nat → List Nat} {O : Nat → Option Nat} {s : S} {a b : Nat → Nat}
theorem ziD {l : List Nat} {h : Nat} (hn : l.Nodup) : l.erase h = l.filter fun x => decide (x≠h) := by
  induction l with
  | nil => rfl
  | cons b l ih =>
    have hn' := List.nodup_cons.mp hn
    by_cases q : b = h
    · subst q
      rw [List.erase_cons_head,List.filter_cons,if_neg (by simp)]
      symm
      rw [List.filter_eq_self]
      intro x hx
      have : x≠b := by rintro rfl; exact hn'.1 hx
      simpa using this
    · rw [List.erase_cons_tail (by simpa using q),List.filter_cons,if_pos (by simpa using q),ih hn'.2]
end
end Rg
end
section
namespace Rg
section
variable (W : Nat → List Nat) (d : Nat → Nat)
variable {W d}
end
end Rg
end
section
namespace Rg
section
variable {W : Nat → List Nat} {O : Nat → Option Nat} {s : S} {a b : Nat → Nat}
theorem Cyc.pre {C : List Nat} (c : Cyc W O s C) {h : Nat} (hh : h∈C) : ∃ l∈C,nxt W O s l = h := by
  obtain ⟨k,e⟩ := c.per h hh
  rw [zdC] at e
  exact ⟨_,c.it_mem hh k,e⟩
end
end Rg
end
section
namespace Rg
section
variable {W : Nat → List Nat} {O : Nat → Option Nat} {s : S} {a : Nat → Nat}
structure Chain (W : Nat→List Nat) (O : Nat→Option Nat) (s : S) (A : List Nat) : Prop where
  nd : A.Nodup
  sub : ∀ h∈A,h∈s.line
  hd : ∀ h l,A = h::l→s.line.headD 0 = h
  nx : ∀ (i : Nat) h l,A[i]? = some h→A[i + 1]? = some l→O l = some (tgt W s h)
theorem zqm : Chain W O s [] := ⟨List.nodup_nil,fun _ h => (nomatch h),fun _ _ h => (nomatch h),fun i h l e => by simp at e⟩
theorem zql (hne : s.line≠[]) : Chain W O s [s.line.headD 0] := by
  refine ⟨by simp,fun h hh => ?_,fun h l e => by cases e; rfl,fun i h l e1 e2 => by simp at e2⟩
  have := List.mem_singleton.mp hh
  subst this
  cases e : s.line with
  | nil => exact absurd e hne
  | cons b t => exact List.mem_cons_self
variable {A : List Nat}
theorem Chain.at (c : Chain W O s A) {i h : Nat} (e : A[i]? = some h) : h∈A := List.mem_of_getElem? e
theorem Chain.nxt (c : Chain W O s A) (k : Ok W O s) {i h l : Nat} (e1 : A[i]? = some h) (e2 : A[i + 1]? = some l) : Rg.nxt W O s h = l :=
  zil k (c.sub l (c.at e2)) (c.nx i h l e1 e2)
theorem Chain.walk (c : Chain W O s A) (k : Ok W O s) : ∀ (t : Nat) {j h l : Nat},A[j]? = some h→A[j + t]? = some l→it (Rg.nxt W O s) t h = l
  | 0,j,h,l,e1,e2 => by rw [Nat.add_zero,e1] at e2; exact Option.some.inj e2
  | t + 1,j,h,l,e1,e2 => by
    have hlt : j + (t + 1) < A.length := (List.getElem?_eq_some_iff.mp e2).1
    have e3 : A[j + 1]? = some A[j + 1] := List.getElem?_eq_getElem (by omega)
    show it _ t (Rg.nxt W O s h) = l
    rw [c.nxt k e1 e3]
    exact c.walk k t e3 (by rw [show j + 1 + t = j + (t + 1) by omega]; exact e2)
theorem zdA {i h : Nat} (hh : h∈A.drop i) : ∃ j,i≤j∧A[j]? = some h := by
  obtain ⟨j,hj⟩ := List.getElem?_of_mem hh
  rw [List.getElem?_drop] at hj
  exact ⟨i + j,by omega,hj⟩
theorem zfB {i j h : Nat} (hj : i≤j) (e : A[j]? = some h) : h∈A.drop i := by
  refine List.mem_of_getElem? (i := j - i) ?_
  rw [List.getElem?_drop,show i + (j - i) = j by omega]; exact e
theorem Chain.cyc (c : Chain W O s A) (k : Ok W O s) {i z f : Nat} (hz : A[A.length - 1]? = some z) (hf : A[i]? = some f) (e : Rg.nxt W O s z = f) : Cyc W O s (A.drop i) := by
  have hil : i < A.length := (List.getElem?_eq_some_iff.mp hf).1
  refine ⟨fun h hh => c.sub h (List.mem_of_mem_drop hh),fun h hh => ?_,fun h hh => ?_⟩
  · obtain ⟨j,h1,h2⟩ := zdA hh
    have hj : j < A.length := (List.getElem?_eq_some_iff.mp h2).1
    by_cases q : j + 1 < A.length
    · have e3 : A[j + 1]? = some A[j + 1] := List.getElem?_eq_getElem q
      rw [c.nxt k h2 e3]
      exact zfB (by omega) e3
    · have : j = A.length - 1 := by omega
      subst this
      rw [hz] at h2; cases h2
      rw [e]; exact zfB (Nat.le_refl _) hf
  · obtain ⟨j,h1,h2⟩ := zdA hh
    have hj : j < A.length := (List.getElem?_eq_some_iff.mp h2).1
    refine ⟨A.length - i - 1,?_⟩
    have w1 := c.walk k (A.length - 1 - j) h2 (l := z) (by rw [show j + (A.length - 1 - j) = A.length - 1 by omega]; exact hz)
    have w2 := c.walk k (j - i) hf (l := h) (by rw [show i + (j - i) = j by omega]; exact h2)
    rw [show A.length - i - 1 + 1 = (A.length - 1 - j) + ((j - i) + 1) by omega,zdy,w1]
    show it _ (j - i) (Rg.nxt W O s z) = h
    rw [e]; exact w2
theorem Chain.apart (c : Chain W O s A) {i j h l : Nat} (e1 : A[i]? = some h) (e2 : A[j]? = some l) (e : h = l) : i = j := by
  subst e
  have h1 := (List.getElem?_eq_some_iff.mp e1)
  have h2 := (List.getElem?_eq_some_iff.mp e2)
  obtain ⟨b1,q1⟩ := h1
  obtain ⟨b2,q2⟩ := h2
  have := List.pairwise_iff_getElem.mp c.nd
  rcases Nat.lt_trichotomy i j with z | z | z
  · exact absurd (q1.trans q2.symm) (this i j b1 b2 z)
  · exact z
  · exact absurd (q2.trans q1.symm) (this j i b2 b1 z)
theorem Chain.take (c : Chain W O s A) {s' : S} (i : Nat) (hl : ∀ (j : Nat) h,j < i→A[j]? = some h→h∈s'.line) (hh : ∀ h l,A = h::l→0 < i→s'.line.headD 0 = h) (ht : ∀ (j : Nat) h l,j + 1 < i→A[j]? = some h→A[j + 1]? = some l→tgt W s' h = tgt W s h) : Chain W O s' (A.take i) := by
  refine ⟨c.nd.sublist (List.take_sublist _ _),fun h hm => ?_,fun h l e => ?_,fun j h l e1 e2 => ?_⟩
  · obtain ⟨j,hj⟩ := List.getElem?_of_mem hm
    rw [List.getElem?_take] at hj
    split at hj
    · rename_i q; exact hl j h q hj
    · cases hj
  · cases i with
    | zero => cases e
    | succ i =>
      cases A with
      | nil => cases e
      | cons b t => cases e; exact hh _ _ rfl (by omega)
  · rw [List.getElem?_take] at e1 e2
    split at e1
    · split at e2
      · rename_i q1 q2
        rw [ht j h l q2 e1 e2]; exact c.nx j h l e1 e2
      · cases e2
    · cases e1
theorem zqA (t : TTC W O a s) (k : Ok W O s) (c : Chain W O s A) {i z f : Nat} (hz : A[A.length - 1]? = some z) (hf : A[i]? = some f) (hO : O f = some (tgt W s z)) :
    Ok W O (minus W s (A.drop i))∧TTC W O a (minus W s (A.drop i))∧Chain W O (minus W s (A.drop i)) (A.take i)∧(∀ h∈A.drop i,a h = tgt W s h)∧Cyc W O s (A.drop i) := by
  have cy := c.cyc k hz hf (zil k (c.sub f (c.at hf)) hO)
  obtain ⟨t1,t2⟩ := zib t k cy
  have nin : ∀ (j : Nat) h,j < i→A[j]? = some h→h∉A.drop i := fun j h hj e q => by
    obtain ⟨j',h1,h2⟩ := zdA q
    have := c.apart e h2 rfl
    omega
  refine ⟨zeV k cy,t1,c.take i (fun j h hj e => List.mem_filter.mpr ⟨c.sub h (c.at e),by simpa using nin j h hj e⟩) (fun h l e hi => ?_) (fun j h l hj e1 e2 => ?_),t2,cy⟩
  · have e0 : A[0]? = some h := by rw [e]; rfl
    exact zcn (c.hd h l e) (List.ne_nil_of_mem (c.sub h (c.at e0))) (by simpa using nin 0 h hi e0)
  · have hh := c.sub h (c.at e1)
    refine zgP (fun x hx => (List.mem_filter.mp hx).1) (List.mem_filter.mpr ⟨k.tgt_mem hh,?_⟩) (k.tgt_row hh)
    simp only [decide_eq_true_eq]
    intro q
    obtain ⟨u,u1,u2⟩ := List.mem_map.mp q
    have : Rg.nxt W O s u = l := zil k (c.sub l (c.at e2)) (by rw [c.nx j h l e1 e2]; exact congrArg some u2.symm)
    exact nin (j + 1) l hj e2 (this ▸ cy.cl u u1)
theorem zqB (t : TTC W O a s) (k : Ok W O s) (c : Chain W O s A) {z : Nat} (hz : A[A.length - 1]? = some z) (hO : ∀ h∈s.line,O h≠some (tgt W s z)) :
    Ok W O (minus W s [z])∧TTC W O a (minus W s [z])∧Chain W O (minus W s [z]) (A.take (A.length - 1))∧a z = tgt W s z := by
  have hzl := c.sub z (c.at hz)
  have hlen : A.length - 1 < A.length := (List.getElem?_eq_some_iff.mp hz).1
  have hne : s.line≠[] := List.ne_nil_of_mem hzl
  have hfind : s.line.find? (fun h => decide (O h = some (tgt W s z))) = none := List.find?_eq_none.mpr fun h hh => by simpa using hO h hh
  have hnz : Rg.nxt W O s z = s.line.headD 0 := by
    unfold Rg.nxt pt; rw [hfind]; rfl
  have h0 : A[0]? = some (s.line.headD 0) := by
    cases e : A with
    | nil => rw [e] at hlen; simp at hlen
    | cons b r => rw [c.hd b r e]; rfl
  have cy : Cyc W O s A := by
    have := c.cyc k hz h0 hnz
    rwa [List.drop_zero] at this
  obtain ⟨t1,t2⟩ := zib t k cy
  have hza := t2 z (c.at hz)
  have k' : Ok W O (minus W s [z]) := by
    refine ⟨zbx k.nl,zbx k.nt,?_,fun h hh x hx => k.row h (List.mem_filter.mp hh).1 x (List.mem_filter.mp hx).1,k.inj,fun h hh x hx => ?_⟩
    · have e1 : (minus W s [z]).line = s.line.erase z := by rw [ziD k.nl]; exact zbz fun x _ => by simp
      have e2 : (minus W s [z]).things = s.things.erase (tgt W s z) := by rw [ziD k.nt]; exact zbz fun x _ => by simp
      rw [e1,e2,List.length_erase_of_mem hzl,List.length_erase_of_mem (k.tgt_mem hzl)]
      have := k.le; omega
    · have hl := (List.mem_filter.mp hh).1
      refine List.mem_filter.mpr ⟨k.own h hl x hx,?_⟩
      simp only [List.map_cons,List.map_nil,List.mem_singleton,decide_eq_true_eq]
      rintro rfl
      exact hO h hl hx
  have neq : ∀ (j : Nat) h,j < A.length - 1→A[j]? = some h→h≠z := fun j h hj e q => by
    have := c.apart e hz q
    omega
  have tg : ∀ (j : Nat) h,j < A.length - 1→A[j]? = some h→tgt W (minus W s [z]) h = tgt W s h := fun j h hj e1 => by
    have hh := c.sub h (c.at e1)
    have e2 : A[j + 1]? = some A[j + 1] := List.getElem?_eq_getElem (by omega)
    refine zgP (fun x hx => (List.mem_filter.mp hx).1) (List.mem_filter.mpr ⟨k.tgt_mem hh,?_⟩) (k.tgt_row hh)
    simp only [List.map_cons,List.map_nil,List.mem_singleton,decide_eq_true_eq]
    intro q
    exact hO _ (c.sub _ (c.at e2)) (by rw [c.nx j h _ e1 e2]; exact congrArg some q)
  have c' : Chain W O (minus W s [z]) (A.take (A.length - 1)) := by
    refine c.take _ (fun j h hj e => List.mem_filter.mpr ⟨c.sub h (c.at e),by simpa using neq j h hj e⟩) (fun h l e hi => ?_) (fun j h l hj e1 e2 => tg j h (by omega) e1)
    have e0 : A[0]? = some h := by rw [e]; rfl
    exact zcn (c.hd h l e) hne (by simpa using neq 0 h hi e0)
  refine ⟨k',?_,c',hza⟩
  by_cases q : A.length - 1 = 0
  · have e : A = [z] := by
      cases e : A with
      | nil => rw [e] at hlen; simp at hlen
      | cons b r =>
        rw [e] at q hz
        simp at q
        subst q
        simp at hz
        rw [hz]
    rw [e] at t1; exact t1
  · have tl : (A.take (A.length - 1)).length = A.length - 1 := by rw [List.length_take]; omega
    have ly : (A.take (A.length - 1))[(A.take (A.length - 1)).length - 1]? = some A[A.length - 2] := by
      rw [tl,List.getElem?_take,if_pos (by omega),List.getElem?_eq_getElem (by omega)]
      congr 1
    have e2 : A[A.length - 2]? = some A[A.length - 2] := List.getElem?_eq_getElem (by omega)
    have oz : O z = some (tgt W s A[A.length - 2]) := c.nx (A.length - 2) _ z e2 (by rw [show A.length - 2 + 1 = A.length - 1 by omega]; exact hz)
    have l0 : (A.take (A.length - 1))[0]? = some (s.line.headD 0) := by rw [List.getElem?_take,if_pos (by omega)]; exact h0
    have hd' : (minus W s [z]).line.headD 0 = s.line.headD 0 := zcn rfl hne (by simpa using neq 0 _ (by omega) h0)
    have fr : Rg.nxt W O (minus W s [z]) A[A.length - 2] = s.line.headD 0 := by
      unfold Rg.nxt pt
      have : (minus W s [z]).line.find? (fun h => decide (O h = some (tgt W (minus W s [z]) A[A.length - 2]))) = none := List.find?_eq_none.mpr fun h hh => by
        rw [tg (A.length - 2) _ (by omega) e2]
        have hm := List.mem_filter.mp hh
        simp only [decide_eq_true_eq]
        intro e
        have := k.inj h z _ e oz
        subst this
        simpa using hm.2
      rw [this]; exact hd'
    have cy' := c'.cyc k' ly l0 fr
    rw [List.drop_zero] at cy'
    have sub' : ∀ h,h∈A.take (A.length - 1)→∃ j,j < A.length - 1∧A[j]? = some h := fun h hm => by
      obtain ⟨j,hj⟩ := List.getElem?_of_mem hm
      rw [List.getElem?_take] at hj
      split at hj
      · rename_i q2; exact ⟨j,q2,hj⟩
      · cases hj
    have mA : ∀ h,h∈A↔h∈A.take (A.length - 1)∨h = z := fun h => by
      constructor
      · intro hm
        obtain ⟨j,hj⟩ := List.getElem?_of_mem hm
        have hjl := (List.getElem?_eq_some_iff.mp hj).1
        by_cases z1 : j < A.length - 1
        · left
          refine List.mem_of_getElem? (i := j) ?_
          rw [List.getElem?_take,if_pos z1]; exact hj
        · have : j = A.length - 1 := by omega
          subst this
          rw [hz] at hj; cases hj; exact .inr rfl
      · rintro (hm | rfl)
        · exact List.mem_of_mem_take hm
        · exact c.at hz
    refine .step (A.take (A.length - 1)) cy' (fun h hm => ?_) ?_
    · obtain ⟨j,j1,j2⟩ := sub' h hm
      rw [tg j h j1 j2]; exact t2 h (c.at j2)
    · have e : minus W (minus W s [z]) (A.take (A.length - 1)) = minus W s A := by
        unfold minus
        simp only [S.mk.injEq,List.filter_filter]
        refine ⟨zbz fun h _ => ?_,zbz fun x _ => ?_⟩
        · rw [Bool.eq_iff_iff]
          simp only [Bool.and_eq_true,decide_eq_true_eq,List.mem_singleton]
          rw [mA h]
          constructor
          · rintro ⟨q1,q2⟩ (q3 | q3)
            · exact q1 q3
            · exact q2 q3
          · exact fun q1 => ⟨fun q2 => q1 (.inl q2),fun q2 => q1 (.inr q2)⟩
        · rw [Bool.eq_iff_iff]
          simp only [Bool.and_eq_true,decide_eq_true_eq,List.map_cons,List.map_nil,List.mem_singleton]
          constructor
          · rintro ⟨q1,q2⟩ q3
            obtain ⟨h,h1,h2⟩ := List.mem_map.mp q3
            rcases (mA h).mp h1 with h3 | h3
            · obtain ⟨j,j1,j2⟩ := sub' h h3
              exact q1 (List.mem_map.mpr ⟨h,h3,by
                have := tg j h j1 j2
                unfold minus at this
                simp only [List.map_cons,List.map_nil,List.mem_singleton] at this
                rw [this]; exact h2⟩)
            · subst h3; exact q2 h2.symm
          · intro q1
            refine ⟨fun q2 => ?_,fun q2 => q1 (List.mem_map.mpr ⟨z,c.at hz,q2.symm⟩)⟩
            obtain ⟨h,h1,h2⟩ := List.mem_map.mp q2
            obtain ⟨j,j1,j2⟩ := sub' h h1
            have := tg j h j1 j2
            unfold minus at this
            simp only [List.map_cons,List.map_nil,List.mem_singleton] at this
            rw [this] at h2
            exact q1 (List.mem_map.mpr ⟨h,c.at j2,h2⟩)
      rw [e]; exact t1
theorem zqq (c : Chain W O s A) {z l : Nat} (hz : A[A.length - 1]? = some z) (hl : l∈s.line) (hn : l∉A) (hO : O l = some (tgt W s z)) : Chain W O s (A++[l]) := by
  have hlen : A.length - 1 < A.length := (List.getElem?_eq_some_iff.mp hz).1
  refine ⟨List.nodup_append.mpr ⟨c.nd,by simp,fun x hx y hy => by rw [List.mem_singleton.mp hy]; rintro rfl; exact hn hx⟩,fun h hh => ?_,fun h r e => ?_,fun i h m e1 e2 => ?_⟩
  · rcases List.mem_append.mp hh with q | q
    · exact c.sub h q
    · rw [List.mem_singleton.mp q]; exact hl
  · cases eA : A with
    | nil => rw [eA] at hlen; simp at hlen
    | cons b t => rw [eA] at e; cases e; exact c.hd _ _ eA
  · by_cases q : i + 1 < A.length
    · rw [List.getElem?_append_left (by omega)] at e1 e2
      exact c.nx i h m e1 e2
    · have hi : i + 1 < (A++[l]).length := (List.getElem?_eq_some_iff.mp e2).1
      simp at hi
      have : i = A.length - 1 := by omega
      subst this
      rw [List.getElem?_append_left (by omega),hz] at e1
      cases e1
      rw [List.getElem?_append_right (by omega),show A.length - 1 + 1 - A.length = 0 by omega] at e2
      cases e2
      exact hO
end
end Rg
end
section
namespace Rg
end Rg
end
section
namespace Law
open PySem PySem.Spec PyProof.Rows L2 DL
noncomputable abbrev gv (i : Nat) : DL.FE := fun r => DL.getV r i
noncomputable abbrev ci (i : Int) : DL.FE := fun _ => .ok (.int i)
noncomputable abbrev q0 : List DL.Md := [.bw,.bw]
noncomputable abbrev q101 : List DL.Md := [.sh,.sh,.ow,.ow,.ow,.ow,.sh,.sh,.sh,.sh,.sh,.sh]
noncomputable abbrev q102 : List DL.Md := [.bw,.bw,.sh,.sh]
noncomputable abbrev q103 : List DL.Md := [.bw,.bw,.sh,.sh,.sh,.ow,.ow,.sh,.sh,.sh]
noncomputable abbrev q104 : List DL.Md := [.bw,.bw,.bw,.bw,.bw,.sh,.sh,.sh]
noncomputable abbrev q105 : List DL.Md := [.bw,.bw,.ow,.sh,.sh]
noncomputable abbrev q106 : List DL.Md := [.bw,.sh]
noncomputable abbrev q107 : List DL.Md := [.sh,.bw,.bw,.ow,.sh,.sh]
noncomputable abbrev q108 : List DL.Md := [.bw,.bw,.bw,.sh]
noncomputable abbrev q109 : List DL.Md := [.bw,.sh,.sh,.sh,.sh]
noncomputable abbrev q110 : List DL.Md := [.bw,.bw,.sh]
noncomputable abbrev q111 : List DL.Md := [.sh,.sh,.sh,.sh,.sh,.sh,.sh,.sh]
noncomputable abbrev q112 : List DL.Md := [.sh,.sh,.sh,.sh,.sh,.sh,.sh,.ow]
noncomputable abbrev q113 : List DL.Md := [.bw,.bw,.sh,.ow,.sh,.ow,.ow,.sh,.sh,.sh]
noncomputable abbrev q114 : List DL.Md := [.sh,.bw,.ow,.sh]
noncomputable abbrev q115 : List DL.Md := [.bw,.bw,.bw,.bw]
noncomputable abbrev q116 : List DL.Md := [.sh,.sh,.ow,.ow,.ow,.sh,.sh,.sh,.sh,.sh,.sh,.sh]
noncomputable abbrev q117 : List DL.Md := [.bw,.bw,.bw,.bw,.bw]
noncomputable abbrev q118 : List DL.Md := [.bw,.ow,.sh,.sh,.sh]
noncomputable abbrev q119 : List DL.Md := [.bw,.bw,.sh,.sh,.sh,.sh,.sh,.sh,.sh,.sh]
noncomputable abbrev q120 : List DL.Md := [.bw,.bw,.sh,.sh,.ow,.ow,.ow,.sh,.sh,.sh]
noncomputable abbrev q121 : List DL.Md := [.bw,.bw,.sh,.ow,.ow,.ow,.ow,.sh,.sh,.sh]
theorem zhl {α : Type} (us : List α) (h : us.length = 1) : ∃ a0,us = [a0] := by
  match us,h with
  | [_],_ => exact ⟨_,rfl⟩
theorem zd1 {α : Type} (us : List α) (h : us.length = 2) : ∃ a0 a1,us = [a0,a1] := by
  match us,h with
  | [_,_],_ => exact ⟨_,_,rfl⟩
theorem zky {α : Type} (us : List α) (h : us.length = 3) : ∃ a0 a1 a2,us = [a0,a1,a2] := by
  match us,h with
  | [_,_,_],_ => exact ⟨_,_,_,rfl⟩
theorem zri {α : Type} (us : List α) (h : us.length = 4) : ∃ a0 a1 a2 a3,us = [a0,a1,a2,a3] := by
  match us,h with
  | [_,_,_,_],_ => exact ⟨_,_,_,_,rfl⟩
theorem zrh {α : Type} (us : List α) (h : us.length = 5) : ∃ a0 a1 a2 a3 a4,us = [a0,a1,a2,a3,a4] := by
  match us,h with
  | [_,_,_,_,_],_ => exact ⟨_,_,_,_,_,rfl⟩
noncomputable def top (i : Nat) : Stmt := PySem.Challenge.pw_ringtrade_k10_asked_one_by_one.main.body.getD i (.Pass ⟨0,0,0,0⟩)
structure Txt (K : PySem.W.Frag) (mg : Str→Option Value) : Prop where
  b_len : mg "len" = none
  b_range : mg "range" = none
  b_tuple : mg "tuple" = none
  b_list : mg "list" = none
  b_min : mg "min" = none
  b_isinstance : mg "isinstance" = none
  b_bool : mg "bool" = none
  b_int : mg "int" = none
  b_enumerate : mg "enumerate" = none
  b_zip : mg "zip" = none
  b_str : mg "str" = none
  b_all : mg "all" = none
noncomputable abbrev zet : Stmt := top 22
noncomputable abbrev zfL : List Str := ["_law_script","_law_k","_law_cell_here","_law_stirred"]
noncomputable abbrev zct : List Str := ["_law_script","_law_k"]
theorem zb4 : FnScope zfL zct (zab zet) := ⟨rfl,rfl,rfl,by decide +kernel,rfl,by decide +kernel,by decide +kernel⟩
noncomputable def zb0 : FS :=
  (seqF (setF q102 2 (ci 0)) (seqF (ifF q102 (zav (f2 (gv 1) (fC (zac (gv 0) lNil) lenD) ltI)) (seqF (setF q102 2 (f2 (f2 (gv 0) (gv 1) ixA) (f2 (ci 10) (ci 60) powI) modI)) zak) zak) (seqF (ifF q102 (fAnd (zav (f2 (fC (zac (gv 0) lNil) lenD) (ci 0) gtI)) (zav (f2 (f2 (f2 (gv 0) (ci 0) ixA) (ci 2) modI) (ci 0) eqD))) (seqF (retF q102 (gv 2)) zak) zak) (seqF (setF q102 3 (f2 (f2 (f2 (f2 (f2 (f2 (f2 (gv 2) (f2 (f2 (ci 7) (gv 1) mulI) (gv 1) mulI) addA) (f2 (ci 13) (gv 1) mulI) addA) (ci 5) addA) (ci 48271) mulI) (ci 2147483647) modI) (ci 69621) mulI) (ci 1000000007) modI)) (seqF (retF q102 (f2 (f2 (f2 (f2 (f2 (gv 3) (ci 1) addA) (ci 40692) mulI) (ci 2147483629) modI) (ci 39373) mulI) (ci 999999937) modI)) zak)))))
noncomputable def zaP : List D→Res D := fun ds => outR false (zb0 (zap zfL.length ds))
theorem zmX {P : Program} {w : World} {K : PySem.W.Frag} {mg : Str→Option Value} {base : Heap} (T : Txt K mg) (A : DefAt K mg "_law_cell" zet) : Callee P w K mg base "_law_cell" zct [] 1 false q0 zaP := by
  refine zaQ (k := 0) (fs := zb0) (m' := q102) A zb4 rfl (fun _ _ _ _ _ _ us hl => by obtain ⟨u0,u1,rfl⟩ := zd1 us hl; kernel_rfl) fun f cdv A outer s H g E hr => ?_
  have hu1 := zbc hr
  have hu64 := hr.units
  exact (zaa (zaZ 2 zb4.nd (by rfl) (by first | exact Or.inl rfl | exact Or.inr rfl) zar)
      (zaa (s_if (q_lt (vb_ 1) (SE.toB (zcM (by rfl) T.b_len (zas (vb_ 0) zaJ)))) (zaa (zaZ 2 zb4.nd (by rfl) (by first | exact Or.inl rfl | exact Or.inr rfl) (zeO (SE.toB (za1 hu1 (vb_ 0) (vb_ 1))) (SE.toB (zqR (SE.toB zar) (SE.toB zar)))))
      zag)
      zag)
      (zaa (s_if (SW.toQ (zpg (q_gt (SE.toB (zcM (by rfl) T.b_len (zas (vb_ 0) zaJ))) (SE.toB zar)) (zmI (q_eq hu64 (SE.toB (zeO (SE.toB (za1 hu1 (vb_ 0) (SE.toB zar))) (SE.toB zar))) (SE.toB zar))))) (zaa (zaK (v_ 2))
      zag)
      zag)
      (zaa (zaZ 3 zb4.nd (by rfl) (by first | exact Or.inl rfl | exact Or.inr rfl) (zeO (SE.toB (zhM (SE.toB (zeO (SE.toB (zhM (SE.toB (zcJ (SE.toB (zcJ (SE.toB (zcJ (vb_ 2) (SE.toB (zhM (SE.toB (zhM (SE.toB zar) (vb_ 1))) (vb_ 1))))) (SE.toB (zhM (SE.toB zar) (vb_ 1))))) (SE.toB zar))) (SE.toB zar))) (SE.toB zar))) (SE.toB zar))) (SE.toB zar)))
      (zaa (zaK (zeO (SE.toB (zhM (SE.toB (zeO (SE.toB (zhM (SE.toB (zcJ (vb_ 3) (SE.toB zar))) (SE.toB zar))) (SE.toB zar))) (SE.toB zar))) (SE.toB zar)))
      zag)))))
noncomputable abbrev zeq : Stmt := top 25
noncomputable abbrev zfI : List Str := ["_law_cell_here","_law_n","_law_m","_law_owns_here","_law_hand","_law_thing"]
noncomputable abbrev zdH : List Str := ["_law_cell_here","_law_n","_law_m"]
theorem zbw : FnScope zfI zdH (zab zeq) := ⟨rfl,rfl,rfl,by decide +kernel,rfl,by decide +kernel,by decide +kernel⟩
noncomputable abbrev zcv : FS :=
  (seqF (setF q107 5 (f2 (gv 0) (f2 (gv 2) (ci 1) addA) modI)) (seqF (setF q107 0 (f2 (gv 0) (f2 (gv 2) (ci 1) addA) zgJ)) (seqF (ifF q107 (fOr (zav (f2 (gv 5) (gv 2) eqD)) (zav (f2 (gv 5) (gv 3) inD))) (seqF (mutF "list" q107 3 (zac (fun _ => Res.ok D.non) lNil) appD) zak) (seqF (mutF "list" q107 3 (zac (gv 5) lNil) appD) zak)) zak)))
noncomputable def zcD : FS :=
  (seqF (setF [.sh,.bw,.bw,.sh,.sh,.sh] 3 (mkL lNil)) (seqF (zcN q107 (fRng rng1 (zac (gv 1) lNil)) (ftN 4) zcv) (seqF (retF q107 (fC (zac (gv 3) lNil) tupD)) zak)))
noncomputable def zcx : List D→Res D := fun ds => outR false (zcD (zap zfI.length ds))
theorem zmU {P : Program} {w : World} {K : PySem.W.Frag} {mg : Str→Option Value} {base : Heap} (T : Txt K mg) (A : DefAt K mg "_law_owns" zeq) : Callee P w K mg base "_law_owns" zdH [] 1 false [.sh,.bw,.bw] zcx := by
  refine zaQ (k := 0) (fs := zcD) (m' := q107) A zbw rfl (fun _ _ _ _ _ _ us hl => by obtain ⟨u0,u1,u2,rfl⟩ := zky us hl; kernel_rfl) fun f cdv A outer s H g E hr => ?_
  have hu1 := zbc hr
  have hu64 := hr.units
  exact (zaa (zbR 3 zbw.nd (by rfl) (by first | exact Or.inl rfl | exact Or.inr rfl) (zee zaL))
      (zaa (zhN PassesOwn.never rfl (zd3 (by rfl) T.b_range (zas (vb_ 1) zaJ)) (zaI 4 zbw.nd (by rfl) (by first | exact Or.inl rfl | exact Or.inr rfl)) (zaa (zaZ 5 zbw.nd (by rfl) (by first | exact Or.inl rfl | exact Or.inr rfl) (zeO (vb_ 0) (SE.toB (zcJ (vb_ 2) (SE.toB zar)))))
      (zaa (zaZ 0 zbw.nd (by rfl) (by first | exact Or.inl rfl | exact Or.inr rfl) (zih (vb_ 0) (SE.toB (zcJ (vb_ 2) (SE.toB zar)))))
      (zaa (s_if (SW.toQ (q_or (q_eq hu64 (vb_ 5) (vb_ 2)) (zgw (q_in hu1 (vb_ 5) (vb_ 3))))) (zaa (zcT 3 rfl PySem.F.plainAttrs_list PySem.F.slot_list_append PySem.F.type_list_append zaH zce (by rfl) (by first | exact Or.inl rfl | exact Or.inr (Or.inl rfl) | exact Or.inr (Or.inr rfl)) (zaq zed zaL))
      zag)
      (zaa (zcT 3 rfl PySem.F.plainAttrs_list PySem.F.slot_list_append PySem.F.type_list_append zaH zce (by rfl) (by first | exact Or.inl rfl | exact Or.inr (Or.inl rfl) | exact Or.inr (Or.inr rfl)) (zaq (v_ 5) zaL))
      zag))
      zag))))
      (zaa (zaK (ze8 (by rfl) T.b_tuple (zas (vb_ 3) zaJ)))
      zag)))
noncomputable abbrev ze6 : Stmt := top 23
noncomputable abbrev zgg : List Str := ["_law_cell_here","_law_m","_law_row_here","_law_thing"]
noncomputable abbrev zdj : List Str := ["_law_cell_here","_law_m"]
theorem zck : FnScope zgg zdj (zab ze6) := ⟨rfl,rfl,rfl,by decide +kernel,rfl,by decide +kernel,by decide +kernel⟩
noncomputable abbrev zeG : FS :=
  (seqF (mutF "list" q114 2 (zac (f2 (gv 0) (f2 (gv 3) (ci 1) addA) modI) (zac (gv 3) lNil)) insD) (seqF (setF q114 0 (f2 (gv 0) (f2 (gv 3) (ci 1) addA) zgJ)) zak))
noncomputable def zdn : FS :=
  (seqF (setF [.sh,.bw,.sh,.sh] 2 (mkL lNil)) (seqF (zcN q114 (fRng rng1 (zac (gv 1) lNil)) (ftN 3) zeG) (seqF (retF q114 (fC (zac (gv 2) lNil) tupD)) zak)))
noncomputable def zbt : List D→Res D := fun ds => outR false (zdn (zap zgg.length ds))
theorem znS {P : Program} {w : World} {K : PySem.W.Frag} {mg : Str→Option Value} {base : Heap} (T : Txt K mg) (A : DefAt K mg "_law_row" ze6) : Callee P w K mg base "_law_row" zdj [] 1 false [.sh,.bw] zbt := by
  refine zaQ (k := 0) (fs := zdn) (m' := q114) A zck rfl (fun _ _ _ _ _ _ us hl => by obtain ⟨u0,u1,rfl⟩ := zd1 us hl; kernel_rfl) fun f cdv A outer s H g E hr => ?_
  have hu1 := zbc hr
  have hu64 := hr.units
  exact (zaa (zbR 2 zck.nd (by rfl) (by first | exact Or.inl rfl | exact Or.inr rfl) (zee zaL))
      (zaa (zhN PassesOwn.never rfl (zd3 (by rfl) T.b_range (zas (vb_ 1) zaJ)) (zaI 3 zck.nd (by rfl) (by first | exact Or.inl rfl | exact Or.inr rfl)) (zaa (zcT 2 rfl PySem.F.plainAttrs_list PySem.F.slot_list_insert PySem.F.type_list_insert zko zpY (by rfl) (by first | exact Or.inl rfl | exact Or.inr (Or.inl rfl) | exact Or.inr (Or.inr rfl)) (zaq (zeO (vb_ 0) (SE.toB (zcJ (vb_ 3) (SE.toB zar)))) (zaq (v_ 3) zaL)))
      (zaa (zaZ 0 zck.nd (by rfl) (by first | exact Or.inl rfl | exact Or.inr rfl) (zih (vb_ 0) (SE.toB (zcJ (vb_ 3) (SE.toB zar)))))
      zag)))
      (zaa (zaK (ze8 (by rfl) T.b_tuple (zas (vb_ 2) zaJ)))
      zag)))
noncomputable abbrev zbu : Stmt := top 24
noncomputable abbrev zbJ : List Str := ["_law_script","_law_at","_law_n","_law_m"]
noncomputable abbrev zcs : List Str := ["_law_script","_law_at","_law_n","_law_m"]
theorem zdt : FnScope zbJ zcs (zab zbu) := ⟨rfl,rfl,rfl,by decide +kernel,rfl,by decide +kernel,by decide +kernel⟩
noncomputable def zbP : FS :=
  (seqF (retF q115 (fC (zac (zd4 1 [3,0,1] (fRng rng1 (zac (gv 2) lNil)) (ftN 0) (fun _ => Res.ok true) (zaz (zac (zaz (zac (gv 2) (zac (f2 (gv 3) (gv 0) addA) lNil)) [] zaP) (zac (gv 1) lNil)) [] zbt)) lNil) tupD)) zak)
noncomputable def zbM : List D→Res D := fun ds => outR false (zbP (zap zbJ.length ds))
theorem zlp {P : Program} {w : World} {K : PySem.W.Frag} {mg : Str→Option Value} {base : Heap} (T : Txt K mg) (A : DefAt K mg "_law_wishes" zbu) (c__law_cell : Callee P w K mg base "_law_cell" zct [] 1 false q0 zaP) (c__law_row : Callee P w K mg base "_law_row" zdj [] 1 false [.sh,.bw] zbt) : Callee P w K mg base "_law_wishes" zcs [] 2 false q115 zbM := by
  refine zaQ (k := 1) (fs := zbP) (m' := q115) A zdt rfl (fun _ _ _ _ _ _ us hl => by obtain ⟨u0,u1,u2,u3,rfl⟩ := zri us hl; kernel_rfl) fun f cdv A outer s H g E hr => ?_
  have hu1 := zbc hr
  have hu64 := hr.units
  exact (zaa (zaK (ze8 (by rfl) T.b_tuple (zas (SO.toB (zir (X := (cxOf CX0 P w K mg base zbJ "_law_wishes" (zab zbu) f cdv A outer s H E).nox) (N' := ["_law_hand","_law_m","_law_script","_law_at"]) (nl := 1) (cap := [3,0,1]) zdt.nd rfl (za5 (osc := (zab zbu)) (ON := zbJ) rfl rfl (by decide +kernel)) (SIt.toC (zd3 (by rfl) T.b_range (zas (vb_ 2) zaJ))) (fun _ _ _ _ _ _ => (zaI 0 (show List.Nodup (["_law_hand","_law_m","_law_script","_law_at"] : List Str) by decide +kernel) (by rfl) (by first | exact Or.inl rfl | exact Or.inr rfl))) (zcY (by decide)) (fun _ _ _ _ _ _ => zjY) (fun _ _ _ _ _ _ => (zaC (dds := []) c__law_row (hr.mono (by decide)) (m_sh (zaC (dds := []) c__law_cell (hr.mono (by decide)) (m_bw (vb_ 2) (m_bw (SE.toB (zcJ (vb_ 3) (vb_ 0))) zaN))) (m_bw (vb_ 1) zaN)))))) zaJ)))
      zag)
noncomputable abbrev zcI : Stmt := top 28
noncomputable abbrev zda : List Str := ["_law_cell_here","_law_n"]
noncomputable abbrev zbW : List Str := ["_law_cell_here","_law_n"]
theorem zeM : FnScope zda zbW (zab zcI) := ⟨rfl,rfl,rfl,by decide +kernel,rfl,by decide +kernel,by decide +kernel⟩
noncomputable def zbm : FS :=
  (seqF (ifF q0 (zav (f2 (f2 (gv 0) (ci 3) modI) (ci 0) eqD)) (seqF (retF q0 (fun _ => Res.ok D.non)) zak) zak) (seqF (retF q0 (fC (zac (zaz (zac (f2 (gv 0) (ci 3) zgJ) (zac (gv 1) lNil)) [] zbt) lNil) zgA)) zak))
noncomputable def zbk : List D→Res D := fun ds => outR false (zbm (zap zda.length ds))
theorem zjo {P : Program} {w : World} {K : PySem.W.Frag} {mg : Str→Option Value} {base : Heap} (T : Txt K mg) (A : DefAt K mg "_law_order_by" zcI) (c__law_row : Callee P w K mg base "_law_row" zdj [] 1 false [.sh,.bw] zbt) : Callee P w K mg base "_law_order_by" zbW [] 2 false q0 zbk := by
  refine zaQ (k := 1) (fs := zbm) (m' := q0) A zeM rfl (fun _ _ _ _ _ _ us hl => by obtain ⟨u0,u1,rfl⟩ := zd1 us hl; kernel_rfl) fun f cdv A outer s H g E hr => ?_
  have hu1 := zbc hr
  have hu64 := hr.units
  exact (zaa (s_if (q_eq hu64 (SE.toB (zeO (vb_ 0) (SE.toB zar))) (SE.toB zar)) (zaa (zaK zed)
      zag)
      zag)
      (zaa (zaK (SO.toE (ziq (by rfl) T.b_list (zas (SE.toB (zaC (dds := []) c__law_row (hr.mono (by decide)) (m_sh (zih (vb_ 0) (SE.toB zar)) (m_bw (vb_ 1) zaN)))) zaJ))))
      zag))
noncomputable abbrev zdQ : Stmt := top 30
noncomputable abbrev zeE : List Str := ["_law_script","_law_cell_here","_law_n","_law_m","_law_owns_here"]
noncomputable abbrev zc7 : List Str := ["_law_script"]
theorem zbe : FnScope zeE zc7 (zab zdQ) := ⟨rfl,rfl,rfl,by decide +kernel,rfl,by decide +kernel,by decide +kernel⟩
noncomputable def zca : FS :=
  (seqF (setF q109 1 (zaz (zac (gv 0) (zac (ci 1) lNil)) [] zaP)) (seqF (setF q109 2 (f2 (ci 1) (f2 (gv 1) (ci 7) modI) addA)) (seqF (setF q109 3 (f2 (gv 2) (f2 (f2 (gv 1) (ci 7) zgJ) (f2 (ci 9) (gv 2) subI) modI) addA)) (seqF (setF q109 4 (zaz (zac (zaz (zac (gv 0) (zac (ci 2) lNil)) [] zaP) (zac (gv 2) (zac (gv 3) lNil))) [] zcx)) (seqF (retF q109 (mkT (zac (zaz (zac (gv 0) (zac (ci 4) (zac (gv 2) (zac (gv 3) lNil)))) [] zbM) (zac (gv 4) (zac (zaz (zac (zaz (zac (gv 0) (zac (ci 3) lNil)) [] zaP) (zac (gv 2) lNil)) [] zbk) lNil))))) zak)))))
noncomputable def zb7 : List D→Res D := fun ds => outR false (zca (zap zeE.length ds))
theorem zlU {P : Program} {w : World} {K : PySem.W.Frag} {mg : Str→Option Value} {base : Heap} (T : Txt K mg) (A : DefAt K mg "_law_scene" zdQ) (c__law_cell : Callee P w K mg base "_law_cell" zct [] 1 false q0 zaP) (c__law_owns : Callee P w K mg base "_law_owns" zdH [] 1 false [.sh,.bw,.bw] zcx) (c__law_order_by : Callee P w K mg base "_law_order_by" zbW [] 2 false q0 zbk) (c__law_wishes : Callee P w K mg base "_law_wishes" zcs [] 2 false q115 zbM) : Callee P w K mg base "_law_scene" zc7 [] 3 false [Md.bw] zb7 := by
  refine zaQ (k := 2) (fs := zca) (m' := q109) A zbe rfl (fun _ _ _ _ _ _ us hl => by obtain ⟨u0,rfl⟩ := zhl us hl; kernel_rfl) fun f cdv A outer s H g E hr => ?_
  have hu1 := zbc hr
  have hu64 := hr.units
  exact (zaa (zaZ 1 zbe.nd (by rfl) (by first | exact Or.inl rfl | exact Or.inr rfl) (zaC (dds := []) c__law_cell (hr.mono (by decide)) (m_bw (vb_ 0) (m_bw (SE.toB zar) zaN))))
      (zaa (zaZ 2 zbe.nd (by rfl) (by first | exact Or.inl rfl | exact Or.inr rfl) (zcJ (SE.toB zar) (SE.toB (zeO (vb_ 1) (SE.toB zar)))))
      (zaa (zaZ 3 zbe.nd (by rfl) (by first | exact Or.inl rfl | exact Or.inr rfl) (zcJ (vb_ 2) (SE.toB (zeO (SE.toB (zih (vb_ 1) (SE.toB zar))) (SE.toB (zqQ (SE.toB zar) (vb_ 2)))))))
      (zaa (zaZ 4 zbe.nd (by rfl) (by first | exact Or.inl rfl | exact Or.inr rfl) (zaC (dds := []) c__law_owns (hr.mono (by decide)) (m_sh (zaC (dds := []) c__law_cell (hr.mono (by decide)) (m_bw (vb_ 0) (m_bw (SE.toB zar) zaN))) (m_bw (vb_ 2) (m_bw (vb_ 3) zaN)))))
      (zaa (zaK (zec (zaq (zaC (dds := []) c__law_wishes (hr.mono (by decide)) (m_bw (vb_ 0) (m_bw (SE.toB zar) (m_bw (vb_ 2) (m_bw (vb_ 3) zaN))))) (zaq (v_ 4) (zaq (zaC (dds := []) c__law_order_by (hr.mono (by decide)) (m_bw (SE.toB (zaC (dds := []) c__law_cell (hr.mono (by decide)) (m_bw (vb_ 0) (m_bw (SE.toB zar) zaN)))) (m_bw (vb_ 2) zaN))) zaL)))))
      zag)))))
noncomputable abbrev zeu : Stmt := top 26
noncomputable abbrev zfM : List Str := ["_law_row_here","_law_left","_law_thing"]
noncomputable abbrev zdK : List Str := ["_law_row_here","_law_left"]
theorem zex : FnScope zfM zdK (zab zeu) := ⟨rfl,rfl,rfl,by decide +kernel,rfl,by decide +kernel,by decide +kernel⟩
noncomputable abbrev zbi : FS :=
  (seqF (ifF q110 (zav (f2 (gv 2) (gv 1) inD)) (seqF (retF q110 (gv 2)) zak) zak) zak)
noncomputable def zcG : FS :=
  (seqF (zcN q110 (fSeq zbA (gv 0)) (ftN 2) zbi) (seqF (retF q110 (fun _ => Res.ok D.non)) zak))
noncomputable def zbZ : List D→Res D := fun ds => outR false (zcG (zap zfM.length ds))
theorem zmY {P : Program} {w : World} {K : PySem.W.Frag} {mg : Str→Option Value} {base : Heap} (T : Txt K mg) (A : DefAt K mg "_law_best" zeu) : Callee P w K mg base "_law_best" zdK [] 1 false q0 zbZ := by
  refine zaQ (k := 0) (fs := zcG) (m' := q110) A zex rfl (fun _ _ _ _ _ _ us hl => by obtain ⟨u0,u1,rfl⟩ := zd1 us hl; kernel_rfl) fun f cdv A outer s H g E hr => ?_
  have hu1 := zbc hr
  have hu64 := hr.units
  exact (zaa (zjG PassesOwn.never rfl (zcW (vb_ 0)) (fun _ => (zaI 2 zex.nd (by rfl) (by first | exact Or.inl rfl | exact Or.inr rfl))) (fun _ => (zaa (s_if (q_in hu1 (vb_ 2) (vb_ 1)) (zaa (zaK (v_ 2))
      zag)
      zag)
      zag)))
      (zaa (zaK zed)
      zag))
noncomputable abbrev zdR : Stmt := top 31
noncomputable abbrev zeF : List Str := ["_law_owns_here","_law_line_here","_law_thing","_law_hand"]
noncomputable abbrev zc8 : List Str := ["_law_owns_here","_law_line_here","_law_thing"]
theorem zdU : FnScope zeF zc8 (zab zdR) := ⟨rfl,rfl,rfl,by decide +kernel,rfl,by decide +kernel,by decide +kernel⟩
noncomputable abbrev zf0 : FS :=
  (seqF (ifF q108 (zav (f2 (f2 (gv 0) (gv 3) ixA) (gv 2) eqD)) (seqF (retF q108 (gv 3)) zak) zak) zak)
noncomputable def zeJ : FS :=
  (seqF (zcN q108 (fSeq zbA (gv 1)) (ftN 3) zf0) (seqF (retF q108 (fun _ => Res.ok D.non)) zak))
noncomputable def zbC : List D→Res D := fun ds => outR false (zeJ (zap zeF.length ds))
theorem zlV {P : Program} {w : World} {K : PySem.W.Frag} {mg : Str→Option Value} {base : Heap} (T : Txt K mg) (A : DefAt K mg "_law_owner" zdR) : Callee P w K mg base "_law_owner" zc8 [] 1 false [.bw,.bw,.bw] zbC := by
  refine zaQ (k := 0) (fs := zeJ) (m' := q108) A zdU rfl (fun _ _ _ _ _ _ us hl => by obtain ⟨u0,u1,u2,rfl⟩ := zky us hl; kernel_rfl) fun f cdv A outer s H g E hr => ?_
  have hu1 := zbc hr
  have hu64 := hr.units
  exact (zaa (zjG PassesOwn.never rfl (zcW (vb_ 1)) (fun _ => (zaI 3 zdU.nd (by rfl) (by first | exact Or.inl rfl | exact Or.inr rfl))) (fun _ => (zaa (s_if (q_eq hu64 (SE.toB (za1 hu1 (vb_ 0) (vb_ 3))) (vb_ 2)) (zaa (zaK (v_ 3))
      zag)
      zag)
      zag)))
      (zaa (zaK zed)
      zag))
noncomputable abbrev zep : Stmt := top 32
noncomputable abbrev zfH : List Str := ["_law_askers","_law_owns_here","_law_ring_here","_law_k","_law_at"]
noncomputable abbrev zdG : List Str := ["_law_askers","_law_owns_here"]
theorem zb3 : FnScope zfH zdG (zab zep) := ⟨rfl,rfl,rfl,by decide +kernel,rfl,by decide +kernel,by decide +kernel⟩
noncomputable abbrev zd8 : FS :=
  (seqF (mutF "list" q105 2 (zac (mkT (zac (f2 (gv 0) (gv 3) ixA) (zac (f2 (gv 1) (f2 (gv 0) (f2 (f2 (gv 3) (ci 1) addA) (fC (zac (gv 0) lNil) lenD) modI) ixA) ixA) lNil))) lNil) appD) zak)
noncomputable def zcC : FS :=
  (seqF (setF [.bw,.bw,.sh,.sh,.sh] 2 (mkL lNil)) (seqF (zcN q105 (fRng rng1 (zac (fC (zac (gv 0) lNil) lenD) lNil)) (ftN 3) zd8) (seqF (setF q105 4 (fM "list" (gv 2) (zac (fC (zac (gv 2) lNil) zks) lNil) zfq)) (seqF (retF q105 (fC (zac (f2 (fSlA (gv 2) (zeR (gv 4)) (fun _ => Res.ok none)) (fSlA (gv 2) (fun _ => Res.ok none) (zeR (gv 4))) addE) lNil) tupD)) zak))))
noncomputable def zcw : List D→Res D := fun ds => outR false (zcC (zap zfH.length ds))
theorem zmT {P : Program} {w : World} {K : PySem.W.Frag} {mg : Str→Option Value} {base : Heap} (T : Txt K mg) (A : DefAt K mg "_law_ring" zep) : Callee P w K mg base "_law_ring" zdG [] 1 false q0 zcw := by
  refine zaQ (k := 0) (fs := zcC) (m' := q105) A zb3 rfl (fun _ _ _ _ _ _ us hl => by obtain ⟨u0,u1,rfl⟩ := zd1 us hl; kernel_rfl) fun f cdv A outer s H g E hr => ?_
  have hu1 := zbc hr
  have hu64 := hr.units
  exact (zaa (zbR 2 zb3.nd (by rfl) (by first | exact Or.inl rfl | exact Or.inr rfl) (zee zaL))
      (zaa (zhN PassesOwn.never rfl (zd3 (by rfl) T.b_range (zas (SE.toB (zcM (by rfl) T.b_len (zas (vb_ 0) zaJ))) zaJ)) (zaI 3 zb3.nd (by rfl) (by first | exact Or.inl rfl | exact Or.inr rfl)) (zaa (zcT 2 rfl PySem.F.plainAttrs_list PySem.F.slot_list_append PySem.F.type_list_append zaH zce (by rfl) (by first | exact Or.inl rfl | exact Or.inr (Or.inl rfl) | exact Or.inr (Or.inr rfl)) (zaq (zec (zaq (za1 hu1 (vb_ 0) (vb_ 3)) (zaq (za1 hu1 (vb_ 1) (SE.toB (za1 hu1 (vb_ 0) (SE.toB (zeO (SE.toB (zcJ (vb_ 3) (SE.toB zar))) (SE.toB (zcM (by rfl) T.b_len (zas (vb_ 0) zaJ)))))))) zaL))) zaL))
      zag))
      (zaa (zaZ 4 zb3.nd (by rfl) (by first | exact Or.inl rfl | exact Or.inr rfl) (s_bm PySem.F.plainAttrs_list PySem.F.slot_list_index PySem.F.type_list_index (zkp hu64) zkM (vb_ 2) (zas (SE.toB (zo0 rfl hu64 (by rfl) T.b_min (zas (vb_ 2) zaJ))) zaJ)))
      (zaa (zaK (ze8 (by rfl) T.b_tuple (zas (SE.toB (zjH (SE.toB (zoV (vb_ 2) (zdY (vb_ 4)) zdZ)) (SE.toB (zoV (vb_ 2) zdZ (zdY (vb_ 4)))))) zaJ)))
      zag))))
noncomputable abbrev ze7 : Stmt := top 33
noncomputable abbrev zgh : List Str := ["_law_wishes_here","_law_owns_here","_law_line_here","_law_things","_law_askers","_law_due_here","_law_hand","_law_thing","_law_owner_here","_law_pairs","_law_one","_law_got"]
noncomputable abbrev zem : List Str := ["_law_wishes_here","_law_owns_here","_law_line_here"]
theorem zaE : FnScope zgh zem (zab ze7) := ⟨rfl,rfl,rfl,by decide +kernel,rfl,by decide +kernel,by decide +kernel⟩
noncomputable abbrev zc3 : FQ :=
  (zav (f2 (fC (zac (gv 2) lNil) lenD) (ci 0) gtI))
noncomputable abbrev zeH : FS :=
  (seqF (mutF "list" q101 2 (zac (gv 10) lNil) remD) (seqF (mutF "list" q101 4 (zac (gv 10) lNil) remD) (seqF (mutF "list" q101 3 (zac (gv 11) lNil) remD) zak)))
noncomputable abbrev zdb : FS :=
  (seqF (ifF q101 (zav (f2 (fC (zac (gv 4) lNil) lenD) (ci 0) eqD)) (seqF (mutF "list" q101 4 (zac (f2 (gv 2) (ci 0) ixA) lNil) appD) zak) zak) (seqF (setF q101 6 (f2 (gv 4) (f1 (ci 1) negI) ixA)) (seqF (setF q101 7 (zaz (zac (f2 (gv 0) (gv 6) ixA) (zac (gv 3) lNil)) [] zbZ)) (seqF (setF q101 8 (zaz (zac (gv 1) (zac (gv 2) (zac (gv 7) lNil))) [] zbC)) (seqF (ifF q101 (fAnd (zav (f2 (gv 8) (fun _ => Res.ok D.non) isnD)) (zav (f2 (gv 8) (gv 4) ninD))) (seqF (mutF "list" q101 4 (zac (gv 8) lNil) appD) (seqF (mutF "list" q101 5 (zac (mkT (zac (fun _ => Res.ok (D.str "ahead")) (zac (gv 8) (zac (gv 7) lNil)))) lNil) appD) (seqF (fun r => Out.ct r) zak))) zak) (seqF (setF q101 9 (mkT (zac (mkT (zac (gv 6) (zac (gv 7) lNil))) lNil))) (seqF (ifF q101 (fOr (zav (f2 (gv 8) (fun _ => Res.ok D.non) isD)) (zav (f2 (gv 8) (gv 6) eqD))) (seqF (mutF "list" q101 5 (zac (mkT (zac (fun _ => Res.ok (D.str "takes")) (zac (gv 6) (zac (gv 7) lNil)))) lNil) appD) zak) (seqF (setF q101 9 (zaz (zac (fSl (gv 4) (zeR (fM "list" (gv 4) (zac (gv 8) lNil) zeh)) (fun _ => Res.ok none)) (zac (gv 1) lNil)) [] zcw)) (seqF (mutF "list" q101 5 (zac (mkT (zac (fun _ => Res.ok (D.str "ring")) (zac (gv 9) lNil))) lNil) appD) zak))) (seqF (zcN q101 (fSeq zbA (gv 9)) (ftT (zbg (ftN 10) (zbg (ftN 11) zfX))) zeH) zak))))))))
noncomputable def zdo : FS :=
  (seqF (setF [.sh,.sh,.ow,.sh,.sh,.sh,.sh,.sh,.sh,.sh,.sh,.sh] 3 (fC (zac (fC (zac (f2 (gv 0) (ci 0) ixA) lNil) lenD) lNil) zhk)) (seqF (setF [.sh,.sh,.ow,.ow,.sh,.sh,.sh,.sh,.sh,.sh,.sh,.sh] 4 (mkL lNil)) (seqF (setF q116 5 (mkL lNil)) (seqF (zbn q101 zc3 zdb 64) (seqF (retF q116 (gv 5)) zak)))))
noncomputable def zch : List D→Res D := fun ds => outR false (zdo (zap zgh.length ds))
theorem znT {P : Program} {w : World} {K : PySem.W.Frag} {mg : Str→Option Value} {base : Heap} (T : Txt K mg) (A : DefAt K mg "_law_due" ze7) (c__law_best : Callee P w K mg base "_law_best" zdK [] 1 false q0 zbZ) (c__law_owner : Callee P w K mg base "_law_owner" zc8 [] 1 false [.bw,.bw,.bw] zbC) (c__law_ring : Callee P w K mg base "_law_ring" zdG [] 1 false q0 zcw) : CalleeV P w K mg base "_law_due" zem 2 false [.sh,.sh] zch := by
  refine znY (k := 1) (fs := zdo) (m' := q116) A zaE rfl (by decide) (fun _ _ _ _ _ _ us hl => by obtain ⟨u0,u1,u2,rfl⟩ := zky us hl; kernel_rfl) fun f cdv A outer s H g E hr => ?_
  have hu1 := zbc hr
  have hu64 := hr.units
  exact (zaa (zbR 3 zaE.nd (by rfl) (by first | exact Or.inl rfl | exact Or.inr rfl) (zff rfl (by rfl) T.b_list (by rfl) T.b_range (zas (SE.toB (zcM (by rfl) T.b_len (zas (SE.toB (za1 hu1 (vb_ 0) (SE.toB zar))) zaJ))) zaJ)))
      (zaa (zbR 4 zaE.nd (by rfl) (by first | exact Or.inl rfl | exact Or.inr rfl) (zee zaL))
      (zaa (zbR 5 zaE.nd (by rfl) (by first | exact Or.inl rfl | exact Or.inr rfl) (zee zaL))
      (zaa (zhK 64 PassesOwn.never (q_gt (SE.toB (zcM (by rfl) T.b_len (zas (vb_ 2) zaJ))) (SE.toB zar)) (zaa (s_if (q_eq hu64 (SE.toB (zcM (by rfl) T.b_len (zas (vb_ 4) zaJ))) (SE.toB zar)) (zaa (zcT 4 rfl PySem.F.plainAttrs_list PySem.F.slot_list_append PySem.F.type_list_append zaH zce (by rfl) (by first | exact Or.inl rfl | exact Or.inr (Or.inl rfl) | exact Or.inr (Or.inr rfl)) (zaq (za1 hu1 (vb_ 2) (SE.toB zar)) zaL))
      zag)
      zag)
      (zaa (zaZ 6 zaE.nd (by rfl) (by first | exact Or.inl rfl | exact Or.inr rfl) (za1 hu1 (vb_ 4) (SE.toB (zoY (SE.toB zar)))))
      (zaa (zaZ 7 zaE.nd (by rfl) (by first | exact Or.inl rfl | exact Or.inr rfl) (zaC (dds := []) c__law_best (hr.mono (by decide)) (m_bw (SE.toB (za1 hu1 (vb_ 0) (vb_ 6))) (m_bw (vb_ 3) zaN))))
      (zaa (zaZ 8 zaE.nd (by rfl) (by first | exact Or.inl rfl | exact Or.inr rfl) (zaC (dds := []) c__law_owner (hr.mono (by decide)) (m_bw (vb_ 1) (m_bw (vb_ 2) (m_bw (vb_ 7) zaN)))))
      (zaa (s_if (SW.toQ (zpg (zpf (vb_ 8) (SE.toB zed)) (zmI (zhc hu1 (vb_ 8) (vb_ 4))))) (zaa (zcT 4 rfl PySem.F.plainAttrs_list PySem.F.slot_list_append PySem.F.type_list_append zaH zce (by rfl) (by first | exact Or.inl rfl | exact Or.inr (Or.inl rfl) | exact Or.inr (Or.inr rfl)) (zaq (v_ 8) zaL))
      (zaa (zcT 5 rfl PySem.F.plainAttrs_list PySem.F.slot_list_append PySem.F.type_list_append zaH zce (by rfl) (by first | exact Or.inl rfl | exact Or.inr (Or.inl rfl) | exact Or.inr (Or.inr rfl)) (zaq (zec (zaq zeN (zaq (v_ 8) (zaq (v_ 7) zaL)))) zaL))
      (zaa zo3
      zag)))
      zag)
      (zaa (zaZ 9 zaE.nd (by rfl) (by first | exact Or.inl rfl | exact Or.inr rfl) (zec (zaq (zec (zaq (v_ 6) (zaq (v_ 7) zaL))) zaL)))
      (zaa (s_if (SW.toQ (q_or (q_is (vb_ 8) (SE.toB zed)) (zgw (q_eq hu64 (vb_ 8) (vb_ 6))))) (zaa (zcT 5 rfl PySem.F.plainAttrs_list PySem.F.slot_list_append PySem.F.type_list_append zaH zce (by rfl) (by first | exact Or.inl rfl | exact Or.inr (Or.inl rfl) | exact Or.inr (Or.inr rfl)) (zaq (zec (zaq zeN (zaq (v_ 6) (zaq (v_ 7) zaL)))) zaL))
      zag)
      (zaa (zaZ 9 zaE.nd (by rfl) (by first | exact Or.inl rfl | exact Or.inr rfl) (zaC (dds := []) c__law_ring (hr.mono (by decide)) (m_bw (SE.toB (zhL (vb_ 4) (zdY (SE.toB (s_bm PySem.F.plainAttrs_list PySem.F.slot_list_index PySem.F.type_list_index zfh zfp (vb_ 4) (zas (vb_ 8) zaJ)))) zdZ)) (m_bw (vb_ 1) zaN))))
      (zaa (zcT 5 rfl PySem.F.plainAttrs_list PySem.F.slot_list_append PySem.F.type_list_append zaH zce (by rfl) (by first | exact Or.inl rfl | exact Or.inr (Or.inl rfl) | exact Or.inr (Or.inr rfl)) (zaq (zec (zaq zeN (zaq (v_ 9) zaL))) zaL))
      zag)))
      (zaa (zhN PassesOwn.never rfl (zoa (v_ 9)) (zkS rfl (zcX (zaI 10 zaE.nd (by rfl) (by first | exact Or.inl rfl | exact Or.inr rfl)) (zcX (zaI 11 zaE.nd (by rfl) (by first | exact Or.inl rfl | exact Or.inr rfl)) zkT))) (zaa (zcT 2 rfl PySem.F.plainAttrs_list PySem.F.slot_list_remove PySem.F.type_list_remove zfg zjS (by rfl) (by first | exact Or.inl rfl | exact Or.inr (Or.inl rfl) | exact Or.inr (Or.inr rfl)) (zaq (v_ 10) zaL))
      (zaa (zcT 4 rfl PySem.F.plainAttrs_list PySem.F.slot_list_remove PySem.F.type_list_remove zfg zjS (by rfl) (by first | exact Or.inl rfl | exact Or.inr (Or.inl rfl) | exact Or.inr (Or.inr rfl)) (zaq (v_ 10) zaL))
      (zaa (zcT 3 rfl PySem.F.plainAttrs_list PySem.F.slot_list_remove PySem.F.type_list_remove zfg zjS (by rfl) (by first | exact Or.inl rfl | exact Or.inr (Or.inl rfl) | exact Or.inr (Or.inr rfl)) (zaq (v_ 11) zaL))
      zag))))
      zag)))))))))
      (zaa (zo2 5 rfl (zaK (v_ 5)))
      zag)))))
noncomputable abbrev zer : Stmt := top 29
noncomputable abbrev zfJ : List Str := ["_law_order","_law_n"]
noncomputable abbrev zdI : List Str := ["_law_order","_law_n"]
theorem zgZ : FnScope zfJ zdI (zab zer) := ⟨rfl,rfl,rfl,by decide +kernel,rfl,by decide +kernel,by decide +kernel⟩
noncomputable def zcE : FS :=
  (seqF (ifF q0 (zav (f2 (gv 0) (fun _ => Res.ok D.non) isD)) (seqF (retF q0 (fC (zac (gv 1) lNil) zhk)) zak) zak) (seqF (retF q0 (fC (zac (gv 0) lNil) zgA)) zak))
noncomputable def zcy : List D→Res D := fun ds => outR true (zcE (zap zfJ.length ds))
theorem zmV {P : Program} {w : World} {K : PySem.W.Frag} {mg : Str→Option Value} {base : Heap} (T : Txt K mg) (A : DefAt K mg "_law_line" zer) : Callee P w K mg base "_law_line" zdI [] 1 true q0 zcy := by
  refine zaQ (k := 0) (fs := zcE) (m' := q0) A zgZ rfl (fun _ _ _ _ _ _ us hl => by obtain ⟨u0,u1,rfl⟩ := zd1 us hl; kernel_rfl) fun f cdv A outer s H g E hr => ?_
  have hu1 := zbc hr
  have hu64 := hr.units
  exact (zaa (s_if (q_is (vb_ 0) (SE.toB zed)) (zaa (zmE (zff rfl (by rfl) T.b_list (by rfl) T.b_range (zas (vb_ 1) zaJ)))
      zag)
      zag)
      (zaa (zmE (ziq (by rfl) T.b_list (zas (vb_ 0) zaJ)))
      zag))
noncomputable abbrev ze4 : Stmt := top 4
noncomputable abbrev zge : List Str := ["value"]
noncomputable abbrev zek : List Str := ["value"]
theorem zhI : FnScope zge zek (zab ze4) := ⟨rfl,rfl,rfl,by decide +kernel,rfl,by decide +kernel,by decide +kernel⟩
noncomputable def zgk : FS :=
  (seqF (retF [Md.bw] (vAnd (f1 (gv 0) (isiD "int")) (vNot (f1 (gv 0) (isiD "bool"))))) zak)
noncomputable def zdk : List D→Res D := fun ds => outR false (zgk (zap zge.length ds))
theorem znQ {P : Program} {w : World} {K : PySem.W.Frag} {mg : Str→Option Value} {base : Heap} (T : Txt K mg) (A : DefAt K mg "is_whole" ze4) : Callee P w K mg base "is_whole" zek [] 1 false [Md.bw] zdk := by
  refine zaQ (k := 0) (fs := zgk) (m' := [Md.bw]) A zhI rfl (fun _ _ _ _ _ _ us hl => by obtain ⟨u0,rfl⟩ := zhl us hl; kernel_rfl) fun f cdv A outer s H g E hr => ?_
  have hu1 := zbc hr
  have hu64 := hr.units
  exact (zaa (zaK (ziS (zgs "int" "int" rfl (zkA _) (by rfl) T.b_isinstance (by rfl) T.b_int (vb_ 0)) (ziR (zoX (zgs "bool" "bool" rfl (ziy _) (by rfl) T.b_isinstance (by rfl) T.b_bool (vb_ 0))))))
      zag)
noncomputable abbrev ze5 : Stmt := top 5
noncomputable abbrev zgf : List Str := ["value","bound"]
noncomputable abbrev zel : List Str := ["value","bound"]
theorem zhJ : FnScope zgf zel (zab ze5) := ⟨rfl,rfl,rfl,by decide +kernel,rfl,by decide +kernel,by decide +kernel⟩
noncomputable def zdm : FS :=
  (seqF (retF q0 (vAnd (zaz (zac (gv 0) lNil) [] zdk) (zhr (ci 0) (gv 0) (gv 1) leI ltI))) zak)
noncomputable def zcg : List D→Res D := fun ds => outR false (zdm (zap zgf.length ds))
theorem znR {P : Program} {w : World} {K : PySem.W.Frag} {mg : Str→Option Value} {base : Heap} (T : Txt K mg) (A : DefAt K mg "is_below" ze5) (c_is_whole : Callee P w K mg base "is_whole" zek [] 1 false [Md.bw] zdk) : Callee P w K mg base "is_below" zel [] 2 false q0 zcg := by
  refine zaQ (k := 1) (fs := zdm) (m' := q0) A zhJ rfl (fun _ _ _ _ _ _ us hl => by obtain ⟨u0,u1,rfl⟩ := zd1 us hl; kernel_rfl) fun f cdv A outer s H g E hr => ?_
  have hu1 := zbc hr
  have hu64 := hr.units
  exact (zaa (zaK (ziS (zaC (dds := []) c_is_whole (hr.mono (by decide)) (m_bw (vb_ 0) zaN)) (ziR (zlx zq7 zpB zra zq9 (SE.toB zar) (vb_ 0) (vb_ 1)))))
      zag)
noncomputable abbrev zdr : Stmt := top 6
noncomputable abbrev zd7 : List Str := ["numbers","bound","ahead","place","number"]
noncomputable abbrev zcr : List Str := ["numbers","bound"]
theorem zbv : FnScope zd7 zcr (zab zdr) := ⟨rfl,rfl,rfl,by decide +kernel,rfl,by decide +kernel,by decide +kernel⟩
noncomputable abbrev zbX : FS :=
  (seqF (ifF q105 (fOr (fNot (fTru (zaz (zac (gv 4) (zac (gv 1) lNil)) [] zcg))) (zav (f2 (gv 4) (gv 2) inD))) (seqF (retF q105 (gv 3)) zak) zak) (seqF (putF q105 2 (gv 4) (fun _ => Res.ok (D.bl true))) zak))
noncomputable def zbO : FS :=
  (seqF (setF [.bw,.bw,.sh,.sh,.sh] 2 (fun _ => Res.ok (D.dic []))) (seqF (zcN q105 (fEnu (gv 0)) (ftT (zbg (ftN 3) (zbg (ftN 4) zfX))) zbX) (seqF (retF q105 (fC (zac (gv 0) lNil) lenD)) zak)))
noncomputable def zbL : List D→Res D := fun ds => outR false (zbO (zap zd7.length ds))
theorem zlo {P : Program} {w : World} {K : PySem.W.Frag} {mg : Str→Option Value} {base : Heap} (T : Txt K mg) (A : DefAt K mg "first_wrong" zdr) (c_is_below : Callee P w K mg base "is_below" zel [] 2 false q0 zcg) : Callee P w K mg base "first_wrong" zcr [] 3 false q0 zbL := by
  refine zaQ (k := 2) (fs := zbO) (m' := q105) A zbv rfl (fun _ _ _ _ _ _ us hl => by obtain ⟨u0,u1,rfl⟩ := zd1 us hl; kernel_rfl) fun f cdv A outer s H g E hr => ?_
  have hu1 := zbc hr
  have hu64 := hr.units
  exact (zaa (zbR 2 zbv.nd (by rfl) (by first | exact Or.inl rfl | exact Or.inr rfl) zm0)
      (zaa (zmF PassesOwn.never rfl (zob (by rfl) T.b_enumerate (vw_ 0)) (zkS rfl (zcX (zaI 3 zbv.nd (by rfl) (by first | exact Or.inl rfl | exact Or.inr rfl)) (zcX (zaI 4 zbv.nd (by rfl) (by first | exact Or.inl rfl | exact Or.inr rfl)) zkT))) (zaa (s_if (SW.toQ (q_or (zeP (zdV (SE.toB (zaC (dds := []) c_is_below (hr.mono (by decide)) (m_bw (vb_ 4) (m_bw (vb_ 1) zaN)))))) (zgw (q_in hu1 (vb_ 4) (vb_ 2))))) (zaa (zaK (v_ 3))
      zag)
      zag)
      (zaa (zoW 2 hu1 rfl (by rfl) (by first | exact Or.inl rfl | exact Or.inr (Or.inl rfl) | exact Or.inr (Or.inr rfl)) (vb_ 4) s_bl)
      zag)))
      (zaa (zaK (zcM (by rfl) T.b_len (zas (vb_ 0) zaJ)))
      zag)))
noncomputable abbrev zdO : Stmt := top 7
noncomputable abbrev zeC : List Str := ["numbers","bound"]
noncomputable abbrev zc5 : List Str := ["numbers","bound"]
theorem zgq : FnScope zeC zc5 (zab zdO) := ⟨rfl,rfl,rfl,by decide +kernel,rfl,by decide +kernel,by decide +kernel⟩
noncomputable def zb9 : FS :=
  (seqF (retF q0 (f2 (zaz (zac (gv 0) (zac (gv 1) lNil)) [] zbL) (fC (zac (gv 0) lNil) lenD) eqD)) zak)
noncomputable def zb6 : List D→Res D := fun ds => outR false (zb9 (zap zeC.length ds))
theorem zlS {P : Program} {w : World} {K : PySem.W.Frag} {mg : Str→Option Value} {base : Heap} (T : Txt K mg) (A : DefAt K mg "are_unlike" zdO) (c_first_wrong : Callee P w K mg base "first_wrong" zcr [] 3 false q0 zbL) : Callee P w K mg base "are_unlike" zc5 [] 4 false q0 zb6 := by
  refine zaQ (k := 3) (fs := zb9) (m' := q0) A zgq rfl (fun _ _ _ _ _ _ us hl => by obtain ⟨u0,u1,rfl⟩ := zd1 us hl; kernel_rfl) fun f cdv A outer s H g E hr => ?_
  have hu1 := zbc hr
  have hu64 := hr.units
  exact (zaa (zaK (s_eq hu64 (SE.toB (zaC (dds := []) c_first_wrong (hr.mono (by decide)) (m_bw (vb_ 0) (m_bw (vb_ 1) zaN)))) (SE.toB (zcM (by rfl) T.b_len (zas (vb_ 0) zaJ)))))
      zag)
noncomputable abbrev zcH : Stmt := top 8
noncomputable abbrev zc9 : List Str := ["numbers","bound"]
noncomputable abbrev zbV : List Str := ["numbers","bound"]
theorem zeL : FnScope zc9 zbV (zab zcH) := ⟨rfl,rfl,rfl,by decide +kernel,rfl,by decide +kernel,by decide +kernel⟩
noncomputable def zbl : FS :=
  (seqF (retF q0 (vAnd (f2 (fC (zac (gv 0) lNil) lenD) (gv 1) eqD) (zaz (zac (gv 0) (zac (gv 1) lNil)) [] zb6))) zak)
noncomputable def zbj : List D→Res D := fun ds => outR false (zbl (zap zc9.length ds))
theorem zjn {P : Program} {w : World} {K : PySem.W.Frag} {mg : Str→Option Value} {base : Heap} (T : Txt K mg) (A : DefAt K mg "has_each_once" zcH) (c_are_unlike : Callee P w K mg base "are_unlike" zc5 [] 4 false q0 zb6) : Callee P w K mg base "has_each_once" zbV [] 5 false q0 zbj := by
  refine zaQ (k := 4) (fs := zbl) (m' := q0) A zeL rfl (fun _ _ _ _ _ _ us hl => by obtain ⟨u0,u1,rfl⟩ := zd1 us hl; kernel_rfl) fun f cdv A outer s H g E hr => ?_
  have hu1 := zbc hr
  have hu64 := hr.units
  exact (zaa (zaK (ziS (s_eq hu64 (SE.toB (zcM (by rfl) T.b_len (zas (vb_ 0) zaJ))) (vb_ 1)) (ziR (zaC (dds := []) c_are_unlike (hr.mono (by decide)) (m_bw (vb_ 0) (m_bw (vb_ 1) zaN))))))
      zag)
noncomputable abbrev ze3 : Stmt := top 10
noncomputable abbrev zgd : List Str := ["wishes","order"]
noncomputable abbrev zdi : List Str := ["wishes","order"]
theorem zhH : FnScope zgd zdi (zab ze3) := ⟨rfl,rfl,rfl,by decide +kernel,rfl,by decide +kernel,by decide +kernel⟩
noncomputable def zbQ : FS :=
  (seqF (ifF q0 (zav (f2 (gv 1) (fun _ => Res.ok D.non) isD)) (seqF (retF q0 (fC (zac (fC (zac (gv 0) lNil) lenD) lNil) zhk)) zak) zak) (seqF (ifF q0 (fNot (fTru (zaz (zac (gv 1) (zac (fC (zac (gv 0) lNil) lenD) lNil)) [] zbj))) (seqF (fun _ => Out.stuck) zak) zak) (seqF (retF q0 (fC (zac (gv 1) lNil) zgA)) zak)))
noncomputable def zbr : List D→Res D := fun ds => outR false (zbQ (zap zgd.length ds))
theorem znP {P : Program} {w : World} {K : PySem.W.Frag} {mg : Str→Option Value} {base : Heap} (T : Txt K mg) (A : DefAtD K mg "order_of" ze3 [Value.none]) (c_has_each_once : Callee P w K mg base "has_each_once" zbV [] 5 false q0 zbj) : Callee P w K mg base "order_of" zdi [] 6 false q0 zbr := by
  refine zhW (ds := []) (k := 5) (fs := zbQ) (m' := q0) A zhH rfl 2 rfl (fun _ _ _ _ _ _ _ us hl => by obtain ⟨u0,u1,rfl⟩ := zd1 us hl; exact ⟨_,rfl,rfl⟩) fun f cdv A outer s H g E hr => ?_
  have hu1 := zbc hr
  have hu64 := hr.units
  exact (zaa (s_if (q_is (vb_ 1) (SE.toB zed)) (zaa (zaK (SO.toE (zff rfl (by rfl) T.b_list (by rfl) T.b_range (zas (SE.toB (zcM (by rfl) T.b_len (zas (vb_ 0) zaJ))) zaJ))))
      zag)
      zag)
      (zaa (s_if (zeP (zdV (SE.toB (zaC (dds := []) c_has_each_once (hr.mono (by decide)) (m_bw (vb_ 1) (m_bw (SE.toB (zcM (by rfl) T.b_len (zas (vb_ 0) zaJ))) zaN)))))) (zaa znq
      zag)
      zag)
      (zaa (zaK (SO.toE (ziq (by rfl) T.b_list (zas (vb_ 1) zaJ))))
      zag)))
noncomputable abbrev zb1 : Stmt := top 12
noncomputable abbrev zcu : List Str := ["row","things"]
noncomputable abbrev zdF : List Str := ["row","things"]
theorem zev : FnScope zcu zdF (zab zb1) := ⟨rfl,rfl,rfl,by decide +kernel,rfl,by decide +kernel,by decide +kernel⟩
noncomputable def zcB : FS :=
  (seqF (retF q0 (f2 (zd4 1 [1] (fSeq zbA (gv 0)) (ftN 0) (zav (f2 (gv 0) (gv 1) inD)) (gv 0)) (ci 0) ixA)) zak)
noncomputable def zbs : List D→Res D := fun ds => outR false (zcB (zap zcu.length ds))
theorem zmS {P : Program} {w : World} {K : PySem.W.Frag} {mg : Str→Option Value} {base : Heap} (T : Txt K mg) (A : DefAt K mg "best_left" zb1) : Callee P w K mg base "best_left" zdF [] 1 false q0 zbs := by
  refine zaQ (k := 0) (fs := zcB) (m' := q0) A zev rfl (fun _ _ _ _ _ _ us hl => by obtain ⟨u0,u1,rfl⟩ := zd1 us hl; kernel_rfl) fun f cdv A outer s H g E hr => ?_
  have hu1 := zbc hr
  have hu64 := hr.units
  exact (zaa (zaK (za1 hu1 (SO.toB (zir (X := (cxOf CX0 P w K mg base zcu "best_left" (zab zb1) f cdv A outer s H E).nox) (N' := ["thing","things"]) (nl := 1) (cap := [1]) zev.nd rfl (za5 (osc := (zab zb1)) (ON := zcu) rfl rfl (by decide +kernel)) (zcW (vb_ 0)) (fun _ _ _ _ _ _ => (zaI 0 (show List.Nodup (["thing","things"] : List Str) by decide +kernel) (by rfl) (by first | exact Or.inl rfl | exact Or.inr rfl))) (zcY (by decide)) (fun _ _ _ _ _ _ => (zfc (q_in hu1 (vb_ 0) (vb_ 1)))) (fun _ _ _ _ _ _ => (v_ 0)))) (SE.toB zar)))
      zag)
noncomputable abbrev zdN : Stmt := top 13
noncomputable abbrev zeB : List Str := ["owns","line","thing","hand"]
noncomputable abbrev zc4 : List Str := ["owns","line","thing"]
theorem zdT : FnScope zeB zc4 (zab zdN) := ⟨rfl,rfl,rfl,by decide +kernel,rfl,by decide +kernel,by decide +kernel⟩
noncomputable abbrev za6 : FS :=
  (seqF (ifF q108 (zav (f2 (f2 (gv 0) (gv 3) ixA) (gv 2) eqD)) (seqF (retF q108 (gv 3)) zak) zak) zak)
noncomputable def zb8 : FS :=
  (seqF (zcN q108 (fSeq zbA (gv 1)) (ftN 3) za6) (seqF (retF q108 (fun _ => Res.ok D.non)) zak))
noncomputable def zbB : List D→Res D := fun ds => outR false (zb8 (zap zeB.length ds))
theorem zlR {P : Program} {w : World} {K : PySem.W.Frag} {mg : Str→Option Value} {base : Heap} (T : Txt K mg) (A : DefAt K mg "owner_left" zdN) : Callee P w K mg base "owner_left" zc4 [] 1 false [.bw,.bw,.bw] zbB := by
  refine zaQ (k := 0) (fs := zb8) (m' := q108) A zdT rfl (fun _ _ _ _ _ _ us hl => by obtain ⟨u0,u1,u2,rfl⟩ := zky us hl; kernel_rfl) fun f cdv A outer s H g E hr => ?_
  have hu1 := zbc hr
  have hu64 := hr.units
  exact (zaa (zjG PassesOwn.never rfl (zcW (vb_ 1)) (fun _ => (zaI 3 zdT.nd (by rfl) (by first | exact Or.inl rfl | exact Or.inr rfl))) (fun _ => (zaa (s_if (q_eq hu64 (SE.toB (za1 hu1 (vb_ 0) (vb_ 3))) (vb_ 2)) (zaa (zaK (v_ 3))
      zag)
      zag)
      zag)))
      (zaa (zaK zed)
      zag))
noncomputable abbrev zdq : Stmt := top 14
noncomputable abbrev zd6 : List Str := ["hands"]
noncomputable abbrev zcp : List Str := ["hands"]
theorem zfR : FnScope zd6 zcp (zab zdq) := ⟨rfl,rfl,rfl,by decide +kernel,rfl,by decide +kernel,by decide +kernel⟩
noncomputable def zbN : FS :=
  (seqF (retF [Md.bw] (f2 (fSl (gv 0) (zeR (ci 1)) (fun _ => Res.ok none)) (fSl (gv 0) (fun _ => Res.ok none) (zeR (ci 1))) addE)) zak)
noncomputable def zbK : List D→Res D := fun ds => outR false (zbN (zap zd6.length ds))
theorem zln {P : Program} {w : World} {K : PySem.W.Frag} {mg : Str→Option Value} {base : Heap} (T : Txt K mg) (A : DefAt K mg "ones_behind" zdq) : Callee P w K mg base "ones_behind" zcp [] 1 false [Md.bw] zbK := by
  refine zaQ (k := 0) (fs := zbN) (m' := [Md.bw]) A zfR rfl (fun _ _ _ _ _ _ us hl => by obtain ⟨u0,rfl⟩ := zhl us hl; kernel_rfl) fun f cdv A outer s H g E hr => ?_
  have hu1 := zbc hr
  have hu64 := hr.units
  exact (zaa (zaK (zjH (SE.toB (zhL (vb_ 0) (zdY (SE.toB zar)) zdZ)) (SE.toB (zhL (vb_ 0) zdZ (zdY (SE.toB zar))))))
      zag)
noncomputable abbrev zaX : Stmt := top 17
noncomputable abbrev za7 : List Str := ["owns","askers","turn","hands"]
noncomputable abbrev zbF : List Str := ["owns","askers"]
theorem zaY : FnScope za7 zbF (zab zaX) := ⟨rfl,rfl,rfl,by decide +kernel,rfl,by decide +kernel,by decide +kernel⟩
noncomputable def za9 : FS :=
  (seqF (setF q102 2 (fM "list" (gv 1) (zac (fC (zac (gv 1) lNil) zi7) lNil) zeh)) (seqF (setF q102 3 (f2 (fSl (gv 1) (zeR (gv 2)) (fun _ => Res.ok none)) (fSl (gv 1) (fun _ => Res.ok none) (zeR (gv 2))) addE)) (seqF (retF q102 (fC (zac (zd4 2 [0] (fZip (gv 3) (zaz (zac (gv 3) lNil) [] zbK)) (ftT (zbg (ftN 0) (zbg (ftN 1) zfX))) (fun _ => Res.ok true) (mkT (zac (gv 0) (zac (f2 (gv 2) (gv 1) ixA) lNil)))) lNil) tupD)) zak)))
noncomputable def za8 : List D→Res D := fun ds => outR false (za9 (zap za7.length ds))
theorem zi3 {P : Program} {w : World} {K : PySem.W.Frag} {mg : Str→Option Value} {base : Heap} (T : Txt K mg) (A : DefAt K mg "ring_of_askers" zaX) (c_ones_behind : Callee P w K mg base "ones_behind" zcp [] 1 false [Md.bw] zbK) : Callee P w K mg base "ring_of_askers" zbF [] 2 false q0 za8 := by
  refine zaQ (k := 1) (fs := za9) (m' := q102) A zaY rfl (fun _ _ _ _ _ _ us hl => by obtain ⟨u0,u1,rfl⟩ := zd1 us hl; kernel_rfl) fun f cdv A outer s H g E hr => ?_
  have hu1 := zbc hr
  have hu64 := hr.units
  exact (zaa (zaZ 2 zaY.nd (by rfl) (by first | exact Or.inl rfl | exact Or.inr rfl) (s_bm PySem.F.plainAttrs_list PySem.F.slot_list_index PySem.F.type_list_index zfh zfp (vb_ 1) (zas (SE.toB (zo1 rfl (by rfl) T.b_min (zas (vb_ 1) zaJ))) zaJ)))
      (zaa (zaZ 3 zaY.nd (by rfl) (by first | exact Or.inl rfl | exact Or.inr rfl) (zjH (SE.toB (zhL (vb_ 1) (zdY (vb_ 2)) zdZ)) (SE.toB (zhL (vb_ 1) zdZ (zdY (vb_ 2))))))
      (zaa (zaK (ze8 (by rfl) T.b_tuple (zas (SO.toB (zir (X := (cxOf CX0 P w K mg base za7 "ring_of_askers" (zab zaX) f cdv A outer s H E).nox) (N' := ["hand","behind","owns"]) (nl := 2) (cap := [0]) zaY.nd rfl (za5 (osc := (zab zaX)) (ON := za7) rfl rfl (by decide +kernel)) (SIt.toC (zrp (by rfl) T.b_zip (v_ 3) (zaC (dds := []) c_ones_behind (hr.mono (by decide)) (m_bw (vb_ 3) zaN)))) (fun _ _ _ _ _ _ => (zkS rfl (zcX (zaI 0 (show List.Nodup (["hand","behind","owns"] : List Str) by decide +kernel) (by rfl) (by first | exact Or.inl rfl | exact Or.inr rfl)) (zcX (zaI 1 (show List.Nodup (["hand","behind","owns"] : List Str) by decide +kernel) (by rfl) (by first | exact Or.inl rfl | exact Or.inr rfl)) zkT)))) (zqc (zhp (zcY (by decide)) (zhp (zcY (by decide)) zl4))) (fun _ _ _ _ _ _ => zjY) (fun _ _ _ _ _ _ => (zec (zaq (v_ 0) (zaq (za1 hu1 (vb_ 2) (vb_ 1)) zaL)))))) zaJ)))
      zag)))
noncomputable abbrev zeo : Stmt := top 18
noncomputable abbrev zfG : List Str := ["wishes","owns","line","things","askers","hand","thing","owner"]
noncomputable abbrev zcq : List Str := ["wishes","owns","line","things","askers"]
theorem zb2 : FnScope zfG zcq (zab zeo) := ⟨rfl,rfl,rfl,by decide +kernel,rfl,by decide +kernel,by decide +kernel⟩
noncomputable def zaW : FS :=
  (seqF (setF q104 5 (f2 (gv 4) (f1 (ci 1) negI) ixA)) (seqF (setF q104 6 (zaz (zac (f2 (gv 0) (gv 5) ixA) (zac (gv 3) lNil)) [] zbs)) (seqF (setF q104 7 (zaz (zac (gv 1) (zac (gv 2) (zac (gv 6) lNil))) [] zbB)) (seqF (ifF q104 (fOr (zav (f2 (gv 7) (fun _ => Res.ok D.non) isD)) (zav (f2 (gv 7) (gv 5) eqD))) (seqF (retF q104 (mkT (zac (fun _ => Res.ok (D.str "takes")) (zac (gv 5) (zac (gv 6) lNil))))) zak) zak) (seqF (ifF q104 (zav (f2 (gv 7) (gv 4) ninD)) (seqF (retF q104 (mkT (zac (fun _ => Res.ok (D.str "ahead")) (zac (gv 7) (zac (gv 6) lNil))))) zak) zak) (seqF (retF q104 (mkT (zac (fun _ => Res.ok (D.str "ring")) (zac (zaz (zac (gv 1) (zac (fSl (gv 4) (zeR (fM "list" (gv 4) (zac (gv 7) lNil) zeh)) (fun _ => Res.ok none)) lNil)) [] za8) lNil)))) zak))))))
noncomputable def zaG : List D→Res D := fun ds => outR false (zaW (zap zfG.length ds))
theorem zmR {P : Program} {w : World} {K : PySem.W.Frag} {mg : Str→Option Value} {base : Heap} (T : Txt K mg) (A : DefAt K mg "next_deed" zeo) (c_best_left : Callee P w K mg base "best_left" zdF [] 1 false q0 zbs) (c_owner_left : Callee P w K mg base "owner_left" zc4 [] 1 false [.bw,.bw,.bw] zbB) (c_ring_of_askers : Callee P w K mg base "ring_of_askers" zbF [] 2 false q0 za8) : Callee P w K mg base "next_deed" zcq [] 3 false q117 zaG := by
  refine zaQ (k := 2) (fs := zaW) (m' := q104) A zb2 rfl (fun _ _ _ _ _ _ us hl => by obtain ⟨u0,u1,u2,u3,u4,rfl⟩ := zrh us hl; kernel_rfl) fun f cdv A outer s H g E hr => ?_
  have hu1 := zbc hr
  have hu64 := hr.units
  exact (zaa (zaZ 5 zb2.nd (by rfl) (by first | exact Or.inl rfl | exact Or.inr rfl) (za1 hu1 (vb_ 4) (SE.toB (zoY (SE.toB zar)))))
      (zaa (zaZ 6 zb2.nd (by rfl) (by first | exact Or.inl rfl | exact Or.inr rfl) (zaC (dds := []) c_best_left (hr.mono (by decide)) (m_bw (SE.toB (za1 hu1 (vb_ 0) (vb_ 5))) (m_bw (vb_ 3) zaN))))
      (zaa (zaZ 7 zb2.nd (by rfl) (by first | exact Or.inl rfl | exact Or.inr rfl) (zaC (dds := []) c_owner_left (hr.mono (by decide)) (m_bw (vb_ 1) (m_bw (vb_ 2) (m_bw (vb_ 6) zaN)))))
      (zaa (s_if (SW.toQ (q_or (q_is (vb_ 7) (SE.toB zed)) (zgw (q_eq hu64 (vb_ 7) (vb_ 5))))) (zaa (zaK (zec (zaq zeN (zaq (v_ 5) (zaq (v_ 6) zaL)))))
      zag)
      zag)
      (zaa (s_if (zhc hu1 (vb_ 7) (vb_ 4)) (zaa (zaK (zec (zaq zeN (zaq (v_ 7) (zaq (v_ 6) zaL)))))
      zag)
      zag)
      (zaa (zaK (zec (zaq zeN (zaq (zaC (dds := []) c_ring_of_askers (hr.mono (by decide)) (m_bw (vb_ 1) (m_bw (SE.toB (zhL (vb_ 4) (zdY (SE.toB (s_bm PySem.F.plainAttrs_list PySem.F.slot_list_index PySem.F.type_list_index zfh zfp (vb_ 4) (zas (vb_ 7) zaJ)))) zdZ)) zaN))) zaL))))
      zag))))))
noncomputable abbrev zgV : Stmt := top 15
noncomputable abbrev ziK : List Str := ["rings","got","ring","hand","thing"]
noncomputable abbrev ze0 : List Str := ["rings"]
theorem zcS : FnScope ziK ze0 (zab zgV) := ⟨rfl,rfl,rfl,by decide +kernel,rfl,by decide +kernel,by decide +kernel⟩
noncomputable abbrev zgj : FS :=
  (seqF (putF q118 1 (gv 3) (gv 4)) zak)
noncomputable abbrev zgi : FS :=
  (seqF (zcN q118 (fSeq zbA (gv 2)) (ftT (zbg (ftN 3) (zbg (ftN 4) zfX))) zgj) zak)
noncomputable def ze1 : FS :=
  (seqF (setF q109 1 (fun _ => Res.ok (D.dic []))) (seqF (zcN q118 (fSeq zbA (gv 0)) (ftN 2) zgi) (seqF (retF q109 (gv 1)) zak)))
noncomputable def zea : List D→Res D := fun ds => outR false (ze1 (zap ziK.length ds))
theorem zpG {P : Program} {w : World} {K : PySem.W.Frag} {mg : Str→Option Value} {base : Heap} (T : Txt K mg) (A : DefAt K mg "got_in" zgV) : Callee P w K mg base "got_in" ze0 [] 1 false [Md.bw] zea := by
  refine zaQ (k := 0) (fs := ze1) (m' := q109) A zcS rfl (fun _ _ _ _ _ _ us hl => by obtain ⟨u0,rfl⟩ := zhl us hl; kernel_rfl) fun f cdv A outer s H g E hr => ?_
  have hu1 := zbc hr
  have hu64 := hr.units
  exact (zaa (zbR 1 zcS.nd (by rfl) (by first | exact Or.inl rfl | exact Or.inr rfl) zm0)
      (zaa (zmF PassesOwn.never rfl (zp3 (vw_ 0)) (zaI 2 zcS.nd (by rfl) (by first | exact Or.inl rfl | exact Or.inr rfl)) (zaa (zhN PassesOwn.never rfl (zoa (v_ 2)) (zkS rfl (zcX (zaI 3 zcS.nd (by rfl) (by first | exact Or.inl rfl | exact Or.inr rfl)) (zcX (zaI 4 zcS.nd (by rfl) (by first | exact Or.inl rfl | exact Or.inr rfl)) zkT))) (zaa (zoW 1 hu1 rfl (by rfl) (by first | exact Or.inl rfl | exact Or.inr (Or.inl rfl) | exact Or.inr (Or.inr rfl)) (vb_ 3) (v_ 4))
      zag))
      zag))
      (zaa (zo2 1 rfl (zaK (v_ 1)))
      zag)))
noncomputable abbrev zen : Stmt := top 9
noncomputable abbrev zfF : List Str := ["wishes"]
noncomputable abbrev zco : List Str := ["wishes"]
theorem zgY : FnScope zfF zco (zab zen) := ⟨rfl,rfl,rfl,by decide +kernel,rfl,by decide +kernel,by decide +kernel⟩
noncomputable def zcA : FS :=
  (seqF (retF [Md.bw] (fC (zac (f2 (gv 0) (ci 0) ixA) lNil) lenD)) zak)
noncomputable def zbY : List D→Res D := fun ds => outR false (zcA (zap zfF.length ds))
theorem zmQ {P : Program} {w : World} {K : PySem.W.Frag} {mg : Str→Option Value} {base : Heap} (T : Txt K mg) (A : DefAt K mg "things_in" zen) : Callee P w K mg base "things_in" zco [] 1 false [Md.bw] zbY := by
  refine zaQ (k := 0) (fs := zcA) (m' := [Md.bw]) A zgY rfl (fun _ _ _ _ _ _ us hl => by obtain ⟨u0,rfl⟩ := zhl us hl; kernel_rfl) fun f cdv A outer s H g E hr => ?_
  have hu1 := zbc hr
  have hu64 := hr.units
  exact (zaa (zaK (zcM (by rfl) T.b_len (zas (SE.toB (za1 hu1 (vb_ 0) (SE.toB zar))) zaJ)))
      zag)
noncomputable abbrev ze2 : Stmt := top 19
noncomputable abbrev zgc : List Str := ["deed"]
noncomputable abbrev zdh : List Str := ["deed"]
theorem zhG : FnScope zgc zdh (zab ze2) := ⟨rfl,rfl,rfl,by decide +kernel,rfl,by decide +kernel,by decide +kernel⟩
noncomputable def zdl : FS :=
  (seqF (ifF [Md.bw] (zav (f2 (f2 (gv 0) (ci 0) ixA) (fun _ => Res.ok (D.str "ahead")) eqD)) (seqF (retF [Md.bw] (mkT lNil)) zak) zak) (seqF (retF [Md.bw] (fIf (zav (f2 (f2 (gv 0) (ci 0) ixA) (fun _ => Res.ok (D.str "ring")) eqD)) (f2 (gv 0) (ci 1) ixA) (mkT (zac (fSl (gv 0) (zeR (ci 1)) (fun _ => Res.ok none)) lNil)))) zak))
noncomputable def zcf : List D→Res D := fun ds => outR false (zdl (zap zgc.length ds))
theorem znO {P : Program} {w : World} {K : PySem.W.Frag} {mg : Str→Option Value} {base : Heap} (T : Txt K mg) (A : DefAt K mg "pairs_of" ze2) : Callee P w K mg base "pairs_of" zdh [] 1 false [Md.bw] zcf := by
  refine zaQ (k := 0) (fs := zdl) (m' := [Md.bw]) A zhG rfl (fun _ _ _ _ _ _ us hl => by obtain ⟨u0,rfl⟩ := zhl us hl; kernel_rfl) fun f cdv A outer s H g E hr => ?_
  have hu1 := zbc hr
  have hu64 := hr.units
  exact (zaa (s_if (q_eq hu64 (SE.toB (za1 hu1 (vb_ 0) (SE.toB zar))) (SE.toB zeN)) (zaa (zaK (zec zaL))
      zag)
      zag)
      (zaa (zaK (zqT (q_eq hu64 (SE.toB (za1 hu1 (vb_ 0) (SE.toB zar))) (SE.toB zeN)) (za1 hu1 (vb_ 0) (SE.toB zar)) (zec (zaq (zhL (vb_ 0) (zdY (SE.toB zar)) zdZ) zaL))))
      zag))
noncomputable abbrev zaO : Stmt := top 20
noncomputable abbrev zbh : List Str := ["wishes","owns","order","line","things","askers","told","deed","got","taken"]
noncomputable abbrev zfE : List Str := ["wishes","owns","order"]
theorem zaw : FnScope zbh zfE (zab zaO) := ⟨rfl,rfl,rfl,by decide +kernel,rfl,by decide +kernel,by decide +kernel⟩
noncomputable abbrev zhB : FQ :=
  (fTru (gv 3))
noncomputable abbrev zfN : FS :=
  (seqF (ifF q103 (fNot (fTru (gv 5))) (seqF (setF q103 5 (mkL (zac (f2 (gv 3) (ci 0) ixA) lNil))) zak) zak) (seqF (setF q103 7 (zaz (zac (gv 0) (zac (gv 1) (zac (gv 3) (zac (gv 4) (zac (gv 5) lNil))))) [] zaG)) (seqF (mutF "list" q103 6 (zac (gv 7) lNil) appD) (seqF (ifF q103 (zav (f2 (f2 (gv 7) (ci 0) ixA) (fun _ => Res.ok (D.str "ahead")) eqD)) (seqF (mutF "list" q103 5 (zac (f2 (gv 7) (ci 1) ixA) lNil) appD) zak) zak) (seqF (setF q103 8 (zaz (zac (mkL (zac (zaz (zac (gv 7) lNil) [] zcf) lNil)) lNil) [] zea)) (seqF (setF q103 9 (f1 (gv 8) znf)) (seqF (setF q103 3 (zd4 1 [8] (fSeq zbA (gv 3)) (ftN 0) (zav (f2 (gv 0) (gv 1) ninD)) (gv 0))) (seqF (setF q113 5 (zd4 1 [8] (fSeq zbA (gv 5)) (ftN 0) (zav (f2 (gv 0) (gv 1) ninD)) (gv 0))) (seqF (setF q113 4 (zd4 1 [9] (fSeq zbA (gv 4)) (ftN 0) (zav (f2 (gv 0) (gv 1) ninD)) (gv 0))) zak)))))))))
noncomputable def zfP : FS :=
  (seqF (setF q119 3 (zaz (zac (gv 0) (zac (gv 2) lNil)) [] zbr)) (seqF (setF q119 4 (fC (zac (zaz (zac (gv 0) lNil) [] zbY) lNil) zhk)) (seqF (setF q119 5 (mkL lNil)) (seqF (setF [.bw,.bw,.sh,.sh,.sh,.ow,.sh,.sh,.sh,.sh] 6 (mkL lNil)) (seqF (zbn q103 zhB zfN 64) (seqF (retF q103 (gv 6)) zak))))))
noncomputable def zdc : List D→Res D := fun ds => outR true (zfP (zap zbh.length ds))
theorem zqy {P : Program} {w : World} {K : PySem.W.Frag} {mg : Str→Option Value} {base : Heap} (T : Txt K mg) (A : DefAtD K mg "asked" zaO [Value.none]) (c_order_of : Callee P w K mg base "order_of" zdi [] 6 false q0 zbr) (c_things_in : Callee P w K mg base "things_in" zco [] 1 false [Md.bw] zbY) (c_next_deed : Callee P w K mg base "next_deed" zcq [] 3 false q117 zaG) (c_pairs_of : Callee P w K mg base "pairs_of" zdh [] 1 false [Md.bw] zcf) (c_got_in : Callee P w K mg base "got_in" ze0 [] 1 false [Md.bw] zea) : Callee P w K mg base "asked" zfE [] 7 true q110 zdc := by
  refine zhW (ds := []) (k := 6) (fs := zfP) (m' := q103) A zaw rfl 3 rfl (fun _ _ _ _ _ _ _ us hl => by obtain ⟨u0,u1,u2,rfl⟩ := zky us hl; exact ⟨_,rfl,rfl⟩) fun f cdv A outer s H g E hr => ?_
  have hu1 := zbc hr
  have hu64 := hr.units
  exact (zaa (zaZ 3 zaw.nd (by rfl) (by first | exact Or.inl rfl | exact Or.inr rfl) (zaC (dds := []) c_order_of (hr.mono (by decide)) (m_bw (vb_ 0) (m_bw (vb_ 2) zaN))))
      (zaa (zaZ 4 zaw.nd (by rfl) (by first | exact Or.inl rfl | exact Or.inr rfl) (SO.toE (zff rfl (by rfl) T.b_list (by rfl) T.b_range (zas (SE.toB (zaC (dds := []) c_things_in (hr.mono (by decide)) (m_bw (vb_ 0) zaN))) zaJ))))
      (zaa (zbR 5 zaw.nd (by rfl) (by first | exact Or.inl rfl | exact Or.inr rfl) (zee zaL))
      (zaa (zbR 6 zaw.nd (by rfl) (by first | exact Or.inl rfl | exact Or.inr rfl) (zee zaL))
      (zaa (zhK 64 PassesOwn.never (zdV (vb_ 3)) (zcQ (m' := q120) 4 (zcQ (m' := q121) 3 (zaa (s_if (zeP (zdV (vb_ 5))) (zaa (zbR 5 zaw.nd (by rfl) (by first | exact Or.inl rfl | exact Or.inr rfl) (zee (zaq (za1 hu1 (vb_ 3) (SE.toB zar)) zaL)))
      zag)
      zag)
      (zaa (zaZ 7 zaw.nd (by rfl) (by first | exact Or.inl rfl | exact Or.inr rfl) (zaC (dds := []) c_next_deed (hr.mono (by decide)) (m_bw (vb_ 0) (m_bw (vb_ 1) (m_bw (vb_ 3) (m_bw (vb_ 4) (m_bw (vb_ 5) zaN)))))))
      (zaa (zcT 6 rfl PySem.F.plainAttrs_list PySem.F.slot_list_append PySem.F.type_list_append zaH zce (by rfl) (by first | exact Or.inl rfl | exact Or.inr (Or.inl rfl) | exact Or.inr (Or.inr rfl)) (zaq (v_ 7) zaL))
      (zaa (s_if (q_eq hu64 (SE.toB (za1 hu1 (vb_ 7) (SE.toB zar))) (SE.toB zeN)) (zaa (zcT 5 rfl PySem.F.plainAttrs_list PySem.F.slot_list_append PySem.F.type_list_append zaH zce (by rfl) (by first | exact Or.inl rfl | exact Or.inr (Or.inl rfl) | exact Or.inr (Or.inr rfl)) (zaq (za1 hu1 (vb_ 7) (SE.toB zar)) zaL))
      zag)
      zag)
      (zaa (zaZ 8 zaw.nd (by rfl) (by first | exact Or.inl rfl | exact Or.inr rfl) (zaC (dds := []) c_got_in (hr.mono (by decide)) (m_bw (SO.toB (zee (zaq (zaC (dds := []) c_pairs_of (hr.mono (by decide)) (m_bw (vb_ 7) zaN)) zaL))) zaN)))
      (zaa (zaZ 9 zaw.nd (by rfl) (by first | exact Or.inl rfl | exact Or.inr rfl) (SO.toE (zmZ rfl (by rfl) T.b_list (vb_ 8))))
      (zaa (zcb 3 (X := (cxOf CX0 P w K mg base zbh "asked" (zab zaO) f cdv A outer s H E).nox) (m := q103) (N' := ["hand","got"]) (nl := 1) (cap := [8]) zaw.nd rfl (by rfl) (by rfl) (za5 (osc := (zab zaO)) (ON := zbh) rfl rfl (by decide +kernel)) (zcW (vb_ 3)) (fun _ _ _ _ _ _ => (zaI 0 (show List.Nodup (["hand","got"] : List Str) by decide +kernel) (by rfl) (by first | exact Or.inl rfl | exact Or.inr rfl))) (zcY (by decide)) (fun _ _ _ _ _ _ => (zfc (zhc hu1 (vb_ 0) (vb_ 1)))) (fun _ _ _ _ _ _ => (v_ 0)))
      (zaa (zcb 5 (X := (cxOf CX0 P w K mg base zbh "asked" (zab zaO) f cdv A outer s H E).nox) (m := q113) (N' := ["hand","got"]) (nl := 1) (cap := [8]) zaw.nd rfl (by rfl) (by rfl) (za5 (osc := (zab zaO)) (ON := zbh) rfl rfl (by decide +kernel)) (zcW (vb_ 5)) (fun _ _ _ _ _ _ => (zaI 0 (show List.Nodup (["hand","got"] : List Str) by decide +kernel) (by rfl) (by first | exact Or.inl rfl | exact Or.inr rfl))) (zcY (by decide)) (fun _ _ _ _ _ _ => (zfc (zhc hu1 (vb_ 0) (vb_ 1)))) (fun _ _ _ _ _ _ => (v_ 0)))
      (zaa (zcb 4 (X := (cxOf CX0 P w K mg base zbh "asked" (zab zaO) f cdv A outer s H E).nox) (m := q113) (N' := ["thing","taken"]) (nl := 1) (cap := [9]) zaw.nd rfl (by rfl) (by rfl) (za5 (osc := (zab zaO)) (ON := zbh) rfl rfl (by decide +kernel)) (zcW (vb_ 4)) (fun _ _ _ _ _ _ => (zaI 0 (show List.Nodup (["thing","taken"] : List Str) by decide +kernel) (by rfl) (by first | exact Or.inl rfl | exact Or.inr rfl))) (zcY (by decide)) (fun _ _ _ _ _ _ => (zfc (zhc hu1 (vb_ 0) (vb_ 1)))) (fun _ _ _ _ _ _ => (v_ 0)))
      zag))))))))) rfl) rfl))
      (zaa (zmD 6 rfl (by rfl) (by first | exact Or.inl rfl | exact Or.inr (Or.inl rfl) | exact Or.inr (Or.inr rfl)))
      zag))))))
theorem zpH {P : Program} {w : World} {K : PySem.W.Frag} {mg : Str→Option Value} {base : Heap} (T : Txt K mg) (A : DefAtD K mg "asked" zaO [Value.none]) (c_order_of : Callee P w K mg base "order_of" zdi [] 6 false q0 zbr) (c_things_in : Callee P w K mg base "things_in" zco [] 1 false [Md.bw] zbY) (c_next_deed : Callee P w K mg base "next_deed" zcq [] 3 false q117 zaG) (c_pairs_of : Callee P w K mg base "pairs_of" zdh [] 1 false [Md.bw] zcf) (c_got_in : Callee P w K mg base "got_in" ze0 [] 1 false [Md.bw] zea) : Callee P w K mg base "asked" zfE [Value.none] 7 true q110 zdc := by
  refine zhW (ds := [Value.none]) (k := 6) (fs := zfP) (m' := q103) A zaw rfl 2 rfl (fun _ _ _ _ _ _ _ us hl => by obtain ⟨u0,u1,rfl⟩ := zd1 us hl; exact ⟨_,rfl,rfl⟩) fun f cdv A outer s H g E hr => ?_
  have hu1 := zbc hr
  have hu64 := hr.units
  exact (zaa (zaZ 3 zaw.nd (by rfl) (by first | exact Or.inl rfl | exact Or.inr rfl) (zaC (dds := []) c_order_of (hr.mono (by decide)) (m_bw (vb_ 0) (m_bw (vb_ 2) zaN))))
      (zaa (zaZ 4 zaw.nd (by rfl) (by first | exact Or.inl rfl | exact Or.inr rfl) (SO.toE (zff rfl (by rfl) T.b_list (by rfl) T.b_range (zas (SE.toB (zaC (dds := []) c_things_in (hr.mono (by decide)) (m_bw (vb_ 0) zaN))) zaJ))))
      (zaa (zbR 5 zaw.nd (by rfl) (by first | exact Or.inl rfl | exact Or.inr rfl) (zee zaL))
      (zaa (zbR 6 zaw.nd (by rfl) (by first | exact Or.inl rfl | exact Or.inr rfl) (zee zaL))
      (zaa (zhK 64 PassesOwn.never (zdV (vb_ 3)) (zcQ (m' := q120) 4 (zcQ (m' := q121) 3 (zaa (s_if (zeP (zdV (vb_ 5))) (zaa (zbR 5 zaw.nd (by rfl) (by first | exact Or.inl rfl | exact Or.inr rfl) (zee (zaq (za1 hu1 (vb_ 3) (SE.toB zar)) zaL)))
      zag)
      zag)
      (zaa (zaZ 7 zaw.nd (by rfl) (by first | exact Or.inl rfl | exact Or.inr rfl) (zaC (dds := []) c_next_deed (hr.mono (by decide)) (m_bw (vb_ 0) (m_bw (vb_ 1) (m_bw (vb_ 3) (m_bw (vb_ 4) (m_bw (vb_ 5) zaN)))))))
      (zaa (zcT 6 rfl PySem.F.plainAttrs_list PySem.F.slot_list_append PySem.F.type_list_append zaH zce (by rfl) (by first | exact Or.inl rfl | exact Or.inr (Or.inl rfl) | exact Or.inr (Or.inr rfl)) (zaq (v_ 7) zaL))
      (zaa (s_if (q_eq hu64 (SE.toB (za1 hu1 (vb_ 7) (SE.toB zar))) (SE.toB zeN)) (zaa (zcT 5 rfl PySem.F.plainAttrs_list PySem.F.slot_list_append PySem.F.type_list_append zaH zce (by rfl) (by first | exact Or.inl rfl | exact Or.inr (Or.inl rfl) | exact Or.inr (Or.inr rfl)) (zaq (za1 hu1 (vb_ 7) (SE.toB zar)) zaL))
      zag)
      zag)
      (zaa (zaZ 8 zaw.nd (by rfl) (by first | exact Or.inl rfl | exact Or.inr rfl) (zaC (dds := []) c_got_in (hr.mono (by decide)) (m_bw (SO.toB (zee (zaq (zaC (dds := []) c_pairs_of (hr.mono (by decide)) (m_bw (vb_ 7) zaN)) zaL))) zaN)))
      (zaa (zaZ 9 zaw.nd (by rfl) (by first | exact Or.inl rfl | exact Or.inr rfl) (SO.toE (zmZ rfl (by rfl) T.b_list (vb_ 8))))
      (zaa (zcb 3 (X := (cxOf CX0 P w K mg base zbh "asked" (zab zaO) f cdv A outer s H E).nox) (m := q103) (N' := ["hand","got"]) (nl := 1) (cap := [8]) zaw.nd rfl (by rfl) (by rfl) (za5 (osc := (zab zaO)) (ON := zbh) rfl rfl (by decide +kernel)) (zcW (vb_ 3)) (fun _ _ _ _ _ _ => (zaI 0 (show List.Nodup (["hand","got"] : List Str) by decide +kernel) (by rfl) (by first | exact Or.inl rfl | exact Or.inr rfl))) (zcY (by decide)) (fun _ _ _ _ _ _ => (zfc (zhc hu1 (vb_ 0) (vb_ 1)))) (fun _ _ _ _ _ _ => (v_ 0)))
      (zaa (zcb 5 (X := (cxOf CX0 P w K mg base zbh "asked" (zab zaO) f cdv A outer s H E).nox) (m := q113) (N' := ["hand","got"]) (nl := 1) (cap := [8]) zaw.nd rfl (by rfl) (by rfl) (za5 (osc := (zab zaO)) (ON := zbh) rfl rfl (by decide +kernel)) (zcW (vb_ 5)) (fun _ _ _ _ _ _ => (zaI 0 (show List.Nodup (["hand","got"] : List Str) by decide +kernel) (by rfl) (by first | exact Or.inl rfl | exact Or.inr rfl))) (zcY (by decide)) (fun _ _ _ _ _ _ => (zfc (zhc hu1 (vb_ 0) (vb_ 1)))) (fun _ _ _ _ _ _ => (v_ 0)))
      (zaa (zcb 4 (X := (cxOf CX0 P w K mg base zbh "asked" (zab zaO) f cdv A outer s H E).nox) (m := q113) (N' := ["thing","taken"]) (nl := 1) (cap := [9]) zaw.nd rfl (by rfl) (by rfl) (za5 (osc := (zab zaO)) (ON := zbh) rfl rfl (by decide +kernel)) (zcW (vb_ 4)) (fun _ _ _ _ _ _ => (zaI 0 (show List.Nodup (["thing","taken"] : List Str) by decide +kernel) (by rfl) (by first | exact Or.inl rfl | exact Or.inr rfl))) (zcY (by decide)) (fun _ _ _ _ _ _ => (zfc (zhc hu1 (vb_ 0) (vb_ 1)))) (fun _ _ _ _ _ _ => (v_ 0)))
      zag))))))))) rfl) rfl))
      (zaa (zmD 6 rfl (by rfl) (by first | exact Or.inl rfl | exact Or.inr (Or.inl rfl) | exact Or.inr (Or.inr rfl)))
      zag))))))
noncomputable abbrev zdP : Stmt := top 27
noncomputable abbrev zeD : List Str := ["_law_found"]
noncomputable abbrev zc6 : List Str := ["_law_found"]
theorem zgr : FnScope zeD zc6 (zab zdP) := ⟨rfl,rfl,rfl,by decide +kernel,rfl,by decide +kernel,by decide +kernel⟩
noncomputable def zeI : FS :=
  (seqF (retF [Md.bw] (vAnd (f1 (gv 0) (isiD "int")) (vNot (f1 (gv 0) (isiD "bool"))))) zak)
noncomputable def zaV : List D→Res D := fun ds => outR false (zeI (zap zeD.length ds))
theorem zlT {P : Program} {w : World} {K : PySem.W.Frag} {mg : Str→Option Value} {base : Heap} (T : Txt K mg) (A : DefAt K mg "_law_whole" zdP) : Callee P w K mg base "_law_whole" zc6 [] 1 false [Md.bw] zaV := by
  refine zaQ (k := 0) (fs := zeI) (m' := [Md.bw]) A zgr rfl (fun _ _ _ _ _ _ us hl => by obtain ⟨u0,rfl⟩ := zhl us hl; kernel_rfl) fun f cdv A outer s H g E hr => ?_
  have hu1 := zbc hr
  have hu64 := hr.units
  exact (zaa (zaK (ziS (zgs "int" "int" rfl (zkA _) (by rfl) T.b_isinstance (by rfl) T.b_int (vb_ 0)) (ziR (zoX (zgs "bool" "bool" rfl (ziy _) (by rfl) T.b_isinstance (by rfl) T.b_bool (vb_ 0))))))
      zag)
noncomputable abbrev zes : Stmt := top 34
noncomputable abbrev zfK : List Str := ["_law_deed","_law_pair"]
noncomputable abbrev zdJ : List Str := ["_law_deed"]
theorem zew : FnScope zfK zdJ (zab zes) := ⟨rfl,rfl,rfl,by decide +kernel,rfl,by decide +kernel,by decide +kernel⟩
noncomputable abbrev zd9 : FS :=
  (seqF (ifF q106 (fOr (fNot (fTru (f1 (gv 1) (isiD "tuple")))) (fOr (zav (f2 (fC (zac (gv 1) lNil) lenD) (ci 2) neD)) (fOr (fNot (fTru (zaz (zac (f2 (gv 1) (ci 0) ixA) lNil) [] zaV))) (fNot (fTru (zaz (zac (f2 (gv 1) (ci 1) ixA) lNil) [] zaV)))))) (seqF (retF q106 (fun _ => Res.ok (D.bl false))) zak) zak) zak)
noncomputable def zcF : FS :=
  (seqF (ifF q106 (fOr (fNot (fTru (f1 (gv 0) (isiD "tuple")))) (fOr (zav (f2 (fC (zac (gv 0) lNil) lenD) (ci 2) ltI)) (fNot (fTru (f1 (f2 (gv 0) (ci 0) ixA) (isiD "str")))))) (seqF (retF q106 (fun _ => Res.ok (D.bl false))) zak) zak) (seqF (ifF q106 (zav (f2 (f2 (gv 0) (ci 0) ixA) (fun _ => Res.ok (D.str "ring")) neD)) (seqF (retF q106 (vAnd (f2 (fC (zac (gv 0) lNil) lenD) (ci 3) eqD) (vAnd (zaz (zac (f2 (gv 0) (ci 1) ixA) lNil) [] zaV) (zaz (zac (f2 (gv 0) (ci 2) ixA) lNil) [] zaV)))) zak) zak) (seqF (ifF q106 (fOr (zav (f2 (fC (zac (gv 0) lNil) lenD) (ci 2) neD)) (fNot (fTru (f1 (f2 (gv 0) (ci 1) ixA) (isiD "tuple"))))) (seqF (retF q106 (fun _ => Res.ok (D.bl false))) zak) zak) (seqF (zcN q106 (fSeq zbA (f2 (gv 0) (ci 1) ixA)) (ftN 1) zd9) (seqF (retF q106 (fun _ => Res.ok (D.bl true))) zak)))))
noncomputable def zcz : List D→Res D := fun ds => outR false (zcF (zap zfK.length ds))
theorem zmW {P : Program} {w : World} {K : PySem.W.Frag} {mg : Str→Option Value} {base : Heap} (T : Txt K mg) (A : DefAt K mg "_law_form" zes) (c__law_whole : Callee P w K mg base "_law_whole" zc6 [] 1 false [Md.bw] zaV) : Callee P w K mg base "_law_form" zdJ [] 2 false [Md.bw] zcz := by
  refine zaQ (k := 1) (fs := zcF) (m' := q106) A zew rfl (fun _ _ _ _ _ _ us hl => by obtain ⟨u0,rfl⟩ := zhl us hl; kernel_rfl) fun f cdv A outer s H g E hr => ?_
  have hu1 := zbc hr
  have hu64 := hr.units
  exact (zaa (s_if (SW.toQ (q_or (zeP (zdV (SE.toB (zgs "tuple" "tuple" rfl (zfl _) (by rfl) T.b_isinstance (by rfl) T.b_tuple (vb_ 0))))) (q_or (q_lt (SE.toB (zcM (by rfl) T.b_len (zas (vb_ 0) zaJ))) (SE.toB zar)) (zgw (zeP (zdV (SE.toB (zgs "str" "str" rfl (zn5 _) (by rfl) T.b_isinstance (by rfl) T.b_str (SE.toB (za1 hu1 (vb_ 0) (SE.toB zar))))))))))) (zaa (zaK s_bl)
      zag)
      zag)
      (zaa (s_if (q_ne hu64 (SE.toB (za1 hu1 (vb_ 0) (SE.toB zar))) (SE.toB zeN)) (zaa (zaK (ziS (s_eq hu64 (SE.toB (zcM (by rfl) T.b_len (zas (vb_ 0) zaJ))) (SE.toB zar)) (ziS (zaC (dds := []) c__law_whole (hr.mono (by decide)) (m_bw (SE.toB (za1 hu1 (vb_ 0) (SE.toB zar))) zaN)) (ziR (zaC (dds := []) c__law_whole (hr.mono (by decide)) (m_bw (SE.toB (za1 hu1 (vb_ 0) (SE.toB zar))) zaN))))))
      zag)
      zag)
      (zaa (s_if (SW.toQ (q_or (q_ne hu64 (SE.toB (zcM (by rfl) T.b_len (zas (vb_ 0) zaJ))) (SE.toB zar)) (zgw (zeP (zdV (SE.toB (zgs "tuple" "tuple" rfl (zfl _) (by rfl) T.b_isinstance (by rfl) T.b_tuple (SE.toB (za1 hu1 (vb_ 0) (SE.toB zar)))))))))) (zaa (zaK s_bl)
      zag)
      zag)
      (zaa (zhN PassesOwn.never rfl (zoa (za1 hu1 (vb_ 0) (SE.toB zar))) (zaI 1 zew.nd (by rfl) (by first | exact Or.inl rfl | exact Or.inr rfl)) (zaa (s_if (SW.toQ (q_or (zeP (zdV (SE.toB (zgs "tuple" "tuple" rfl (zfl _) (by rfl) T.b_isinstance (by rfl) T.b_tuple (vb_ 1))))) (q_or (q_ne hu64 (SE.toB (zcM (by rfl) T.b_len (zas (vb_ 1) zaJ))) (SE.toB zar)) (q_or (zeP (zdV (SE.toB (zaC (dds := []) c__law_whole (hr.mono (by decide)) (m_bw (SE.toB (za1 hu1 (vb_ 1) (SE.toB zar))) zaN))))) (zgw (zeP (zdV (SE.toB (zaC (dds := []) c__law_whole (hr.mono (by decide)) (m_bw (SE.toB (za1 hu1 (vb_ 1) (SE.toB zar))) zaN)))))))))) (zaa (zaK s_bl)
      zag)
      zag)
      zag))
      (zaa (zaK s_bl)
      zag)))))
noncomputable abbrev zie : Stmt := top 35
noncomputable abbrev zms : List Str := ["_law_script","_law_wishes_here","_law_owns_here","_law_order","_law_given","_law_due_here","_law_again","_law_found"]
noncomputable abbrev zqw : List Str := ["_law_script"]
theorem zds : FnScope zms zqw (zab zie) := ⟨rfl,rfl,rfl,by decide +kernel,rfl,by decide +kernel,by decide +kernel⟩
noncomputable abbrev zlm : FS :=
  (seqF (setF q111 7 (ownF (zaz (zac (gv 1) (zac (gv 2) (zac (gv 4) lNil))) [] zdc))) (seqF (ifF q112 (fOr (fNot (fTru (f1 (gv 7) (isiD "list")))) (fNot (fTru (fC (zac (zd4 1 [] (fSeq zbA (gv 7)) (ftN 0) (fun _ => Res.ok true) (zaz (zac (gv 0) lNil) [] zcz)) lNil) allD)))) (seqF (retF q112 (fun _ => Res.ok (D.bl false))) zak) zak) (seqF (ifF q112 (fOr (zav (f2 (gv 7) (gv 5) neD)) (zav (f2 (gv 4) (gv 3) neD))) (seqF (retF q112 (fun _ => Res.ok (D.bl false))) zak) zak) (seqF (mutF "list" q112 7 lNil revD) (seqF (mutF "list" q112 7 (zac (fun _ => Res.ok (D.str "x")) lNil) appD) zak)))))
noncomputable def zmu : FS :=
  (seqF (asgF q111 (zaz (zac (gv 0) lNil) [] zb7) (ftT (zbg (ftN 1) (zbg (ftN 2) (zbg (ftN 3) zfX))))) (seqF (setF q111 4 (fun _ => Res.ok D.non)) (seqF (ifF q111 (zav (f2 (gv 3) (fun _ => Res.ok D.non) isnD)) (seqF (setF q111 4 (fC (zac (gv 3) lNil) zgA)) zak) zak) (seqF (setF q111 5 (zh4 (zjt (gv 1) (zjt (gv 2) (zlt (ownF (zaz (zac (gv 3) (zac (fC (zac (gv 1) lNil) lenD) lNil)) [] zcy))))) zch)) (seqF (zcN q111 (fRng rng1 (zac (ci 2) lNil)) (ftN 6) zlm) (seqF (retF q111 (vOr (f2 (gv 3) (fun _ => Res.ok D.non) isnD) (f2 (zaz (zac (gv 1) (zac (gv 2) lNil)) [D.non] zdc) (gv 5) eqD))) zak))))))
noncomputable def zou : List D→Res D := fun ds => outR false (zmu (zap zms.length ds))
theorem zrF {P : Program} {w : World} {K : PySem.W.Frag} {mg : Str→Option Value} {base : Heap} (T : Txt K mg) {fa : Addr} {fd : FuncData} (A : Fun K "law" "law" zie fa fd) (c__law_scene : Callee P w K mg base "_law_scene" zc7 [] 3 false [Md.bw] zb7) (c__law_line : Callee P w K mg base "_law_line" zdI [] 1 true q0 zcy) (c__law_due : CalleeV P w K mg base "_law_due" zem 2 false [.sh,.sh] zch) (c_asked : Callee P w K mg base "asked" zfE [] 7 true q110 zdc) (c__law_form : Callee P w K mg base "_law_form" zdJ [] 2 false [Md.bw] zcz) (c_asked' : Callee P w K mg base "asked" zfE [Value.none] 7 true q110 zdc) : FnOk P w K mg base CX0 8 fa fd zqw (spM K false [Md.sh] zou) := by
  refine zm9 (k := 7) (fs := zmu) (m' := q111) A zds rfl fun cdv A outer s H g E hr => ?_
  have hu1 := zbc hr
  have hu64 := hr.units
  exact (zaa (zqV (zaC (dds := []) c__law_scene (hr.mono (by decide)) (m_bw (vb_ 0) zaN)) (zkS rfl (zcX (zaI 1 zds.nd (by rfl) (by first | exact Or.inl rfl | exact Or.inr rfl)) (zcX (zaI 2 zds.nd (by rfl) (by first | exact Or.inl rfl | exact Or.inr rfl)) (zcX (zaI 3 zds.nd (by rfl) (by first | exact Or.inl rfl | exact Or.inr rfl)) zkT)))))
      (zaa (zaZ 4 zds.nd (by rfl) (by first | exact Or.inl rfl | exact Or.inr rfl) zed)
      (zaa (s_if (zpf (vb_ 3) (SE.toB zed)) (zaa (zaZ 4 zds.nd (by rfl) (by first | exact Or.inl rfl | exact Or.inr rfl) (SO.toE (ziq (by rfl) T.b_list (zas (vb_ 3) zaJ))))
      zag)
      zag)
      (zaa (zaZ 5 zds.nd (by rfl) (by first | exact Or.inl rfl | exact Or.inr rfl) (zon c__law_due (hr.mono (by decide)) (zmw (v_ 1) (zmw (v_ 2) (zoB (zk9 (dds := []) c__law_line (hr.mono (by decide)) (m_bw (vb_ 3) (m_bw (SE.toB (zcM (by rfl) T.b_len (zas (vb_ 1) zaJ))) zaN))))))))
      (zaa (zhN PassesOwn.never rfl (zd3 (by rfl) T.b_range (zas (SE.toB zar) zaJ)) (zaI 6 zds.nd (by rfl) (by first | exact Or.inl rfl | exact Or.inr rfl)) (zcQ (m' := q112) 7 (zaa (zbR 7 zds.nd (by rfl) (by first | exact Or.inl rfl | exact Or.inr rfl) (zk9 (dds := []) c_asked (hr.mono (by decide)) (m_bw (vb_ 1) (m_bw (vb_ 2) (m_sh (v_ 4) zaN)))))
      (zaa (s_if (SW.toQ (q_or (zeP (zdV (SE.toB (zgs "list" "list" rfl (zl0 _) (by rfl) T.b_isinstance (by rfl) T.b_list (vb_ 7))))) (zgw (zeP (zdV (SE.toB (zqW rfl (by rfl) T.b_all (zas (SO.toB (zir (X := (cxOf CX0 P w K mg base zms "law" (zab zie) fa cdv A outer s H E).nox) (N' := ["_law_deed"]) (nl := 1) (cap := []) zds.nd rfl (za5 (osc := (zab zie)) (ON := zms) rfl rfl (by decide +kernel)) (zcW (vb_ 7)) (fun _ _ _ _ _ _ => (zaI 0 (show List.Nodup (["_law_deed"] : List Str) by decide +kernel) (by rfl) (by first | exact Or.inl rfl | exact Or.inr rfl))) (zcY (by decide)) (fun _ _ _ _ _ _ => zjY) (fun _ _ _ _ _ _ => (zaC (dds := []) c__law_form (hr.mono (by decide)) (m_bw (vb_ 0) zaN))))) zaJ)))))))) (zaa (zaK s_bl)
      zag)
      zag)
      (zaa (s_if (SW.toQ (q_or (q_ne hu64 (vb_ 7) (vb_ 5)) (zgw (q_ne hu64 (vb_ 4) (vb_ 3))))) (zaa (zaK s_bl)
      zag)
      zag)
      (zaa (zoZ 7 rfl PySem.F.plainAttrs_list PySem.F.slot_list_reverse PySem.F.type_list_reverse zi4 zo9 (by rfl) (by first | exact Or.inl rfl | exact Or.inr (Or.inl rfl) | exact Or.inr (Or.inr rfl)))
      (zaa (zcT 7 rfl PySem.F.plainAttrs_list PySem.F.slot_list_append PySem.F.type_list_append zaH zce (by rfl) (by first | exact Or.inl rfl | exact Or.inr (Or.inl rfl) | exact Or.inr (Or.inr rfl)) (zaq zeN zaL))
      zag))))) rfl))
      (zaa (zaK (s_or (zqS (vb_ 3) (SE.toB zed)) (ziR (s_eq hu64 (SE.toB (zoo (dvs := [.non]) (dds := [D.non]) c_asked' (hr.mono (by decide)) (m_bw (vb_ 1) (m_bw (vb_ 2) zaN)) (hd := .cons rfl .nil) (hsc := .cons .non .nil))) (vb_ 5)))))
      zag))))))
end Law
end
section
namespace Law
open PySem L2 DL
noncomputable abbrev nD (k : Nat) : D := .int (k : Int)
noncomputable abbrev LN (l : List Nat) : D := .lst (l.map nD)
noncomputable abbrev TN (l : List Nat) : D := .tup (l.map nD)
noncomputable def oD : Option Nat→D
  | none => .non
  | some k => nD k
noncomputable abbrev WD (rows : List (List Nat)) : D := .tup (rows.map TN)
noncomputable abbrev OD (owns : List (Option Nat)) : D := .tup (owns.map oD)
theorem szOk {ds : List D} (h : ds.length≤1000) : sz ds = some ds := zqO (Nat.le_trans h (by rw [sizeLine_eq]; decide))
@[simp] theorem addA_int (a b : Int) : addA (.int a) (.int b) = some (.int (a + b)) := rfl
theorem znX {a b : Int} (h : CMul a b) : mulI (.int a) (.int b) = some (.int (a * b)) := by rw [mulI,intsC_int,if_pos h]
theorem zkq {a b : Int} (h : 0 < b) : modI (.int a) (.int b) = some (.int (a % b)) := by rw [modI,intsC_int,if_pos h]
theorem zl5 {a b : Int} (h : CDiv a b) : zgJ (.int a) (.int b) = some (.int (a / b)) := by rw [zgJ,intsC_int,if_pos h]
theorem zae {s1 s2 : FS} {r r' : Rho} (h : s1 r = .nx r') : seqF s1 s2 r = s2 r' := by unfold seqF; rw [h]
theorem zan {s1 s2 : FS} {r : Rho} {d : D} (h : s1 r = .rt d) : seqF s1 s2 r = .rt d := by unfold seqF; rw [h]
theorem zau {m : List Md} {i : Nat} {f : FE} {r : Rho} {d : D} (h : f r = .ok d) : setF m i f r = .nx (r.set i (some d)) := by unfold setF; rw [h]; rfl
theorem zaA {m : List Md} {f : FE} {r : Rho} {d : D} (h : f r = .ok d) : retF m f r = .rt d := by unfold retF; rw [h]; rfl
theorem zjf {m : List Md} {p : FQ} {s1 s2 : FS} {r : Rho} {b : Bool} (h : p r = .ok b) : ifF m p s1 s2 r = if b = true then s1 r else s2 r := by unfold ifF; rw [h]; rfl
theorem if_t {m : List Md} {p : FQ} {s1 s2 : FS} {r : Rho} (h : p r = .ok true) : ifF m p s1 s2 r = s1 r := by rw [zjf h,if_pos rfl]
theorem if_f {m : List Md} {p : FQ} {s1 s2 : FS} {r : Rho} (h : p r = .ok false) : ifF m p s1 s2 r = s2 r := by rw [zjf h,if_neg Bool.false_ne_true]
theorem zru {p : FQ} {f f' : FE} {r : Rho} (h : p r = .ok true) : fIf p f f' r = f r := by unfold fIf; rw [h]; rfl
theorem zrv {p : FQ} {f f' : FE} {r : Rho} (h : p r = .ok false) : fIf p f f' r = f' r := by unfold fIf; rw [h]; rfl
theorem zbS {fl : Rho→Res (List D)} {r : Rho} {ds : List D} (h : fl r = .ok ds) (hl : ds.length≤1000) : mkT fl r = .ok (.tup ds) := by unfold mkT; rw [h,bind_ok,szOk hl]; rfl
theorem zd0 {fl : Rho→Res (List D)} {r : Rho} {ds : List D} (h : fl r = .ok ds) (hl : ds.length≤1000) : mkL fl r = .ok (.lst ds) := by unfold mkL; rw [h,bind_ok,szOk hl]; rfl
theorem zbU {ds : List D} {d : D} (h : ds.length≤1000) : appD (.lst ds) [d] = some (.lst (ds++[d])) := by
  show (if ds.length < sizeLine then some (D.lst (ds++[d])) else none) = _
  rw [if_pos (by rw [sizeLine_eq]; omega)]
theorem zao {fl : Rho→Res (List D)} {dds zs : List D} {F : List D→Res D} {r : Rho} {d : D} (h1 : fl r = .ok zs) (h2 : F (zs++dds) = .ok d) : zaz fl dds F r = .ok d := by unfold zaz; rw [h1,bind_ok,h2]; rfl
theorem zrw {f : FE} {k : D→Option D} {r : Rho} {a d : D} (h1 : f r = .ok a) (h2 : k a = some d) : f1 f k r = .ok d := by unfold f1; rw [h1,bind_ok,h2]; rfl
theorem zaj {f f' : FE} {k : D→D→Option D} {r : Rho} {a b d : D} (h1 : f r = .ok a) (h2 : f' r = .ok b) (h3 : k a b = some d) : f2 f f' k r = .ok d := by unfold f2; rw [h1,bind_ok,h2,bind_ok,h3]; rfl
theorem zaS {fl : Rho→Res (List D)} {k : List D→Option D} {r : Rho} {ds : List D} {d : D} (h1 : fl r = .ok ds) (h2 : k ds = some d) : fC fl k r = .ok d := by unfold fC; rw [h1,bind_ok,h2]; rfl
theorem zad {f : FE} {fl : Rho→Res (List D)} {r : Rho} {d : D} {ds : List D} (h1 : f r = .ok d) (h2 : fl r = .ok ds) : zac f fl r = .ok (d::ds) := by unfold zac; rw [h1,bind_ok,h2]; rfl
theorem zai {r : Rho} : lNil r = .ok [] := rfl
theorem zal {f : FE} {r : Rho} {b : Bool} (h : f r = .ok (.bl b)) : zav f r = .ok b := by unfold zav; rw [h]; rfl
theorem zbd {f : FE} {r : Rho} {d : D} {b : Bool} (h : f r = .ok d) (h2 : truD d = some b) : fTru f r = .ok b := by unfold fTru; rw [h,bind_ok,h2]; rfl
theorem zcK {p : FQ} {r : Rho} {b : Bool} (h : p r = .ok b) : fNot p r = .ok (! b) := by unfold fNot; rw [h]; rfl
theorem zmr {p q : FQ} {r : Rho} (h : p r = .ok true) : fAnd p q r = q r := by unfold fAnd; rw [h]; rfl
theorem zqs {p q : FQ} {r : Rho} (h : p r = .ok false) : fAnd p q r = .ok false := by unfold fAnd; rw [h]; rfl
theorem or_t {p q : FQ} {r : Rho} (h : p r = .ok true) : fOr p q r = .ok true := by unfold fOr; rw [h]; rfl
theorem or_f {p q : FQ} {r : Rho} (h : p r = .ok false) : fOr p q r = q r := by unfold fOr; rw [h]; rfl
theorem zf1 {f f' : FE} {r : Rho} (h : f r = .ok (.bl true)) : vAnd f f' r = f' r := by unfold vAnd; rw [h]; rfl
theorem zbq {m : List Md} {fi : FI} {ft : FT} {b : FS} {r : Rho} {ds : List D} (h : fi r = .ok ds) : zcN m fi ft b r = forF ft b ds r := by unfold zcN; rw [h]; rfl
theorem zif {f : FE} {r : Rho} {d : D} {ds : List D} (h : f r = .ok d) (h2 : zbA d = some ds) : fSeq zbA f r = .ok ds := by unfold fSeq; rw [h,bind_ok,h2]; rfl
theorem zbT {ft : FT} {b : FS} {r : Rho} : forF ft b [] r = .nx r := by unfold forF; rfl
theorem zcL {ft : FT} {b : FS} {r r1 r' : Rho} {d : D} {ds : List D} (h1 : ft d r = some r1) (h2 : b r1 = .nx r') : forF ft b (d::ds) r = forF ft b ds r' := by
  conv => lhs; unfold forF
  simp only [h1,h2]
theorem zm8 {ft : FT} {b : FS} {r r1 : Rho} {d v : D} {ds : List D} (h1 : ft d r = some r1) (h2 : b r1 = .rt v) : forF ft b (d::ds) r = .rt v := by
  conv => lhs; unfold forF
  simp only [h1,h2]
theorem zjs {m : List Md} {p : FQ} {b : FS} {n : Nat} {r : Rho} (h : p r = .ok false) : zbn m p b (n + 1) r = .nx r := by unfold zbn; rw [h]; rfl
theorem zjr {m : List Md} {p : FQ} {b : FS} {n : Nat} {r r' : Rho} (h : p r = .ok true) (h2 : b r = .nx r') : zbn m p b (n + 1) r = zbn m p b n r' := by
  conv => lhs; unfold zbn
  rw [h,onE_ok,if_pos rfl,h2]
theorem zbH {T : String} {m : List Md} {i : Nat} {fl : Rho→Res (List D)} {mk : D→List D→Option D} {r : Rho} {d d' : D} {ds : List D} (h1 : r[i]? = some (some d)) (h2 : tyB T d = true) (h3 : fl r = .ok ds) (h4 : mk d ds = some d') : mutF T m i fl mk r = .nx (r.set i (some d')) := by
  unfold mutF; rw [h1]; simp only [h2,if_true,h3,onE_ok,h4]
theorem zmJ {m : List Md} {i : Nat} {fk fv : FE} {r : Rho} {d k v d' : D} (h1 : r[i]? = some (some d)) (h2 : fv r = .ok v) (h3 : fk r = .ok k) (h4 : stoD d k v = some d') : DL.putF m i fk fv r = .nx (r.set i (some d')) := by
  unfold DL.putF; rw [h2,onE_ok]; simp only [h1,h3,onE_ok,h4]
theorem zok {fa fb fc : FE} {k k' : D→D→Option D} {r : Rho} {x y w d : D} (h1 : fa r = .ok x) (h2 : fb r = .ok y) (h3 : k x y = some (.bl true)) (h4 : fc r = .ok w) (h5 : k' y w = some d) : zhr fa fb fc k k' r = .ok d := by
  unfold zhr; rw [h1,bind_ok,h2,bind_ok,h3,opt_some,bind_ok]
  show (fc r).bind _ = _
  rw [h4,bind_ok,h5]; rfl
theorem zk8 {ft : FT} {q : FQ} {fe : FE} {r0 : Rho} : zdE ft q fe r0 [] = .ok [] := by unfold zdE; rfl
theorem zhv {ft : FT} {q : FQ} {fe : FE} {r0 : Rho} {α : Type} (e : α→D) (keep : α→Bool) (g : α→D) : ∀ (l : List α),(∀ a∈l,∃ r1,ft (e a) r0 = some r1∧q r1 = .ok (keep a)∧(keep a = true→fe r1 = .ok (g a)))→zdE ft q fe r0 (l.map e) = .ok ((l.filter keep).map g)
  | [],_ => zk8
  | a::l,h => by
    obtain ⟨r1,h1,h2,h3⟩ := h a List.mem_cons_self
    have ih := zhv (ft := ft) (q := q) (fe := fe) (r0 := r0) e keep g l fun b hb => h b (List.mem_cons_of_mem _ hb)
    rw [List.map_cons]
    conv => lhs; unfold zdE
    rw [h1,opt_some,bind_ok,h2,bind_ok]
    cases k : keep a with
    | true => rw [if_pos rfl,h3 k,bind_ok,ih,bind_ok,List.filter_cons,if_pos k]; rfl
    | false => rw [if_neg Bool.false_ne_true,ih,List.filter_cons,if_neg (by rw [k]; exact Bool.false_ne_true)]
theorem zdD {nl : Nat} {cap : List Nat} {fi : FI} {ft : FT} {q : FQ} {fe : FE} {r : Rho} {α : Type} {l : List α} (e : α→D) (keep : α→Bool) (g : α→D) (h1 : fi r = .ok (l.map e)) (hl : l.length≤1000)
    (h : ∀ a∈l,∃ r1,ft (e a) (capR nl cap r) = some r1∧q r1 = .ok (keep a)∧(keep a = true→fe r1 = .ok (g a))) : zd4 nl cap fi ft q fe r = .ok (.lst ((l.filter keep).map g)) := by
  unfold zd4
  rw [h1,bind_ok,szOk (by simpa using hl),opt_some,bind_ok,zhv e keep g l h,noXL_ok,bind_ok]
theorem zrj (k : Nat) : leI (.int 0) (nD k) = some (.bl true) := by
  show some (D.bl (decide ((0 : Int)≤(k : Int)))) = _
  rw [decide_eq_true (Int.natCast_nonneg k)]
theorem zn2 (a b : Nat) : ltI (nD a) (nD b) = some (.bl (decide (a < b))) := by
  show some (D.bl (decide ((a : Int) < (b : Int)))) = _
  simp only [Int.ofNat_lt]
theorem zp5 (a b : Nat) : gtI (nD a) (nD b) = some (.bl (decide (b < a))) := by
  show some (D.bl (decide ((b : Int) < (a : Int)))) = _
  simp only [Int.ofNat_lt]
theorem zjh (a b : Nat) : eqD (nD a) (nD b) = some (.bl (decide (a = b))) := by
  unfold eqD
  rw [eqB_int]
  show some (D.bl ((a : Int) == (b : Int))) = _
  have : ((a : Int) == (b : Int)) = decide (a = b) := by rw [Bool.eq_iff_iff,beq_iff_eq,decide_eq_true_iff]; exact Int.ofNat_inj
  rw [this]
theorem zpL (a b : Nat) : neD (nD a) (nD b) = some (.bl (! decide (a = b))) := by
  unfold neD
  rw [eqB_int]
  show some (D.bl (!((a : Int) == (b : Int)))) = _
  have : ((a : Int) == (b : Int)) = decide (a = b) := by rw [Bool.eq_iff_iff,beq_iff_eq,decide_eq_true_iff]; exact Int.ofNat_inj
  rw [this]
theorem zaM {B : FS} {n : Nat} {ds : List D} {d : D} (h : B (zap n ds) = .rt d) : outR false (B (zap n ds)) = .ok d := by rw [h]; rfl
noncomputable abbrev kI (k : Nat) : Key := Sum.inl (k : Int)
theorem zm5 (kvs : List (Nat × D)) (k : Nat) : hasK (kvs.map fun p => (kI p.1,p.2)) (kI k) = decide (k∈kvs.map (·.1)) := by
  unfold hasK
  rw [List.any_map,Bool.eq_iff_iff,List.any_eq_true,decide_eq_true_iff,List.mem_map]
  constructor
  · rintro ⟨p,h1,h2⟩
    refine ⟨p,h1,?_⟩
    simp only [Function.comp_apply,decide_eq_true_eq] at h2
    have : ((p.1 : Nat) : Int) = (k : Int) := Sum.inl.inj h2
    exact Int.ofNat.inj this
  · rintro ⟨p,h1,rfl⟩
    exact ⟨p,h1,by simp⟩
theorem zlF (kvs : List (Nat × D)) (k : Nat) (d : D) (h : k∉kvs.map (·.1)) : putD (kvs.map fun p => (kI p.1,p.2)) (kI k) d = (kvs++[(k,d)]).map fun p => (kI p.1,p.2) := by
  unfold putD
  have e : ((kvs.map fun p => (kI p.1,p.2)).any fun kv => decide (kv.1 = kI k)) = decide (k∈kvs.map (·.1)) := zm5 kvs k
  rw [e,decide_eq_false h,if_neg Bool.false_ne_true,List.map_append]
  rfl
@[simp] theorem e_seq (s1 s2 : FS) (r : Rho) : seqF s1 s2 r = (match s1 r with | .nx r' => s2 r' | o => o) := rfl
@[simp] theorem e_skip (r : Rho) : zak r = .nx r := rfl
@[simp] theorem e_set (m : List Md) (i : Nat) (f : FE) (r : Rho) : setF m i f r = onE m r (f r) fun d => .nx (r.set i (some d)) := rfl
@[simp] theorem e_ret (m : List Md) (f : FE) (r : Rho) : retF m f r = onE m r (f r) fun d => .rt d := rfl
@[simp] theorem e_if (m : List Md) (p : FQ) (s1 s2 : FS) (r : Rho) : ifF m p s1 s2 r = onE m r (p r) fun c => if c = true then s1 r else s2 r := rfl
@[simp] theorem e_getV (r : Rho) (i : Nat) : getV r i = (match r[i]? with | some (some d) => .ok d | _ => .stuck) := rfl
@[simp] theorem e_f1 (f : FE) (k : D→Option D) (r : Rho) : f1 f k r = (f r).bind fun d => opt (k d) := rfl
@[simp] theorem e_f2 (f f' : FE) (k : D→D→Option D) (r : Rho) : f2 f f' k r = (f r).bind fun a => (f' r).bind fun b => opt (k a b) := rfl
@[simp] theorem e_fC (fl : Rho→Res (List D)) (k : List D→Option D) (r : Rho) : fC fl k r = (fl r).bind fun ds => opt (k ds) := rfl
@[simp] theorem e_lN (r : Rho) : lNil r = .ok [] := rfl
@[simp] theorem e_lC (f : FE) (fl : Rho→Res (List D)) (r : Rho) : zac f fl r = (f r).bind fun d => (fl r).bind fun ds => .ok (d::ds) := rfl
@[simp] theorem e_test (f : FE) (r : Rho) : zav f r = (f r).bind fun d => opt (asB d) := rfl
@[simp] theorem e_tru (f : FE) (r : Rho) : fTru f r = (f r).bind fun d => opt (truD d) := rfl
@[simp] theorem e_not (p : FQ) (r : Rho) : fNot p r = (p r).bind fun c => .ok (! c) := rfl
@[simp] theorem e_and (p q : FQ) (r : Rho) : fAnd p q r = (p r).bind fun c => if c = true then q r else .ok false := rfl
@[simp] theorem e_or (p q : FQ) (r : Rho) : fOr p q r = (p r).bind fun c => if c = true then .ok true else q r := rfl
@[simp] theorem e_vand (f f' : FE) (r : Rho) : vAnd f f' r = (f r).bind fun d => (opt (asB d)).bind fun c => if c = true then f' r else .ok (.bl false) := rfl
@[simp] theorem e_vor (f f' : FE) (r : Rho) : vOr f f' r = (f r).bind fun d => (opt (asB d)).bind fun c => if c = true then .ok (.bl true) else f' r := rfl
@[simp] theorem e_vnot (f : FE) (r : Rho) : vNot f r = (f r).bind fun d => (opt (asB d)).bind fun c => .ok (.bl (! c)) := rfl
@[simp] theorem e_fIf (p : FQ) (f f' : FE) (r : Rho) : fIf p f f' r = (p r).bind fun c => if c = true then f r else f' r := rfl
@[simp] theorem e_call (fl : Rho→Res (List D)) (dds : List D) (F : List D→Res D) (r : Rho) : zaz fl dds F r = (fl r).bind fun ds => noX (F (ds++dds)) := rfl
@[simp] theorem e_asB (b : Bool) : asB (.bl b) = some b := rfl
@[simp] theorem e_truB (b : Bool) : truD (.bl b) = some b := rfl
@[simp] theorem e_truL (ds : List D) : truD (.lst ds) = some (! ds.isEmpty) := rfl
@[simp] theorem e_loop (m : List Md) (fi : FI) (ft : FT) (b : FS) (r : Rho) : zcN m fi ft b r = onE m r (fi r) fun ds => forF ft b ds r := rfl
@[simp] theorem e_fSeq (k : D→Option (List D)) (f : FE) (r : Rho) : fSeq k f r = (f r).bind fun d => opt (k d) := rfl
@[simp] theorem e_asL (ds : List D) : zbA (.lst ds) = some ds := rfl
@[simp] theorem e_asT (ds : List D) : zbA (.tup ds) = some ds := rfl
@[simp] theorem e_mkT (fl : Rho→Res (List D)) (r : Rho) : mkT fl r = (fl r).bind fun ds => (opt (sz ds)).bind fun ds => .ok (.tup ds) := rfl
@[simp] theorem e_mkL (fl : Rho→Res (List D)) (r : Rho) : mkL fl r = (fl r).bind fun ds => (opt (sz ds)).bind fun ds => .ok (.lst ds) := rfl
@[simp] theorem e_lenL (ds : List D) : lenD [.lst ds] = some (.int ds.length) := rfl
@[simp] theorem e_lenT (ds : List D) : lenD [.tup ds] = some (.int ds.length) := rfl
@[simp] theorem e_lenK (ds : List (Key × D)) : lenD [.dic ds] = some (.int ds.length) := rfl
@[simp] theorem e_tupL (ds : List D) : tupD [.lst ds] = some (.tup ds) := rfl
@[simp] theorem e_listL (ds : List D) : zgA [.lst ds] = some (.lst ds) := rfl
@[simp] theorem e_listT (ds : List D) : zgA [.tup ds] = some (.lst ds) := rfl
@[simp] theorem e_isNN : isD .non .non = some (.bl true) := rfl
@[simp] theorem e_isLN (ds : List D) : isD (.lst ds) .non = some (.bl false) := rfl
@[simp] theorem e_isn1 : isnD .non .non = some (.bl false) := rfl
@[simp] theorem e_isn2 (i : Int) : isnD (.int i) .non = some (.bl true) := rfl
@[simp] theorem e_isn3 (ds : List D) : isnD (.tup ds) .non = some (.bl true) := rfl
@[simp] theorem e_valsD (kvs : List (Key × D)) : znf (.dic kvs) = some (.lst (kvs.map (·.2))) := rfl
theorem zdB {ds : List D} {i : Nat} {d : D} (h : ds[i]? = some d) : ixA (.tup ds) (nD i) = some d := by
  have hl : i < ds.length := (List.getElem?_eq_some_iff.mp h).1
  show atI ds (i : Int) = some d
  unfold atI ixN
  rw [if_pos (Int.natCast_nonneg i),if_pos (by omega)]
  simpa using h
theorem zl1 {ds : List D} {i : Nat} {d : D} (h : ds[i]? = some d) : ixA (.lst ds) (nD i) = some d := by
  have hl : i < ds.length := (List.getElem?_eq_some_iff.mp h).1
  show atI ds (i : Int) = some d
  unfold atI ixN
  rw [if_pos (Int.natCast_nonneg i),if_pos (by omega)]
  simpa using h
@[simp] theorem ixA_L0 (d : D) (ds : List D) : ixA (.lst (d::ds)) (.int 0) = some d := zl1 (i := 0) rfl
@[simp] theorem ixA_T0 (d : D) (ds : List D) : ixA (.tup (d::ds)) (.int 0) = some d := zdB (i := 0) rfl
theorem anyE (l : List Nat) (k : Nat) : (l.map nD).any (fun y => eqs y (nD k)) = decide (k∈l) := by
  rw [List.any_map,Bool.eq_iff_iff,List.any_eq_true,decide_eq_true_iff]
  constructor
  · rintro ⟨x,h1,h2⟩
    have : (((x : Nat) : Int) == (k : Int)) = true := h2
    have := Int.ofNat_inj.mp (eq_of_beq this)
    subst this; exact h1
  · intro h
    exact ⟨k,h,by show (((k : Nat) : Int) == (k : Int)) = true; simp⟩
theorem zof (l : List Nat) : (l.map nD).all za0 = true := by
  rw [List.all_eq_true]
  intro x hx
  obtain ⟨k,_,rfl⟩ := List.mem_map.mp hx
  rfl
theorem zp1 (l : List Nat) (k : Nat) : inD (nD k) (LN l) = some (.bl (decide (k∈l))) := by
  show (if za0 (nD k) = true∧(l.map nD).all za0 = true then some ((l.map nD).any fun y => eqs y (nD k)) else none).map D.bl = _
  rw [if_pos ⟨rfl,zof l⟩,anyE]; rfl
theorem zit (l : List Nat) (k : Nat) : ninD (nD k) (LN l) = some (.bl (! decide (k∈l))) := by
  show (if za0 (nD k) = true∧(l.map nD).all za0 = true then some ((l.map nD).any fun y => eqs y (nD k)) else none).map (fun b => D.bl (! b)) = _
  rw [if_pos ⟨rfl,zof l⟩,anyE]; rfl
end Law
end
section
namespace Law
open PySem L2 DL
theorem zg7 (k : Nat) : zdk [nD k] = .ok (.bl true) := rfl
theorem zg8 (k b : Nat) : zcg [nD k,nD b] = .ok (.bl (decide (k < b))) := by
  refine zaM (B := zdm) (n := 2) ?_
  unfold zdm
  refine zan (zaA ?_)
  rw [zf1 (zao (zad (d := nD k) rfl zai) (zg7 k))]
  exact zok rfl rfl (zrj k) rfl (zn2 k b)
end Law
end
section
namespace Law
open PySem L2 DL
theorem zd2 {α : Type} (f : α→D) (l : List α) : lenD [.tup (l.map f)] = some (nD l.length) := by
  show some (D.int ((l.map f).length : Int)) = _
  rw [List.length_map]
theorem zbI {α : Type} (f : α→D) (l : List α) : lenD [.lst (l.map f)] = some (nD l.length) := by
  show some (D.int ((l.map f).length : Int)) = _
  rw [List.length_map]
theorem zeY (n : Nat) : eqD (nD n) (nD n) = some (.bl true) := by
  have e := zjh n n
  rw [decide_eq_true rfl] at e; exact e
theorem zmH (n : Nat) : rngD 0 n = (List.range n).map nD := by
  unfold rngD
  refine List.map_congr_left fun i _ => ?_
  show D.int (0 + (i : Int)) = D.int (i : Int)
  rw [Int.zero_add]
theorem zlX (j : Int) : zhk [.int j] = if -(2 ^ 62)≤j∧j < 2 ^ 62∧j.toNat≤sizeLine then some (.lst (rngD 0 j.toNat)) else none := rfl
theorem zgz {n : Nat} (h : n≤1000) : zhk [nD n] = some (LN (List.range n)) := by
  have hs : (n : Int).toNat≤sizeLine := by rw [Int.toNat_natCast,sizeLine_eq]; omega
  rw [zlX,if_pos ⟨by omega,by omega,hs⟩,Int.toNat_natCast,zmH]
theorem znv (j : Int) : rng1 [.int j] = if -(2 ^ 62)≤j∧j < 2 ^ 62 then some (rngD 0 j.toNat) else none := rfl
theorem zg9 {n : Nat} (h : n≤1000) : rng1 [nD n] = some ((List.range n).map nD) := by
  rw [znv,if_pos ⟨by omega,by omega⟩,Int.toNat_natCast,zmH]
theorem zfv {fl : Rho→Res (List D)} {k : List D→Option (List D)} {r : Rho} {ds es : List D} (h1 : fl r = .ok ds) (h2 : k ds = some es) : fRng k fl r = .ok es := by unfold fRng; rw [h1,bind_ok,h2]; rfl
theorem zfs {p : Nat→Bool} : ∀ (l : List Nat),l.find? p = (l.filter p).head?
  | [] => rfl
  | a::l => by
    rw [List.find?_cons,List.filter_cons]
    cases h : p a with
    | true => simp
    | false => simpa using zfs l
theorem zl9 (o : Option Nat) (x : Nat) : eqD (oD o) (nD x) = some (.bl (decide (o = some x))) := by
  cases o with
  | none =>
    unfold eqD oD
    rw [eqB_non_int]
    simp
  | some k =>
    show eqD (nD k) (nD x) = _
    rw [zjh]
    simp
noncomputable def own (owns : List (Option Nat)) (h : Nat) : Option Nat := (owns[h]?).join
theorem zj9 {owns : List (Option Nat)} {h : Nat} (hh : h < owns.length) : (owns.map oD)[h]? = some (oD (own owns h)) := by
  rw [List.getElem?_map,List.getElem?_eq_getElem hh]
  unfold own
  rw [List.getElem?_eq_getElem hh]
  rfl
end Law
end
section
namespace Law
open PySem L2 DL
theorem ziW {row : List Nat} {rest : List (List Nat)} : zbY [WD (row::rest)] = .ok (nD row.length) := by
  refine zaM (B := zcA) (n := 1) ?_
  unfold zcA
  exact zan (zaA (zaS (zad (zaj (a := WD (row::rest)) (b := .int 0) rfl rfl (ixA_T0 _ _)) zai) (zd2 _ _)))
end Law
end
section
namespace Law
open PySem L2 DL
theorem zlB {row things : List Nat} (h : ∃ x∈row,x∈things) (hl : row.length≤1000) : zbs [TN row,LN things] = .ok (nD (Rg.best row things)) := by
  refine zaM (B := zcB) (n := 2) ?_
  unfold zcB
  have hc : (zd4 1 [1] (fSeq zbA (gv 0)) (ftN 0) (zav (f2 (gv 0) (gv 1) inD)) (gv 0)) [some (TN row),some (LN things)] = .ok (LN (row.filter fun x => decide (x∈things))) := by
    refine zdD nD (fun x => decide (x∈things)) nD (l := row) rfl hl fun a _ => ⟨[some (nD a),some (LN things)],rfl,?_,fun _ => rfl⟩
    exact zal (zaj (a := nD a) (b := LN things) rfl rfl (zp1 _ _))
  have hb : ∃ t,(row.filter fun x => decide (x∈things)) = Rg.best row things::t := by
    unfold Rg.best
    rw [zfs]
    cases e : row.filter fun x => decide (x∈things) with
    | nil =>
      obtain ⟨x,h1,h2⟩ := h
      have : x∈row.filter fun x => decide (x∈things) := List.mem_filter.mpr ⟨h1,by simpa using h2⟩
      rw [e] at this; cases this
    | cons a t => exact ⟨t,rfl⟩
  obtain ⟨t,ht⟩ := hb
  rw [ht] at hc
  exact zan (zaA (zaj hc (b := .int 0) rfl (ixA_L0 _ _)))
end Law
end
section
namespace Law
open PySem L2 DL
noncomputable abbrev zfQ (pre : List Nat) : D := .dic ((pre.map fun k => (k,D.bl true)).map fun p => (kI p.1,p.2))
theorem zkV (b : Nat) (num : D) : ∀ (suf pre : List Nat) (x y : Option D),(pre++suf).Nodup→(∀ k∈suf,k < b)→(pre++suf).length≤1000 →
    ∃ x' y',forF (ftT (zbg (ftN 3) (zbg (ftN 4) zfX))) zbX (enuD pre.length (suf.map nD)) [some num,some (nD b),some (zfQ pre),x,y] = .nx [some num,some (nD b),some (zfQ (pre++suf)),x',y']
  | [],pre,x,y,_,_,_ => ⟨x,y,by rw [List.append_nil]; exact zbT⟩
  | k::suf,pre,x,y,hn,hb,hl => by
    have hk : k∉pre := fun z => (List.nodup_append.mp hn).2.2 k z k List.mem_cons_self rfl
    obtain ⟨x',y',ih⟩ := zkV b num suf (pre++[k]) (some (nD pre.length)) (some (nD k)) (by simpa using hn) (fun j hj => hb j (List.mem_cons_of_mem _ hj)) (by simpa using hl)
    refine ⟨x',y',?_⟩
    rw [show (pre++[k]).length = pre.length + 1 by simp] at ih
    rw [show pre++k::suf = (pre++[k])++suf by simp,← ih]
    show forF _ _ (.tup [.int ((pre.length : Nat) : Int),nD k]::enuD (pre.length + 1) (suf.map nD)) _ = _
    refine zcL (r1 := [some num,some (nD b),some (zfQ pre),some (nD pre.length),some (nD k)]) rfl ?_
    have c2 : inD (nD k) (zfQ pre) = some (.bl false) := by
      show (some (hasK _ (kI k))).map D.bl = _
      rw [zm5,List.map_map]
      have : decide (k∈pre.map ((fun p : Nat × D => p.1) ∘ fun k => (k,D.bl true))) = false := by
        rw [decide_eq_false_iff_not]
        simpa [Function.comp_def] using hk
      rw [this]; rfl
    have c3 : stoD (zfQ pre) (nD k) (.bl true) = some (zfQ (pre++[k])) := by
      show (if _ then some (D.dic (putD _ (kI k) (.bl true))) else none) = _
      rw [if_pos (by rw [List.length_map,List.length_map,sizeLine_eq]; simp at hl; omega),zlF _ _ _ (by rw [List.map_map]; simpa [Function.comp_def] using hk)]
      simp
    have c1 : decide (k < b) = true := decide_eq_true (hb k List.mem_cons_self)
    unfold zbX
    have hif : (fOr (fNot (fTru (zaz (zac (gv 4) (zac (gv 1) lNil)) [] zcg))) (zav (f2 (gv 4) (gv 2) inD))) [some num,some (nD b),some (zfQ pre),some (nD pre.length),some (nD k)] = .ok false := by
      have h0 := zg8 k b
      rw [c1] at h0
      rw [or_f (zcK (zbd (b := true) (zao (zad (d := nD k) rfl (zad (d := nD b) rfl zai)) h0) rfl))]
      exact zal (zaj (a := nD k) (b := zfQ pre) rfl rfl c2)
    refine (zae (zjf hif)).trans ?_
    exact zae (zmJ (d := zfQ pre) (k := nD k) rfl rfl rfl c3)
theorem ze9 {l : List Nat} {b : Nat} (hn : l.Nodup) (hb : ∀ k∈l,k < b) (hl : l.length≤1000) : zbL [LN l,nD b] = .ok (nD l.length) := by
  obtain ⟨x',y',h⟩ := zkV b (LN l) l [] none none hn hb hl
  refine zaM (B := zbO) (n := 5) ?_
  unfold zbO
  refine (zae (r' := [some (LN l),some (nD b),some (zfQ []),none,none]) rfl).trans ?_
  refine (zae ((zbq (ds := enuD 0 (l.map nD)) rfl).trans h)).trans ?_
  exact zan (zaA (zaS (zad (d := LN l) rfl zai) (zbI _ _)))
theorem ziV {l : List Nat} {n : Nat} (hn : l.Nodup) (hb : ∀ k∈l,k < n) (h8 : l.length≤1000) : zb6 [LN l,nD n] = .ok (.bl true) := by
  refine zaM (B := zb9) (n := 2) ?_
  unfold zb9
  exact zan (zaA (zaj (a := nD l.length) (b := nD l.length) (zao (zad (d := LN l) rfl (zad (d := nD n) rfl zai)) (ze9 hn hb h8)) (zaS (zad (d := LN l) rfl zai) (zbI _ _)) (zeY _)))
theorem znt {l : List Nat} {n : Nat} (hn : l.Nodup) (hb : ∀ k∈l,k < n) (hl : l.length = n) (h8 : n≤1000) : zbj [LN l,nD n] = .ok (.bl true) := by
  refine zaM (B := zbl) (n := 2) ?_
  unfold zbl
  subst hl
  refine zan (zaA ?_)
  rw [zf1 (zaj (a := nD l.length) (b := nD l.length) (zaS (zad (d := LN l) rfl zai) (zbI _ _)) rfl (zeY _))]
  exact zao (zad (d := LN l) rfl (zad (d := nD l.length) rfl zai)) (ziV hn hb h8)
theorem zfS {rows : List (List Nat)} (h : rows.length≤1000) : zbr [WD rows,.non] = .ok (LN (List.range rows.length)) := by
  refine zaM (B := zbQ) (n := 2) ?_
  unfold zbQ
  refine zan ((zjf (b := true) rfl).trans ?_)
  rw [if_pos rfl]
  exact zan (zaA (zaS (ds := [nD rows.length]) (zad (zaS (zad (d := WD rows) rfl zai) (zd2 _ _)) zai) (zgz h)))
theorem zjL {rows : List (List Nat)} {l : List Nat} (hn : l.Nodup) (hb : ∀ k∈l,k < rows.length) (hl : l.length = rows.length) (h8 : rows.length≤1000) : zbr [WD rows,LN l] = .ok (LN l) := by
  refine zaM (B := zbQ) (n := 2) ?_
  unfold zbQ
  refine (zae (r' := [some (WD rows),some (LN l)]) ((zjf (b := false) rfl).trans rfl)).trans ?_
  refine (zae (r' := [some (WD rows),some (LN l)]) ((zjf (b := false) (zcK (b := true) (zbd (zao (zad (d := LN l) rfl (zad (zaS (zad (d := WD rows) rfl zai) (zd2 _ _)) zai)) (znt hn hb hl h8)) rfl))).trans rfl)).trans ?_
  exact zan (zaA (zaS (zad (d := LN l) rfl zai) rfl))
end Law
end
section
namespace Law
open PySem PyProof.Rows L2 DL
theorem zkO (owns : List (Option Nat)) (line : List Nat) (x : Nat) : ∀ (l : List Nat) (y : Option D),(∀ h∈l,h < owns.length) →
    (match l.find? (fun h => decide (own owns h = some x)) with
      | some h => forF (ftN 3) za6 (l.map nD) [some (OD owns),some (LN line),some (nD x),y] = .rt (nD h)
      | none => ∃ y',forF (ftN 3) za6 (l.map nD) [some (OD owns),some (LN line),some (nD x),y] = .nx [some (OD owns),some (LN line),some (nD x),y'])
  | [],y,_ => ⟨y,zbT⟩
  | h::l,y,hl => by
    have c : (zav (f2 (f2 (gv 0) (gv 3) ixA) (gv 2) eqD)) [some (OD owns),some (LN line),some (nD x),some (nD h)] = .ok (decide (own owns h = some x)) :=
      zal (zaj (zaj (a := OD owns) (b := nD h) rfl rfl (zdB (zj9 (hl h List.mem_cons_self)))) (b := nD x) rfl (zl9 _ _))
    rw [List.find?_cons]
    cases e : decide (own owns h = some x) with
    | true =>
      rw [e] at c
      refine zm8 (r1 := [some (OD owns),some (LN line),some (nD x),some (nD h)]) rfl ?_
      exact zan ((if_t c).trans (zan (zaA (d := nD h) rfl)))
    | false =>
      rw [e] at c
      have ih := zkO owns line x l (some (nD h)) fun k hk => hl k (List.mem_cons_of_mem _ hk)
      have st : forF (ftN 3) za6 ((h::l).map nD) [some (OD owns),some (LN line),some (nD x),y] = forF (ftN 3) za6 (l.map nD) [some (OD owns),some (LN line),some (nD x),some (nD h)] :=
        zcL (r1 := [some (OD owns),some (LN line),some (nD x),some (nD h)]) rfl ((zae (if_f c)).trans rfl)
      rw [st]
      exact ih
theorem zg1 {owns : List (Option Nat)} {line : List Nat} {x : Nat} (hl : ∀ h∈line,h < owns.length) : zbB [OD owns,LN line,nD x] = .ok (oD (line.find? fun h => decide (own owns h = some x))) := by
  refine zaM (B := zb8) (n := 4) ?_
  unfold zb8
  have h := zkO owns line x line none hl
  cases e : line.find? fun h => decide (own owns h = some x) with
  | some k =>
    rw [e] at h
    exact zan ((zbq (ds := line.map nD) rfl).trans h)
  | none =>
    rw [e] at h
    obtain ⟨y',h⟩ := h
    exact (zae ((zbq (ds := line.map nD) rfl).trans h)).trans (zan (zaA (d := .non) rfl))
theorem zrm (o : Option Nat) : isD (oD o) .non = some (.bl (decide (o = none))) := by cases o <;> rfl
end Law
end
section
namespace Law
open PySem L2 DL
noncomputable abbrev KD (kvs : List (Nat × Nat)) : D := .dic (kvs.map fun p => (kI p.1,nD p.2))
theorem zm3 {a b : Nat} (h : kI a = kI b) : a = b := Int.ofNat_inj.mp (Sum.inl.inj h)
noncomputable def putN (kvs : List (Nat × Nat)) (k v : Nat) : List (Nat × Nat) := if k∈kvs.map (·.1) then kvs.map fun p => if p.1 = k then (p.1,v) else p else kvs++[(k,v)]
theorem hasN (kvs : List (Nat × Nat)) (k : Nat) : ((kvs.map fun p => (kI p.1,nD p.2)).any fun kv => decide (kv.1 = kI k)) = decide (k∈kvs.map (·.1)) := by
  rw [List.any_map,Bool.eq_iff_iff,List.any_eq_true,decide_eq_true_iff,List.mem_map]
  constructor
  · rintro ⟨p,h1,h2⟩
    simp only [Function.comp_apply,decide_eq_true_eq] at h2
    exact ⟨p,h1,zm3 h2⟩
  · rintro ⟨p,h1,rfl⟩
    exact ⟨p,h1,by simp⟩
theorem zpj (kvs : List (Nat × Nat)) (k v : Nat) : putD (kvs.map fun p => (kI p.1,nD p.2)) (kI k) (nD v) = (putN kvs k v).map fun p => (kI p.1,nD p.2) := by
  unfold putD putN
  rw [hasN]
  by_cases h : k∈kvs.map (·.1)
  · rw [decide_eq_true h,if_pos rfl,if_pos h,List.map_map,List.map_map]
    refine List.map_congr_left fun p _ => ?_
    simp only [Function.comp_apply]
    by_cases e : p.1 = k
    · rw [if_pos (by rw [e]),if_pos e]
    · rw [if_neg (fun z => e (zm3 z)),if_neg e]
  · rw [decide_eq_false h,if_neg Bool.false_ne_true,if_neg h,List.map_append]
    rfl
theorem zjZ (kvs : List (Nat × Nat)) (k v j : Nat) : j∈(putN kvs k v).map (·.1)↔j∈kvs.map (·.1)∨j = k := by
  unfold putN
  by_cases h : k∈kvs.map (·.1)
  · rw [if_pos h,List.map_map]
    have : ((fun p : Nat × Nat => p.1) ∘ fun p => if p.1 = k then (p.1,v) else p) = fun p => p.1 := by
      funext p
      simp only [Function.comp_apply]
      split <;> rfl
    rw [this]
    constructor
    · exact .inl
    · rintro (z | rfl)
      · exact z
      · exact h
  · rw [if_neg h]; simp
theorem zlE {kvs : List (Nat × Nat)} {k v : Nat} {f : Nat→Nat} (h : ∀ p∈kvs,p.2 = f p.1) (hv : v = f k) : ∀ p∈putN kvs k v,p.2 = f p.1 := by
  intro p hp
  unfold putN at hp
  split at hp
  · obtain ⟨q,h1,rfl⟩ := List.mem_map.mp hp
    split
    · rename_i e; simp only; rw [e]; exact hv
    · exact h q h1
  · rcases List.mem_append.mp hp with z | z
    · exact h p z
    · rw [List.mem_singleton.mp z]; exact hv
theorem zoP {kvs : List (Nat × Nat)} {k v : Nat} (hl : kvs.length≤1000) : stoD (KD kvs) (nD k) (nD v) = some (KD (putN kvs k v)) := by
  show (if (kvs.map fun p => (kI p.1,nD p.2)).length < sizeLine then some (D.dic (putD _ (kI k) (nD v))) else none) = _
  rw [if_pos (by rw [List.length_map,sizeLine_eq]; omega),zpj]
structure GI (t : Nat→Nat) (kvs : List (Nat × Nat)) (L : List Nat) : Prop where
  nd : (kvs.map (·.1)).Nodup
  val : ∀ p∈kvs,p.2 = t p.1
  key : ∀ h,h∈kvs.map (·.1)↔h∈L
theorem znz {kvs : List (Nat × Nat)} {k v : Nat} (h : (kvs.map (·.1)).Nodup) : ((putN kvs k v).map (·.1)).Nodup := by
  unfold putN
  split
  · rw [List.map_map]
    have : ((fun p : Nat × Nat => p.1) ∘ fun p => if p.1 = k then (p.1,v) else p) = fun p => p.1 := by
      funext p
      simp only [Function.comp_apply]
      split <;> rfl
    rw [this]; exact h
  · rename_i hk
    rw [List.map_append]
    refine List.nodup_append.mpr ⟨h,by simp,fun a ha b hb => ?_⟩
    simp at hb
    rintro rfl
    exact hk (hb ▸ ha)
theorem GI.put {t : Nat→Nat} {kvs : List (Nat × Nat)} {L : List Nat} (g : GI t kvs L) (k : Nat) : GI t (putN kvs k (t k)) (L++[k]) :=
  ⟨znz g.nd,zlE g.val rfl,fun h => by rw [zjZ,g.key]; simp⟩
theorem GI.len {t : Nat→Nat} {kvs : List (Nat × Nat)} {L line : List Nat} (g : GI t kvs L) (hs : ∀ h∈L,h∈line) : kvs.length≤line.length := by
  have := Rg.zcm (m := line) g.nd fun h hh => hs h ((g.key h).mp hh)
  simpa using this
theorem GI.mem {t : Nat→Nat} {kvs : List (Nat × Nat)} {L M : List Nat} (g : GI t kvs L) (h : ∀ x,x∈L↔x∈M) : GI t kvs M := ⟨g.nd,g.val,fun x => (g.key x).trans (h x)⟩
theorem GI.nil (t : Nat→Nat) : GI t [] [] := ⟨by simp,fun _ hp => (nomatch hp),fun h => by simp⟩
theorem zc0 {α : Type} (l : List α) : l.filter (fun _ => true) = l := List.filter_eq_self.mpr fun _ _ => rfl
noncomputable def Wr (rows : List (List Nat)) (h : Nat) : List Nat := (rows[h]?).getD []
theorem zmG {rows : List (List Nat)} {h : Nat} (hh : h < rows.length) : (rows.map TN)[h]? = some (TN (Wr rows h)) := by
  rw [List.getElem?_map]
  unfold Wr
  rw [List.getElem?_eq_getElem hh]; rfl
end Law
end
section
namespace Law
open PySem PyProof.Rows L2 DL
noncomputable abbrev zaF (t : Nat→Nat) (h : Nat) : D := .tup [nD h,nD (t h)]
noncomputable abbrev za2 (t : Nat→Nat) (ring : List Nat) : D := .tup (ring.map (zaF t))
section
variable {t f : Nat → Nat} {line : List Nat} {first : Nat} (hcl : ∀ h ∈ line, f h ∈ line) (hn : line.length ≤ 60)
include hcl hn
end
structure Snd (rows : List (List Nat)) (owns : List (Option Nat)) (s : Rg.S) : Prop where
  ok : Rg.Ok (Wr rows) (own owns) s
  inr : ∀ h∈s.line,h < rows.length
  ino : ∀ h∈s.line,h < owns.length
  wid : ∀ h∈s.line,(Wr rows h).length≤1000
  nl : s.line.length≤60
  nt : s.things.length≤60
section
variable {rows : List (List Nat)} {owns : List (Option Nat)} {s : Rg.S}
theorem Snd.tg (S : Snd rows owns s) {h : Nat} (hh : h∈s.line) : zbs [TN (Wr rows h),LN s.things] = .ok (nD (Rg.tgt (Wr rows) s h)) :=
  zlB (S.ok.some_thing hh) (S.wid h hh)
noncomputable abbrev tS (rows : List (List Nat)) (s : Rg.S) : Nat→Nat := Rg.tgt (Wr rows) s
theorem zp6 {t : Nat→Nat} {line : List Nat} (hl : line.length≤60) (rg d : D) : ∀ (ring L : List Nat) (kvs : List (Nat × Nat)) (x y : Option D),GI t kvs L→(∀ h∈L++ring,h∈line) →
    ∃ kvs' x' y',GI t kvs' (L++ring)∧forF (ftT (zbg (ftN 3) (zbg (ftN 4) zfX))) zgj (ring.map (zaF t)) [some rg,some (KD kvs),some d,x,y] = .nx [some rg,some (KD kvs'),some d,x',y']
  | [],L,kvs,x,y,g,hs => ⟨kvs,x,y,by rw [List.append_nil]; exact g,zbT⟩
  | h::ring,L,kvs,x,y,g,hs => by
    obtain ⟨kvs',x',y',g',ih⟩ := zp6 hl rg d ring (L++[h]) (putN kvs h (t h)) (some (nD h)) (some (nD (t h))) (g.put h) (by simpa using hs)
    refine ⟨kvs',x',y',by simpa using g',?_⟩
    rw [← ih]
    have hk := g.len (line := line) fun x hx => hs x (List.mem_append_left _ hx)
    exact zcL (r1 := [some rg,some (KD kvs),some d,some (nD h),some (nD (t h))]) rfl (zae (zmJ (d := KD kvs) (k := nD h) (v := nD (t h)) rfl rfl rfl (zoP (by omega))))
theorem zm6 {t : Nat→Nat} {line : List Nat} (hl : line.length≤60) (rg : D) : ∀ (rs : List (List Nat)) (L : List Nat) (kvs : List (Nat × Nat)) (z x y : Option D),GI t kvs L→(∀ h∈L++rs.flatten,h∈line) →
    ∃ kvs' z' x' y',GI t kvs' (L++rs.flatten)∧forF (ftN 2) zgi (rs.map (za2 t)) [some rg,some (KD kvs),z,x,y] = .nx [some rg,some (KD kvs'),z',x',y']
  | [],L,kvs,z,x,y,g,hs => ⟨kvs,z,x,y,by simpa using g,zbT⟩
  | r::rs,L,kvs,z,x,y,g,hs => by
    obtain ⟨kvs1,x1,y1,g1,h1⟩ := zp6 hl rg (za2 t r) r L kvs x y g fun h hh => hs h (by
      rw [List.flatten_cons]
      rcases List.mem_append.mp hh with q | q
      · exact List.mem_append_left _ q
      · exact List.mem_append_right _ (List.mem_append_left _ q))
    obtain ⟨kvs',z',x',y',g',ih⟩ := zm6 hl rg rs (L++r) kvs1 (some (za2 t r)) x1 y1 g1 (by rw [List.append_assoc]; simpa using hs)
    refine ⟨kvs',z',x',y',by rw [List.append_assoc] at g'; simpa using g',?_⟩
    rw [← ih]
    exact zcL (r1 := [some rg,some (KD kvs),some (za2 t r),x,y]) rfl (zae ((zbq (ds := r.map (zaF t)) rfl).trans h1))
theorem znu {t : Nat→Nat} {line : List Nat} {rs : List (List Nat)} (hl : line.length≤60) (hs : ∀ h∈rs.flatten,h∈line) : ∃ kvs,GI t kvs rs.flatten∧zea [.lst (rs.map (za2 t))] = .ok (KD kvs) := by
  obtain ⟨kvs',z',x',y',g',h⟩ := zm6 hl (.lst (rs.map (za2 t))) rs [] [] none none none ⟨by simp,fun _ hp => (nomatch hp),fun h => by simp⟩ (by simpa using hs)
  refine ⟨kvs',by simpa using g',zaM (B := ze1) (n := 5) ?_⟩
  unfold ze1
  refine (zae (r' := [some (.lst (rs.map (za2 t))),some (KD []),none,none,none]) rfl).trans ?_
  refine (zae ((zbq (ds := rs.map (za2 t)) rfl).trans h)).trans ?_
  exact zan (zaA (d := KD kvs') rfl)
end
section
variable {rows : List (List Nat)} {owns : List (Option Nat)}
inductive Ch (rows : List (List Nat)) (owns : List (Option Nat)) : Rg.S→List (List (List Nat) × Rg.S)→Prop where
  | nil {s : Rg.S} : s.line = []→Ch rows owns s []
  | cons {s : Rg.S} {rs : List (List Nat)} {l : List (List (List Nat) × Rg.S)} : rs.Perm (Rg.zfa (Wr rows) (own owns) s)→Ch rows owns (Rg.minus (Wr rows) s rs.flatten) l→Ch rows owns s ((rs,s)::l)
theorem Snd.minus {s : Rg.S} (S : Snd rows owns s) {C : List Nat} (c : Rg.Cyc (Wr rows) (own owns) s C) : Snd rows owns (Rg.minus (Wr rows) s C) where
  ok := Rg.zeV S.ok c
  inr := fun h hh => S.inr h (List.mem_filter.mp hh).1
  ino := fun h hh => S.ino h (List.mem_filter.mp hh).1
  wid := fun h hh => S.wid h (List.mem_filter.mp hh).1
  nl := Nat.le_trans (List.length_filter_le _ _) S.nl
  nt := Nat.le_trans (List.length_filter_le _ _) S.nt
theorem zpK {kvs : List (Nat × Nat)} {L : List Nat} {t : Nat→Nat} (g : GI t kvs L) (h : Nat) : ninD (nD h) (KD kvs) = some (.bl (decide (h∉L))) := by
  show (some (hasK _ (kI h))).map (fun b => D.bl (! b)) = _
  have e : hasK (kvs.map fun p => (kI p.1,nD p.2)) (kI h) = decide (h∈kvs.map (·.1)) := hasN kvs h
  rw [e]
  have : decide (h∈kvs.map (·.1)) = decide (h∈L) := by rw [decide_eq_decide]; exact g.key h
  rw [this]
  show some (D.bl (! decide (h∈L))) = _
  rw [decide_not]
theorem GI.vals {kvs : List (Nat × Nat)} {L : List Nat} {t : Nat→Nat} (g : GI t kvs L) (x : Nat) : x∈kvs.map (·.2)↔x∈L.map t := by
  constructor
  · intro hx
    obtain ⟨p,h1,rfl⟩ := List.mem_map.mp hx
    exact List.mem_map.mpr ⟨p.1,(g.key _).mp (List.mem_map.mpr ⟨p,h1,rfl⟩),(g.val p h1).symm⟩
  · intro hx
    obtain ⟨h,h1,rfl⟩ := List.mem_map.mp hx
    obtain ⟨p,h2,rfl⟩ := List.mem_map.mp ((g.key h).mpr h1)
    exact List.mem_map.mpr ⟨p,h2,g.val p h2⟩
theorem zrb {kvs : List (Nat × Nat)} {L : List Nat} {t : Nat→Nat} (g : GI t kvs L) (x : Nat) : ninD (nD x) (LN (kvs.map (·.2))) = some (.bl (decide (x∉L.map t))) := by
  rw [zit,decide_not]
  congr 3
  rw [decide_eq_decide]; exact g.vals x
noncomputable def ordD : Option (List Nat)→D
  | none => .non
  | some l => LN l
noncomputable def s0 (rows : List (List Nat)) (o : Option (List Nat)) : Rg.S := ⟨o.getD (List.range rows.length),List.range (rows.headD []).length⟩
theorem ziX {o : Option (List Nat)} (ho : ∀ l,o = some l→l.Nodup∧(∀ k∈l,k < rows.length)∧l.length = rows.length) (h8 : rows.length≤60) : zbr [WD rows,ordD o] = .ok (LN (s0 rows o).line) := by
  cases o with
  | none => exact zfS (by omega)
  | some l =>
    obtain ⟨h1,h2,h3⟩ := ho l rfl
    exact zjL h1 h2 h3 (by omega)
end
end Law
end
section
namespace Law
open PySem L2 DL
theorem zf6 {a b : Nat} (h : 0 < b) : modI (nD a) (nD b) = some (nD (a % b)) := by
  rw [zkq (by omega : (0 : Int) < (b : Int))]
  show some (D.int _) = some (D.int _)
  rw [Int.natCast_emod]
theorem zgI {a b : Nat} (h : 0 < b) (h2 : b < 1000) : zgJ (nD a) (nD b) = some (nD (a / b)) := by
  rw [zl5 (⟨by omega,by omega⟩ : CDiv (a : Int) (b : Int))]
  show some (D.int _) = some (D.int _)
  rw [Int.natCast_ediv]
theorem zeA (a b : Nat) : addA (nD a) (nD b) = some (nD (a + b)) := by
  rw [addA_int]
  show some (D.int _) = some (D.int _)
  rw [Int.natCast_add]
section
variable {f f' : FE} {r : Rho}
theorem zjg {b : Int} (h : ∃ i : Int,f r = .ok (.int i)) (h' : f' r = .ok (.int b)) (hb : 0 < b) : ∃ c : Nat,f2 f f' modI r = .ok (nD c) := by
  obtain ⟨i,hi⟩ := h
  refine ⟨(i % b).toNat,zaj hi h' ?_⟩
  rw [zkq hb]
  show some (D.int _) = some (D.int _)
  rw [Int.toNat_of_nonneg (Int.emod_nonneg _ (by omega))]
theorem exN (h : ∃ c : Nat,f r = .ok (nD c)) : ∃ i : Int,f r = .ok (.int i) := let ⟨c,e⟩ := h; ⟨c,e⟩
theorem zfw {b : Int} (h : ∃ i : Int,f r = .ok (.int i)) (h' : f' r = .ok (.int b)) (hb : -(2 ^ 64) < b∧b < 2 ^ 64) : ∃ i : Int,f2 f f' mulI r = .ok (.int i) := by
  obtain ⟨i,hi⟩ := h
  exact ⟨i * b,zaj hi h' (znX (.inr hb))⟩
theorem zl7 (h : ∃ i : Int,f r = .ok (.int i)) (h' : ∃ i : Int,f' r = .ok (.int i)) : ∃ i : Int,f2 f f' addA r = .ok (.int i) := by
  obtain ⟨i,hi⟩ := h
  obtain ⟨j,hj⟩ := h'
  exact ⟨i + j,zaj hi hj rfl⟩
end
theorem zqf {m : List Md} {i : Nat} {f : FE} {s2 : FS} {r : Rho} (h : ∃ c : Nat,f r = .ok (nD c)) (k : ∀ c : Nat,∃ d : Nat,s2 (r.set i (some (nD c))) = .rt (nD d)) : ∃ d : Nat,seqF (setF m i f) s2 r = .rt (nD d) := by
  obtain ⟨c,hc⟩ := h
  obtain ⟨d,hd⟩ := k c
  exact ⟨d,(zae (zau hc)).trans hd⟩
noncomputable abbrev IN (ns : List Int) : D := .lst (ns.map .int)
theorem zeT (ns : List Int) (k : Nat) (hk : k≤1000) : ∃ c : Nat,zaP [IN ns,nD k] = .ok (nD c) := by
  suffices h : ∃ c : Nat,zb0 (zap 4 [IN ns,nD k]) = .rt (nD c) by
    obtain ⟨c,hc⟩ := h
    exact ⟨c,zaM (B := zb0) (n := 4) hc⟩
  unfold zb0
  have st : seqF (setF q102 2 (ci 0)) = seqF (setF q102 2 (fun _ => Res.ok (nD 0))) := rfl
  rw [st]
  refine zqf ⟨0,rfl⟩ fun c1 => ?_
  show ∃ d : Nat,seqF _ _ [some (IN ns),some (nD k),some (nD c1),none] = _
  have key : ∃ c2 : Nat,(ifF q102 (zav (f2 (gv 1) (fC (zac (gv 0) lNil) lenD) ltI)) (seqF (setF q102 2 (f2 (f2 (gv 0) (gv 1) ixA) (f2 (ci 10) (ci 60) powI) modI)) zak) zak) [some (IN ns),some (nD k),some (nD c1),none] = .nx [some (IN ns),some (nD k),some (nD c2),none] := by
    have t := zal (zaj (f := gv 1) (r := [some (IN ns),some (nD k),some (nD c1),none]) (a := nD k) rfl (zaS (zad (f := gv 0) (d := IN ns) rfl zai) (zbI _ _)) (zn2 k ns.length))
    by_cases hlt : k < ns.length
    · rw [decide_eq_true hlt] at t
      have hx : (ns.map D.int)[k]? = some (.int ns[k]) := by rw [List.getElem?_map,List.getElem?_eq_getElem hlt]; rfl
      have hp : powI (.int 10) (.int 60) = some (.int (10 ^ 60)) := by
        show zho CPow _ _ _ = _
        rw [intsC_int,if_pos (by unfold CPow; decide)]
        rfl
      obtain ⟨c2,h2⟩ := zjg (f := f2 (gv 0) (gv 1) ixA) (f' := f2 (ci 10) (ci 60) powI) (r := [some (IN ns),some (nD k),some (nD c1),none]) ⟨ns[k],zaj (a := IN ns) (b := nD k) rfl rfl (zl1 hx)⟩ (zaj rfl rfl hp) (by decide)
      exact ⟨c2,(if_t t).trans ((zae (zau h2)).trans rfl)⟩
    · rw [decide_eq_false hlt] at t
      exact ⟨c1,(if_f t).trans rfl⟩
  obtain ⟨c2,h2⟩ := key
  rw [zae h2]
  have kq : ∃ b,(fAnd (zav (f2 (fC (zac (gv 0) lNil) lenD) (ci 0) gtI)) (zav (f2 (f2 (f2 (gv 0) (ci 0) ixA) (ci 2) modI) (ci 0) eqD))) [some (IN ns),some (nD k),some (nD c2),none] = .ok b := by
    have t := zal (zaj (f := fC (zac (gv 0) lNil) lenD) (f' := fun _ => Res.ok (D.int 0)) (r := [some (IN ns),some (nD k),some (nD c2),none]) (b := nD 0) (zaS (zad (d := IN ns) rfl zai) (zbI _ _)) rfl (zp5 ns.length 0))
    cases ns with
    | nil => exact ⟨false,zqs t⟩
    | cons a ns =>
      rw [decide_eq_true (by simp)] at t
      obtain ⟨c3,h3⟩ := zjg (f := f2 (gv 0) (ci 0) ixA) (f' := fun _ => Res.ok (D.int 2)) (r := [some (IN (a::ns)),some (nD k),some (nD c2),none]) ⟨a,zaj (a := IN (a::ns)) (b := .int 0) rfl rfl (ixA_L0 _ _)⟩ rfl (by decide)
      exact ⟨_,(zmr t).trans (zal (zaj h3 (b := nD 0) rfl (zjh c3 0)))⟩
  obtain ⟨b,hb⟩ := kq
  cases b with
  | true => exact ⟨c2,zan ((if_t hb).trans (zan (zaA (d := nD c2) rfl)))⟩
  | false =>
    rw [zae ((if_f (s2 := zak) hb).trans (e_skip _))]
    refine zqf (zjg (zfw (exN (zjg (zfw (zl7 (zl7 (zl7 ⟨(c2 : Int),rfl⟩ (zfw (b := (k : Int)) (zfw (b := (k : Int)) ⟨7,rfl⟩ rfl (by omega)) rfl (by omega))) (zfw (b := (k : Int)) ⟨13,rfl⟩ rfl (by omega))) ⟨5,rfl⟩) rfl (by decide)) rfl (by decide))) rfl (by decide)) rfl (by decide)) fun c3 => ?_
    obtain ⟨c4,h4⟩ := zjg (f := (f2 (f2 (f2 (f2 (gv 3) (ci 1) addA) (ci 40692) mulI) (ci 2147483629) modI) (ci 39373) mulI)) (f' := fun _ => Res.ok (D.int 999999937)) (r := [some (IN ns),some (nD k),some (nD c2),some (nD c3)]) (zfw (exN (zjg (zfw (zl7 ⟨(c3 : Int),rfl⟩ ⟨1,rfl⟩) rfl (by decide)) rfl (by decide))) rfl (by decide)) rfl (by decide)
    exact ⟨c4,zan (zaA h4)⟩
theorem zl2 {row : List Nat} {i : Int} {x : Nat} : insL (row.map nD) i (nD x) = (insL row i x).map nD := by
  unfold insL
  rw [List.length_map,List.map_append,List.map_cons,List.map_take,List.map_drop]
theorem zkL {row : List Nat} {i : Int} {x : Nat} : (insL row i x).Perm (x::row) := by
  unfold insL
  refine List.perm_middle.trans ?_
  rw [List.take_append_drop]
theorem zii (m : Nat) : ∀ (j i c : Nat) (row : List Nat) (x : Option D),row.Perm (List.range i)→i + j≤60 →
    ∃ (c' : Nat) (row' : List Nat) (x' : Option D),row'.Perm (List.range (i + j))∧forF (ftN 3) zeG ((List.range' i j).map nD) [some (nD c),some (nD m),some (LN row),x] = .nx [some (nD c'),some (nD m),some (LN row'),x']
  | 0,i,c,row,x,hp,_ => ⟨c,row,x,hp,zbT⟩
  | j + 1,i,c,row,x,hp,hl => by
    have hlen : row.length = i := by rw [hp.length_eq]; simp
    obtain ⟨c',row',x',h1,h2⟩ := zii m j (i + 1) (c / (i + 1)) (insL row ((c % (i + 1) : Nat) : Int) i) (some (nD i)) (by
      refine zkL.trans ?_
      rw [List.range_succ]
      exact (List.Perm.cons i hp).trans (List.perm_append_singleton i _).symm) (by omega)
    refine ⟨c',row',x',by rw [show i + (j + 1) = i + 1 + j by omega]; exact h1,?_⟩
    rw [← h2]
    have hmod : c % (i + 1) < i + 1 := Nat.mod_lt _ (by omega)
    refine zcL (r1 := [some (nD c),some (nD m),some (LN row),some (nD i)]) rfl ?_
    refine (zae (zbH (d := LN row) (ds := [nD (c % (i + 1)),nD i]) (d' := LN (insL row ((c % (i + 1) : Nat) : Int) i)) rfl rfl (zad (zaj (a := nD c) (b := nD (i + 1)) rfl (zaj (a := nD i) (b := nD 1) rfl rfl (zeA i 1)) (zf6 (by omega))) (zad (d := nD i) rfl zai)) ?_)).trans ?_
    · show (if _ then some (D.lst (insL _ _ _)) else none) = _
      rw [if_pos ⟨by rw [List.length_map,sizeLine_eq]; omega,by omega,by omega⟩,zl2]
    · exact zae (zau (d := nD (c / (i + 1))) (zaj (a := nD c) (b := nD (i + 1)) rfl (zaj (a := nD i) (b := nD 1) rfl rfl (zeA i 1)) (zgI (by omega) (by omega))))
theorem zjJ (c m : Nat) (hm : m≤60) : ∃ row : List Nat,row.Perm (List.range m)∧zbt [nD c,nD m] = .ok (TN row) := by
  obtain ⟨c',row',x',h1,h2⟩ := zii m m 0 c [] none (by simp) (by omega)
  rw [Nat.zero_add] at h1
  rw [← List.range_eq_range'] at h2
  refine ⟨row',h1,zaM (B := zdn) (n := 4) ?_⟩
  unfold zdn
  refine (zae (zau (d := LN []) (zd0 zai (by simp)))).trans ?_
  refine (zae ((zbq (ds := (List.range m).map nD) (zfv (zad (d := nD m) rfl zai) (zg9 (by omega)))).trans h2)).trans ?_
  exact zan (zaA (zaS (zad (d := LN row') rfl zai) rfl))
end Law
end
section
namespace Law
open PySem PyProof.Rows L2 DL
theorem zrx (a b : Nat) : eqs (nD a) (nD b) = decide (a = b) := by
  show (((a : Nat) : Int) == (b : Int)) = _
  rw [Bool.eq_iff_iff,beq_iff_eq,decide_eq_true_iff]; exact Int.ofNat_inj
theorem zh0 (k : Nat) : ∀ l : List Nat,k∈l→zei (nD k) (l.map nD) = some (l.idxOf k)
  | [],h => by cases h
  | a::l,h => by
    show (if eqs (nD a) (nD k) = true then some 0 else (zei (nD k) (l.map nD)).map (· + 1)) = _
    rw [zrx]
    by_cases e : a = k
    · rw [if_pos (by simpa using e)]; subst e; simp
    · rw [if_neg (by simpa using e),zh0 k l ((List.mem_cons.mp h).resolve_left fun z => e z.symm)]
      have hf : (a == k) = false := by simpa using e
      rw [List.idxOf_cons,hf]; rfl
theorem zkY (k : Nat) : ∀ l : List Nat,(l.map nD).eraseIdx (l.idxOf k) = (l.erase k).map nD
  | [] => rfl
  | a::l => by
    by_cases e : a = k
    · subst e; simp
    · rw [List.idxOf_cons,List.erase_cons_tail (by simpa using e)]
      have : (a == k) = false := by simpa using e
      rw [this]
      show nD a::(l.map nD).eraseIdx (l.idxOf k) = _
      rw [zkY k l]; rfl
theorem zjT {k : Nat} {l : List Nat} (h : k∈l) : remD (LN l) [nD k] = some (LN (l.erase k)) := by
  show (if (l.map nD).all isInt = true then (zei (nD k) (l.map nD)).map fun j => D.lst ((l.map nD).eraseIdx j) else none) = _
  rw [if_pos (by rw [List.all_eq_true]; intro x hx; obtain ⟨y,_,rfl⟩ := List.mem_map.mp hx; rfl),zh0 k l h]
  show some (D.lst _) = some (D.lst _)
  rw [zkY]
theorem zl6 {T : String} {fo : FE} {fl : Rho→Res (List D)} {k : D→List D→Option D} {r : Rho} {d d' : D} {ds : List D} (h1 : fo r = .ok d) (ht : tyM T d = true) (h2 : fl r = .ok ds) (h3 : k d ds = some d') : fM T fo fl k r = .ok d' := by
  unfold fM; rw [h1,bind_ok,if_pos ht,h2,bind_ok,h3]; rfl
section
variable {a : Nat → Nat} {n : Nat}
end
end Law
end
section
namespace Law
open PySem PyProof.Rows L2 DL
structure Own (owns : List (Option Nat)) (m : Nat) : Prop where
  lt : ∀ x,some x∈owns→x < m
  inj : ∀ h k x,own owns h = some x→own owns k = some x→h = k
theorem zhV {owns : List (Option Nat)} {h x : Nat} (e : own owns h = some x) : some x∈owns∧h < owns.length := by
  unfold own at e
  cases q : owns[h]? with
  | none => rw [q] at e; cases e
  | some o =>
    rw [q] at e
    have : o = some x := e
    subst this
    exact ⟨List.mem_of_getElem? q,(List.getElem?_eq_some_iff.mp q).1⟩
theorem zka {owns : List (Option Nat)} {o : Option Nat} {h : Nat} : own (owns++[o]) h = if h < owns.length then own owns h else if h = owns.length then o else none := by
  unfold own
  by_cases q : h < owns.length
  · rw [if_pos q,List.getElem?_append_left q]
  · rw [if_neg q,List.getElem?_append_right (by omega)]
    by_cases z : h = owns.length
    · subst z; simp
    · rw [if_neg z,List.getElem?_eq_none (by simp; omega)]; rfl
theorem Own.app_none {owns : List (Option Nat)} {m : Nat} (w : Own owns m) : Own (owns++[none]) m where
  lt := fun x hx => w.lt x (by simpa using hx)
  inj := fun h k x h1 h2 => by
    rw [zka] at h1 h2
    have f : ∀ h,(if h < owns.length then own owns h else if h = owns.length then none else none) = some x→own owns h = some x := by
      intro h e
      split at e
      · exact e
      · split at e <;> cases e
    exact w.inj h k x (f h h1) (f k h2)
theorem Own.app_some {owns : List (Option Nat)} {m t : Nat} (w : Own owns m) (ht : t < m) (hn : some t∉owns) : Own (owns++[some t]) m where
  lt := fun x hx => by
    rcases List.mem_append.mp hx with z | z
    · exact w.lt x z
    · simp at z; omega
  inj := fun h k x h1 h2 => by
    rw [zka] at h1 h2
    split at h1 <;> split at h2
    · exact w.inj h k x h1 h2
    · split at h2
      · cases h2; exact absurd (zhV h1).1 hn
      · cases h2
    · split at h1
      · cases h1; exact absurd (zhV h2).1 hn
      · cases h1
    · split at h1
      · split at h2
        · omega
        · cases h2
      · cases h1
theorem anyO (l : List (Option Nat)) (k : Nat) : (l.map oD).any (fun y => eqs y (nD k)) = decide (some k∈l) := by
  rw [List.any_map,Bool.eq_iff_iff,List.any_eq_true,decide_eq_true_iff]
  constructor
  · rintro ⟨x,h1,h2⟩
    cases x with
    | none => cases h2
    | some x =>
      have : (((x : Nat) : Int) == (k : Int)) = true := h2
      have := Int.ofNat_inj.mp (eq_of_beq this)
      subst this; exact h1
  · intro h
    exact ⟨some k,h,by show (((k : Nat) : Int) == (k : Int)) = true; simp⟩
theorem zrs (l : List (Option Nat)) : (l.map oD).all za0 = true := by
  rw [List.all_eq_true]
  intro x hx
  obtain ⟨k,_,rfl⟩ := List.mem_map.mp hx
  cases k <;> rfl
theorem zro (l : List (Option Nat)) (k : Nat) : inD (nD k) (.lst (l.map oD)) = some (.bl (decide (some k∈l))) := by
  show (if za0 (nD k) = true∧(l.map oD).all za0 = true then some ((l.map oD).any fun y => eqs y (nD k)) else none).map D.bl = _
  rw [if_pos ⟨rfl,zrs l⟩,anyO]; rfl
structure Scene (rows : List (List Nat)) (owns : List (Option Nat)) (o : Option (List Nat)) (n m : Nat) : Prop where
  n1 : 1≤n
  n7 : n≤7
  nm : n≤m
  m8 : m≤8
  rl : rows.length = n
  rp : ∀ row∈rows,row.Perm (List.range m)
  ow : Own owns m
  ol : owns.length = n
  op : ∀ l,o = some l→l.Perm (List.range n)
section
variable {rows : List (List Nat)} {owns : List (Option Nat)} {o : Option (List Nat)} {n m : Nat}
theorem Scene.ne (S : Scene rows owns o n m) : rows≠[] := by
  rintro rfl
  have := S.rl; have := S.n1
  simp at *; omega
theorem Scene.row (S : Scene rows owns o n m) {h : Nat} (hh : h < n) : (Wr rows h).Perm (List.range m) := by
  unfold Wr
  rw [List.getElem?_eq_getElem (by rw [S.rl]; exact hh)]
  exact S.rp _ (List.getElem_mem _)
theorem Scene.row0 (S : Scene rows owns o n m) : (rows.headD []).length = m := by
  cases rows with
  | nil => exact absurd rfl S.ne
  | cons r t => rw [List.headD_cons,(S.rp r List.mem_cons_self).length_eq]; simp
theorem Scene.line_perm (S : Scene rows owns o n m) : (s0 rows o).line.Perm (List.range n) := by
  unfold s0
  cases o with
  | none => rw [S.rl]; exact List.Perm.refl _
  | some l => exact S.op l rfl
theorem Scene.mem (S : Scene rows owns o n m) {h : Nat} : h∈(s0 rows o).line↔h < n := by
  rw [S.line_perm.mem_iff]; exact List.mem_range
theorem Scene.things (S : Scene rows owns o n m) : (s0 rows o).things = List.range m := by
  unfold s0; rw [S.row0]
theorem Scene.ok (S : Scene rows owns o n m) : Rg.Ok (Wr rows) (own owns) (s0 rows o) where
  nl := S.line_perm.nodup_iff.mpr List.nodup_range
  nt := by rw [S.things]; exact List.nodup_range
  le := by
    rw [S.things,S.line_perm.length_eq]
    simp; exact S.nm
  row := fun h hh x hx => by
    rw [S.things] at hx
    exact (S.row (S.mem.mp hh)).mem_iff.mpr hx
  inj := S.ow.inj
  own := fun h hh x hx => by rw [S.things]; exact List.mem_range.mpr (S.ow.lt x (zhV hx).1)
theorem Scene.snd (S : Scene rows owns o n m) : Snd rows owns (s0 rows o) where
  ok := S.ok
  inr := fun h hh => by rw [S.rl]; exact S.mem.mp hh
  ino := fun h hh => by rw [S.ol]; exact S.mem.mp hh
  wid := fun h hh => by
    have := (S.row (S.mem.mp hh)).length_eq
    have := S.m8
    simp at *; omega
  nl := by
    have := S.line_perm.length_eq
    have := S.n7
    simp at *; omega
  nt := by
    rw [S.things]
    have := S.m8
    simp; omega
theorem Scene.ord (S : Scene rows owns o n m) : ∀ l,o = some l→l.Nodup∧(∀ k∈l,k < rows.length)∧l.length = rows.length := by
  intro l hl
  have p := S.op l hl
  refine ⟨p.nodup_iff.mpr List.nodup_range,fun k hk => ?_,?_⟩
  · rw [S.rl]; exact List.mem_range.mp (p.mem_iff.mp hk)
  · rw [p.length_eq,S.rl]; simp
theorem zqr {mm : List Md} {f : FE} {ft : FT} {r r' : Rho} {d : D} (h : f r = .ok d) (h2 : ft d r = some r') : asgF mm f ft r = .nx r' := by
  unfold asgF; rw [h,onE_ok]; simp only [h2]
end
end Law
end
section
namespace Law
open PySem L2 DL
theorem zg6 (c n : Nat) (hn : n≤60) : ∃ o : Option (List Nat),(∀ l,o = some l→l.Perm (List.range n))∧zbk [nD c,nD n] = .ok (ordD o) := by
  have t := zal (zaj (f := f2 (gv 0) (ci 3) modI) (f' := fun _ => Res.ok (D.int 0)) (r := [some (nD c),some (nD n)]) (a := nD (c % 3)) (b := nD 0) (zaj (a := nD c) (b := nD 3) rfl rfl (zf6 (by decide))) rfl (zjh (c % 3) 0))
  by_cases q : c % 3 = 0
  · rw [decide_eq_true q] at t
    refine ⟨none,fun l hl => (nomatch hl),zaM (B := zbm) (n := 2) ?_⟩
    exact zan ((if_t t).trans (zan (zaA (d := .non) rfl)))
  · rw [decide_eq_false q] at t
    obtain ⟨row,h1,h2⟩ := zjJ (c / 3) n hn
    refine ⟨some row,fun l hl => by cases hl; exact h1,zaM (B := zbm) (n := 2) ?_⟩
    refine (zae (if_f t)).trans ?_
    exact zan (zaA (zaS (zad (zao (zad (zaj (a := nD c) (b := nD 3) rfl rfl (zgI (by decide) (by decide))) (zad (d := nD n) rfl zai)) h2) zai) rfl))
end Law
end
section
namespace Law
open PySem L2 DL
theorem ziU (ns : List Int) (at' n m : Nat) (ha : at'≤60) (hn : n≤60) (hm : m≤60) : ∃ rows : List (List Nat),rows.length = n∧(∀ row∈rows,row.Perm (List.range m))∧zbM [IN ns,nD at',nD n,nD m] = .ok (WD rows) := by
  have h : ∀ h : Nat,∃ row : List Nat,h≤60→row.Perm (List.range m)∧∃ c : Nat,zaP [IN ns,nD (at' + h)] = .ok (nD c)∧zbt [nD c,nD m] = .ok (TN row) := by
    intro h
    by_cases hh : h≤60
    · obtain ⟨c,hc⟩ := zeT ns (at' + h) (by omega)
      obtain ⟨row,h1,h2⟩ := zjJ c m hm
      exact ⟨row,fun _ => ⟨h1,c,hc,h2⟩⟩
    · exact ⟨[],fun z => absurd z hh⟩
  obtain ⟨g,hg⟩ := Classical.axiomOfChoice h
  refine ⟨(List.range n).map g,by simp,fun row hr => ?_,zaM (B := zbP) (n := 4) ?_⟩
  · obtain ⟨i,hi,rfl⟩ := List.mem_map.mp hr
    exact (hg i (by have := List.mem_range.mp hi; omega)).1
  · unfold zbP
    refine zan (zaA (zaS (zad (zdD (l := List.range n) nD (fun _ => true) (fun h => TN (g h)) (zfv (zad (d := nD n) rfl zai) (zg9 (by omega))) (by simp; omega) fun h hh => ⟨[some (nD h),some (nD m),some (IN ns),some (nD at')],rfl,rfl,fun _ => ?_⟩) zai) ?_))
    · obtain ⟨_,c,h1,h2⟩ := hg h (by have := List.mem_range.mp hh; omega)
      exact zao (zad (zao (zad (d := IN ns) rfl (zad (zaj (a := nD at') (b := nD h) rfl rfl (zeA at' h)) zai)) h1) (zad (d := nD m) rfl zai)) h2
    · rw [zc0,e_tupL]
      show some (D.tup _) = some (D.tup _)
      rw [List.map_map]; rfl
end Law
end
section
namespace Law
open PySem L2 DL
theorem zkc (n m : Nat) (hm : m≤60) : ∀ (l : List Nat) (c : Nat) (owns : List (Option Nat)) (x y : Option D),Own owns m→owns.length + l.length≤60 →
    ∃ (c' : Nat) (owns' : List (Option Nat)) (x' y' : Option D),Own owns' m∧owns'.length = owns.length + l.length∧forF (ftN 4) zcv (l.map nD) [some (nD c),some (nD n),some (nD m),some (.lst (owns.map oD)),x,y] = .nx [some (nD c'),some (nD n),some (nD m),some (.lst (owns'.map oD)),x',y']
  | [],c,owns,x,y,w,_ => ⟨c,owns,x,y,w,rfl,zbT⟩
  | h::l,c,owns,x,y,w,hl => by
    have hmod : c % (m + 1) < m + 1 := Nat.mod_lt _ (by omega)
    have step : ∃ o,Own (owns++[o]) m∧zcv [some (nD c),some (nD n),some (nD m),some (.lst (owns.map oD)),some (nD h),y] = .nx [some (nD (c / (m + 1))),some (nD n),some (nD m),some (.lst ((owns++[o]).map oD)),some (nD h),some (nD (c % (m + 1)))] := by
      have t1 := zal (zaj (f := gv 5) (f' := gv 2) (r := [some (nD (c / (m + 1))),some (nD n),some (nD m),some (.lst (owns.map oD)),some (nD h),some (nD (c % (m + 1)))]) (a := nD (c % (m + 1))) (b := nD m) rfl rfl (zjh (c % (m + 1)) m))
      have t2 := zal (zaj (f := gv 5) (f' := gv 3) (r := [some (nD (c / (m + 1))),some (nD n),some (nD m),some (.lst (owns.map oD)),some (nD h),some (nD (c % (m + 1)))]) (a := nD (c % (m + 1))) (b := .lst (owns.map oD)) rfl rfl (zro owns (c % (m + 1))))
      have pre : ∀ s2 : FS,seqF (setF q107 5 (f2 (gv 0) (f2 (gv 2) (ci 1) addA) modI)) (seqF (setF q107 0 (f2 (gv 0) (f2 (gv 2) (ci 1) addA) zgJ)) s2) [some (nD c),some (nD n),some (nD m),some (.lst (owns.map oD)),some (nD h),y] = s2 [some (nD (c / (m + 1))),some (nD n),some (nD m),some (.lst (owns.map oD)),some (nD h),some (nD (c % (m + 1)))] := by
        intro s2
        refine (zae (zau (d := nD (c % (m + 1))) (zaj (a := nD c) (b := nD (m + 1)) rfl (zaj (a := nD m) (b := nD 1) rfl rfl (zeA m 1)) (zf6 (by omega))))).trans ?_
        exact zae (zau (d := nD (c / (m + 1))) (zaj (a := nD c) (b := nD (m + 1)) rfl (zaj (a := nD m) (b := nD 1) rfl rfl (zeA m 1)) (zgI (by omega) (by omega))))
      have hlo : (owns.map oD).length≤1000 := by rw [List.length_map]; omega
      by_cases q : c % (m + 1) = m∨some (c % (m + 1))∈owns
      · refine ⟨none,w.app_none,(pre _).trans ((zae ((if_t ?_).trans (zae (zbH (d := .lst (owns.map oD)) (ds := [.non]) rfl rfl (zad (d := .non) rfl zai) (zbU hlo))))).trans ?_)⟩
        · by_cases z : c % (m + 1) = m
          · rw [decide_eq_true z] at t1; exact or_t t1
          · rw [decide_eq_false z] at t1
            rw [decide_eq_true (q.resolve_left z)] at t2
            exact (or_f t1).trans t2
        · show Out.nx [_,_,_,some (D.lst (owns.map oD++[.non])),_,_] = _
          rw [List.map_append]; rfl
      · have z1 : ¬ c % (m + 1) = m := fun z => q (.inl z)
        have z2 : some (c % (m + 1))∉owns := fun z => q (.inr z)
        rw [decide_eq_false z1] at t1
        rw [decide_eq_false z2] at t2
        refine ⟨some (c % (m + 1)),w.app_some (by omega) z2,(pre _).trans ((zae ((if_f ((or_f t1).trans t2)).trans (zae (zbH (d := .lst (owns.map oD)) (ds := [nD (c % (m + 1))]) rfl rfl (zad (d := nD (c % (m + 1))) rfl zai) (zbU hlo))))).trans ?_)⟩
        show Out.nx [_,_,_,some (D.lst (owns.map oD++[nD (c % (m + 1))])),_,_] = _
        rw [List.map_append]; rfl
    obtain ⟨o,w',hs⟩ := step
    obtain ⟨c',owns',x',y',h1,h2,h3⟩ := zkc n m hm l (c / (m + 1)) (owns++[o]) (some (nD h)) (some (nD (c % (m + 1)))) w' (by simp at hl ⊢; omega)
    refine ⟨c',owns',x',y',h1,by rw [h2]; simp; omega,?_⟩
    rw [← h3]
    exact zcL (r1 := [some (nD c),some (nD n),some (nD m),some (.lst (owns.map oD)),some (nD h),y]) rfl hs
theorem zly (c n m : Nat) (hn : n≤60) (hm : m≤60) : ∃ owns : List (Option Nat),Own owns m∧owns.length = n∧zcx [nD c,nD n,nD m] = .ok (OD owns) := by
  obtain ⟨c',owns',x',y',h1,h2,h3⟩ := zkc n m hm (List.range n) c [] none none ⟨fun x hx => (nomatch hx),fun h k x e => by unfold own at e; simp at e⟩ (by simp; omega)
  refine ⟨owns',h1,by rw [h2]; simp,zaM (B := zcD) (n := 6) ?_⟩
  unfold zcD
  refine (zae (zau (d := .lst []) (zd0 zai (by simp)))).trans ?_
  refine (zae ((zbq (ds := (List.range n).map nD) (zfv (zad (d := nD n) rfl zai) (zg9 (by omega)))).trans h3)).trans ?_
  exact zan (zaA (zaS (zad (d := .lst (owns'.map oD)) rfl zai) rfl))
theorem zjI (ns : List Int) : ∃ rows owns o n m,Scene rows owns o n m∧zb7 [IN ns] = .ok (.tup [WD rows,OD owns,ordD o]) := by
  obtain ⟨c1,h1⟩ := zeT ns 1 (by decide)
  obtain ⟨c2,h2⟩ := zeT ns 2 (by decide)
  obtain ⟨c3,h3⟩ := zeT ns 3 (by decide)
  have hn : c1 % 7 < 7 := Nat.mod_lt _ (by decide)
  have hm : c1 / 7 % (9 - (1 + c1 % 7)) < 9 - (1 + c1 % 7) := Nat.mod_lt _ (by omega)
  obtain ⟨owns,w1,w2,w3⟩ := zly c2 (1 + c1 % 7) (1 + c1 % 7 + c1 / 7 % (9 - (1 + c1 % 7))) (by omega) (by omega)
  obtain ⟨rows,r1,r2,r3⟩ := ziU ns 4 (1 + c1 % 7) (1 + c1 % 7 + c1 / 7 % (9 - (1 + c1 % 7))) (by omega) (by omega) (by omega)
  obtain ⟨o,o1,o2⟩ := zg6 c3 (1 + c1 % 7) (by omega)
  refine ⟨rows,owns,o,_,_,⟨by omega,by omega,by omega,by omega,r1,r2,w1,w2,o1⟩,zaM (B := zca) (n := 5) ?_⟩
  unfold zca
  have hsub : subI (.int 9) (nD (1 + c1 % 7)) = some (nD (9 - (1 + c1 % 7))) := by
    have e : (9 : Int) - ((1 + c1 % 7 : Nat) : Int) = ((9 - (1 + c1 % 7) : Nat) : Int) := by omega
    show some (D.int ((9 : Int) - ((1 + c1 % 7 : Nat) : Int))) = some (D.int _)
    rw [e]
  refine (zae (zau (zao (zad (d := IN ns) rfl (zad (d := nD 1) rfl zai)) h1))).trans ?_
  refine (zae (zau (d := nD (1 + c1 % 7)) (zaj (a := nD 1) (b := nD (c1 % 7)) rfl (zaj (a := nD c1) (b := nD 7) rfl rfl (zf6 (by decide))) (zeA _ _)))).trans ?_
  refine (zae (zau (d := nD (1 + c1 % 7 + c1 / 7 % (9 - (1 + c1 % 7)))) (zaj (a := nD (1 + c1 % 7)) (b := nD (c1 / 7 % (9 - (1 + c1 % 7)))) rfl (zaj (a := nD (c1 / 7)) (b := nD (9 - (1 + c1 % 7))) (zaj (a := nD c1) (b := nD 7) rfl rfl (zgI (by decide) (by decide))) (zaj (a := .int 9) (b := nD (1 + c1 % 7)) rfl rfl hsub) (zf6 (by omega))) (zeA _ _)))).trans ?_
  refine (zae (zau (zao (zad (zao (zad (d := IN ns) rfl (zad (d := nD 2) rfl zai)) h2) (zad (d := nD (1 + c1 % 7)) rfl (zad (d := nD (1 + c1 % 7 + c1 / 7 % (9 - (1 + c1 % 7)))) rfl zai))) w3))).trans ?_
  exact zan (zaA (zbS (zad (zao (zad (d := IN ns) rfl (zad (d := nD 4) rfl (zad (d := nD (1 + c1 % 7)) rfl (zad (d := nD (1 + c1 % 7 + c1 / 7 % (9 - (1 + c1 % 7)))) rfl zai)))) r3) (zad (d := OD owns) rfl (zad (zao (zad (zao (zad (d := IN ns) rfl (zad (d := nD 3) rfl zai)) h3) (zad (d := nD (1 + c1 % 7)) rfl zai)) o2) zai))) (by simp)))
end Law
end
section
namespace Law
open PySem PyProof.Rows L2 DL
theorem zhs : ∀ l l' : List Nat,PyData.eqvAll (zbD (l.map nD)) (zbD (l'.map nD)) = decide (l = l')
  | [],[] => by simp [zbD,PyData.eqvAll]
  | [],k::l => by simp [zbD,PyData.eqvAll]
  | k::l,[] => by simp [zbD,PyData.eqvAll]
  | k::l,k'::l' => by
    have ih := zhs l l'
    simp only [List.map_cons,zbD,toPy,PyData.eqvAll,PyData.eqv,ih]
    rw [Bool.eq_iff_iff]
    simp
    omega
theorem zoT {l : List Nat} {k : Nat} : ∀ d∈l.map nD,Shp k d := by
  intro d hd
  obtain ⟨x,_,rfl⟩ := List.mem_map.mp hd
  cases k <;> trivial
theorem zqh (l l' : List Nat) : eqB (LN l) (LN l') = some (decide (l = l')) := by
  rw [ziF rfl (zcR.mpr zoT) (zcR.mpr zoT)]
  unfold eqb
  simp only [toPy,PyData.eqv,zhs]
theorem zrz (l : List Nat) : eqB (LN l) (LN l) = some true := by rw [zqh,decide_eq_true rfl]
theorem zre (l : List Nat) : neD (LN l) (LN l) = some (.bl false) := by unfold neD; rw [zrz]; rfl
theorem zgD {k : Nat} {l : List Nat} (h : k∈l) : zeh (LN l) [nD k] = some (nD (l.idxOf k)) := by
  show (if za0 (nD k) = true∧(l.map nD).all za0 = true then (zei (nD k) (l.map nD)).map fun j => D.int j else none) = _
  rw [if_pos ⟨rfl,zof l⟩,zh0 k l h]; rfl
theorem zgo {l : List Nat} {i : Nat} (h : i≤l.length) : slD (LN l) (some (i : Int)) none = some (LN (l.drop i)) := by
  show some (D.lst (cutL (l.map nD) (some (i : Int)) none)) = _
  unfold cutL
  rw [HT.sIx_nat,HT.sIx_none,List.length_map,Nat.min_eq_left h]
  rw [List.take_of_length_le (by simp)]
  show some (D.lst _) = some (D.lst ((l.drop i).map nD))
  rw [List.map_drop]
theorem zcl {f : FE} {r : Rho} {i : Int} (h : f r = .ok (.int i)) : zeR f r = .ok (some i) := by unfold zeR; rw [h]; rfl
theorem zhF {fa : FE} {fl fh : FP} {r : Rho} {d d' : D} {lo hi : Option Int} (h1 : fa r = .ok d) (h2 : fl r = .ok lo) (h3 : fh r = .ok hi) (h4 : slD d lo hi = some d') : fSl fa fl fh r = .ok d' := by
  unfold fSl; rw [h1,bind_ok,h2,bind_ok,h3,bind_ok,h4]; rfl
theorem zqC {f f' : FE} {r : Rho} (h : f r = .ok (.bl true)) : vOr f f' r = .ok (.bl true) := by unfold vOr; rw [h]; rfl
theorem zqD {f f' : FE} {r : Rho} (h : f r = .ok (.bl false)) : vOr f f' r = f' r := by unfold vOr; rw [h]; rfl
end Law
end
section
namespace Law
open PySem PyProof.Rows L2 DL
theorem zkz (row things : List Nat) (fst : D) : ∀ (l : List Nat) (y : Option D),
    (match l.find? (fun h => decide (h∈things)) with
      | some h => forF (ftN 2) zbi (l.map nD) [some fst,some (LN things),y] = .rt (nD h)
      | none => ∃ y',forF (ftN 2) zbi (l.map nD) [some fst,some (LN things),y] = .nx [some fst,some (LN things),y'])
  | [],y => ⟨y,zbT⟩
  | h::l,y => by
    have c : (zav (f2 (gv 2) (gv 1) inD)) [some fst,some (LN things),some (nD h)] = .ok (decide (h∈things)) := zal (zaj (a := nD h) (b := LN things) rfl rfl (zp1 _ _))
    rw [List.find?_cons]
    cases e : decide (h∈things) with
    | true =>
      rw [e] at c
      refine zm8 (r1 := [some fst,some (LN things),some (nD h)]) rfl ?_
      exact zan ((if_t c).trans (zan (zaA (d := nD h) rfl)))
    | false =>
      rw [e] at c
      have ih := zkz row things fst l (some (nD h))
      have st : forF (ftN 2) zbi ((h::l).map nD) [some fst,some (LN things),y] = forF (ftN 2) zbi (l.map nD) [some fst,some (LN things),some (nD h)] :=
        zcL (r1 := [some fst,some (LN things),some (nD h)]) rfl ((zae (if_f c)).trans rfl)
      rw [st]
      exact ih
theorem zjP {row things : List Nat} (h : ∃ x∈row,x∈things) : zbZ [TN row,LN things] = .ok (nD (Rg.best row things)) := by
  refine zaM (B := zcG) (n := 3) ?_
  unfold zcG
  have hl := zkz row things (TN row) row none
  unfold Rg.best
  cases e : row.find? fun x => decide (x∈things) with
  | none =>
    obtain ⟨x,h1,h2⟩ := h
    have := List.find?_eq_none.mp e x h1
    simp [h2] at this
  | some k =>
    rw [e] at hl
    exact zan ((zbq (ds := row.map nD) rfl).trans hl)
end Law
end
section
namespace Law
open PySem L2 DL
theorem zoQ (l : List Nat) (i : Nat) : slD (LN l) none (some (i : Int)) = some (LN (l.take i)) := by
  show some (D.lst (cutL (l.map nD) none (some (i : Int)))) = _
  unfold cutL
  rw [HT.sIx_nat,HT.sIx_none,List.length_map,List.drop_zero,Nat.sub_zero,← List.map_take]
  show some (D.lst _) = some (D.lst ((l.take i).map nD))
  rw [List.take_eq_take_iff.mpr (by omega : min (min i l.length) l.length = min i l.length)]
theorem znc {a b : List Nat} (h : a.length + b.length≤1000) : addE (LN a) (LN b) = some (LN (a++b)) := by
  show addA (LN a) (LN b) = _
  show (if (a.map nD).length + (b.map nD).length≤sizeLine then some (D.lst (a.map nD++b.map nD)) else none) = _
  rw [if_pos (by rw [List.length_map,List.length_map,sizeLine_eq]; omega),← List.map_append]
noncomputable abbrev rot1 (l : List Nat) : List Nat := l.drop 1++l.take 1
theorem ziZ {l : List Nat} (h1 : 1≤l.length) (hl : l.length≤900) : zbK [LN l] = .ok (LN (rot1 l)) := by
  refine zaM (B := zbN) (n := 1) ?_
  unfold zbN
  exact zan (zaA (zaj (zhF (d := LN l) rfl (zcl (i := ((1 : Nat) : Int)) rfl) rfl (zgo h1)) (zhF (d := LN l) rfl rfl (zcl (i := ((1 : Nat) : Int)) rfl) (zoQ l 1)) (znc (by simp; omega))))
theorem ziJ : ∀ l : List Nat,zdz (l.map nD) = some (l.map fun k : Nat => (k : Int))
  | [] => rfl
  | k::l => by
    show (zdz (l.map nD)).map _ = _
    rw [ziJ l]; rfl
theorem zns {l : List Nat} (h : l≠[]) : ∃ k∈l,(∀ x∈l,k≤x)∧zi7 [LN l] = some (nD k) := by
  cases l with
  | nil => exact absurd rfl h
  | cons a l =>
    have e : zi7 [LN (a::l)] = some (.int (minZ ((a::l).map fun k : Nat => (k : Int)))) := by
      show (zdz ((a::l).map nD)).map _ = _
      rw [ziJ]; rfl
    have hm := zlW (ks := (a::l).map fun k : Nat => (k : Int)) (by simp)
    obtain ⟨k,k1,k2⟩ := List.mem_map.mp hm
    refine ⟨k,k1,fun x hx => ?_,by rw [e,← k2]⟩
    have := znZ (ks := (a::l).map fun k : Nat => (k : Int)) (List.mem_map.mpr ⟨x,hx,rfl⟩)
    rw [← k2] at this
    exact Int.ofNat_le.mp this
theorem zhR {A : List Nat} {i j : Nat} (hi : i≤A.length) (hj : j < A.length) : (A.drop i++A.take i)[j]? = A[(i + j) % A.length]? := by
  by_cases h : j < A.length - i
  · rw [List.getElem?_append_left (by rw [List.length_drop]; exact h),List.getElem?_drop,Nat.mod_eq_of_lt (by omega)]
  · rw [List.getElem?_append_right (by rw [List.length_drop]; omega),List.length_drop,List.getElem?_take,if_pos (by omega)]
    congr 1
    have : i + j = (i + j - A.length) + A.length := by omega
    rw [this,Nat.add_mod_right,Nat.mod_eq_of_lt (by omega)]
    omega
theorem znd {A : List Nat} {i : Nat} (hi : i < A.length) {j h l : Nat} (hz : ((A.drop i++A.take i).zip (rot1 (A.drop i++A.take i)))[j]? = some (h,l)) : ∃ k,A[k]? = some h∧A[(k + 1) % A.length]? = some l := by
  have hl : (A.drop i++A.take i).length = A.length := by rw [List.length_append,List.length_drop,List.length_take]; omega
  have hj : j < A.length := by
    have := (List.getElem?_eq_some_iff.mp hz).1
    rw [List.length_zip] at this
    omega
  rw [List.getElem?_zip_eq_some] at hz
  obtain ⟨z1,z2⟩ := hz
  rw [zhR (by omega) hj] at z1
  rw [zhR (by omega) (by omega),hl,zhR (by omega) (Nat.mod_lt _ (by omega))] at z2
  refine ⟨(i + j) % A.length,z1,?_⟩
  rw [Nat.add_mod_mod] at z2
  rw [Nat.mod_add_mod,show i + j + 1 = i + (1 + j) by omega]
  exact z2
theorem zh7 : ∀ (l r : List Nat),List.zipWith (fun a b => D.tup [a,b]) (l.map nD) (r.map nD) = (l.zip r).map fun p => D.tup [nD p.1,nD p.2]
  | [],_ => rfl
  | _::_,[] => rfl
  | a::l,b::r => by
    show D.tup [nD a,nD b]::List.zipWith _ (l.map nD) (r.map nD) = _
    rw [zh7 l r]; rfl
theorem zog {fa fb : FE} {r : Rho} {d e : D} {ds es : List D} (h1 : fa r = .ok d) (h2 : fb r = .ok e) (h3 : zbA d = some ds) (h4 : zbA e = some es) : fZip fa fb r = .ok (List.zipWith (fun a b => D.tup [a,b]) ds es) := by
  unfold fZip; rw [h1,bind_ok,h2,bind_ok,h3,opt_some,bind_ok,h4,opt_some,bind_ok]
theorem zhQ {owns : List (Option Nat)} {A : List Nat} {t : Nat→Nat} (hA : A≠[]) (hl : A.length≤60) (ho : ∀ h∈A,h < owns.length) (hn : ∀ i h l,A[i]? = some h→A[(i + 1) % A.length]? = some l→own owns l = some (t h)) :
    ∃ k,k∈A∧(∀ x∈A,k≤x)∧za8 [OD owns,LN A] = .ok (za2 t (A.drop (A.idxOf k)++A.take (A.idxOf k))) := by
  obtain ⟨k,k1,k2,k3⟩ := zns hA
  have hi := List.idxOf_lt_length_of_mem k1
  refine ⟨k,k1,k2,zaM (B := za9) (n := 4) ?_⟩
  generalize hi' : A.idxOf k = i at hi
  have hlen : (A.drop i++A.take i).length = A.length := by rw [List.length_append,List.length_drop,List.length_take]; omega
  have hpos := List.length_pos_iff.mpr hA
  unfold za9
  refine (zae (zau (d := nD i) (zl6 (d := LN A) rfl rfl (zad (zaS (zad (d := LN A) rfl zai) k3) zai) (by rw [zgD k1,hi'])))).trans ?_
  refine (zae (zau (zaj (zhF (d := LN A) rfl (zcl (i := (i : Int)) rfl) rfl (zgo (by omega))) (zhF (d := LN A) rfl rfl (zcl (i := (i : Int)) rfl) (zoQ A i)) (znc (by simp; omega))))).trans ?_
  have hm : ∀ p∈(A.drop i++A.take i).zip (rot1 (A.drop i++A.take i)),p.2∈A∧own owns p.2 = some (t p.1) := fun p hp => by
    obtain ⟨j,hj⟩ := List.getElem?_of_mem hp
    obtain ⟨q,q1,q2⟩ := znd hi (h := p.1) (l := p.2) hj
    exact ⟨List.mem_of_getElem? q2,hn q p.1 p.2 q1 q2⟩
  refine zan (zaA (zaS (zad (zdD (l := (A.drop i++A.take i).zip (rot1 (A.drop i++A.take i))) (fun p => D.tup [nD p.1,nD p.2]) (fun _ => true) (fun p => zaF t p.1) ?_ ?_ fun p hp => ⟨[some (nD p.1),some (nD p.2),some (OD owns)],rfl,rfl,fun _ => ?_⟩) zai) ?_))
  · rw [← zh7]
    exact zog (d := LN (A.drop i++A.take i)) rfl (zao (zad (d := LN (A.drop i++A.take i)) rfl zai) (ziZ (by omega) (by omega))) rfl rfl
  · rw [List.length_zip]; omega
  · obtain ⟨p1,p2⟩ := hm p hp
    have := zj9 (ho p.2 p1)
    rw [p2] at this
    exact zbS (zad (d := nD p.1) rfl (zad (zaj (a := OD owns) (b := nD p.2) rfl rfl (zdB this)) zai)) (by simp)
  · rw [zc0,e_tupL]
    show some (D.tup _) = some (D.tup _)
    congr 2
    rw [show (fun p : Nat × Nat => zaF t p.1) = zaF t ∘ Prod.fst from rfl,← List.map_map]
    congr 1
    rw [List.map_fst_zip]
    simp
    omega
end Law
end
section
namespace Law
open PySem L2 DL
theorem ziz {A : List Nat} {z : Nat} (h : A[A.length - 1]? = some z) : ixA (LN A) (.int (-1)) = some (nD z) := by
  have hl : A.length - 1 < A.length := (List.getElem?_eq_some_iff.mp h).1
  show atI (A.map nD) (-1) = some (nD z)
  unfold atI ixN
  rw [if_neg (by omega),if_pos (by rw [List.length_map]; omega),List.length_map]
  show (A.map nD)[(-1 + (A.length : Int)).toNat]? = _
  rw [show (-1 + (A.length : Int)).toNat = A.length - 1 by omega,List.getElem?_map,h]; rfl
section
variable {rows : List (List Nat)} {owns : List (Option Nat)} {s : Rg.S} {A : List Nat} {z : Nat}
noncomputable abbrev zbb (owns : List (Option Nat)) (s : Rg.S) (x : Nat) : Option Nat := s.line.find? fun h => decide (own owns h = some x)
theorem zgL (S : Snd rows owns s) (hz : A[A.length - 1]? = some z) (hm : z∈s.line) (s2 : FS) : (seqF (setF q104 5 (f2 (gv 4) (f1 (ci 1) negI) ixA)) (seqF (setF q104 6 (zaz (zac (f2 (gv 0) (gv 5) ixA) (zac (gv 3) lNil)) [] zbs)) (seqF (setF q104 7 (zaz (zac (gv 1) (zac (gv 2) (zac (gv 6) lNil))) [] zbB)) s2))) [some (WD rows),some (OD owns),some (LN s.line),some (LN s.things),some (LN A),none,none,none]
    = s2 [some (WD rows),some (OD owns),some (LN s.line),some (LN s.things),some (LN A),some (nD z),some (nD (tS rows s z)),some (oD (zbb owns s (tS rows s z)))] := by
  refine (zae (zau (d := nD z) (zaj (a := LN A) (b := .int (-1)) rfl rfl (ziz hz)))).trans ?_
  refine (zae (zau (zao (zad (zaj (a := WD rows) (b := nD z) rfl rfl (zdB (zmG (S.inr z hm)))) (zad (d := LN s.things) rfl zai)) (S.tg hm)))).trans ?_
  exact zae (zau (zao (zad (d := OD owns) rfl (zad (d := LN s.line) rfl (zad (d := nD (tS rows s z)) rfl zai))) (zg1 S.ino)))
noncomputable abbrev stD (rows : List (List Nat)) (owns : List (Option Nat)) (s : Rg.S) (A : List Nat) (z : Nat) : Rho := [some (WD rows),some (OD owns),some (LN s.line),some (LN s.things),some (LN A),some (nD z),some (nD (tS rows s z)),some (oD (zbb owns s (tS rows s z)))]
theorem zoK (S : Snd rows owns s) : (zav (f2 (gv 7) (fun _ => Res.ok D.non) isD)) (stD rows owns s A z) = .ok (decide (zbb owns s (tS rows s z) = none)) := zal (zaj rfl rfl (zrm _))
theorem zoJ (S : Snd rows owns s) : (zav (f2 (gv 7) (gv 5) eqD)) (stD rows owns s A z) = .ok (decide (zbb owns s (tS rows s z) = some z)) := zal (zaj rfl (b := nD z) rfl (zl9 _ _))
theorem zdu (S : Snd rows owns s) (hz : A[A.length - 1]? = some z) (hm : z∈s.line) (h : zbb owns s (tS rows s z) = none∨zbb owns s (tS rows s z) = some z) :
    zaG [WD rows,OD owns,LN s.line,LN s.things,LN A] = .ok (.tup [.str "takes",nD z,nD (tS rows s z)]) := by
  refine zaM (B := zaW) (n := 8) ?_
  unfold zaW
  refine (zgL S hz hm _).trans ?_
  have t1 := zoK (A := A) (z := z) S
  have t2 := zoJ (A := A) (z := z) S
  refine zan ((if_t ?_).trans (zan (zaA (zbS (zad (d := .str "takes") rfl (zad (d := nD z) rfl (zad (d := nD (tS rows s z)) rfl zai))) (by simp)))))
  rcases h with h | h
  · rw [decide_eq_true h] at t1; exact or_t t1
  · rw [decide_eq_false (by rw [h]; simp)] at t1
    rw [decide_eq_true h] at t2
    exact (or_f t1).trans t2
theorem zht (S : Snd rows owns s) {l : Nat} (h : zbb owns s (tS rows s z) = some l) (hl : l≠z) (s2 : FS) : (seqF (ifF q104 (fOr (zav (f2 (gv 7) (fun _ => Res.ok D.non) isD)) (zav (f2 (gv 7) (gv 5) eqD))) (seqF (retF q104 (mkT (zac (fun _ => Res.ok (D.str "takes")) (zac (gv 5) (zac (gv 6) lNil))))) zak) zak) s2) (stD rows owns s A z) = s2 (stD rows owns s A z) := by
  have t1 := zoK (A := A) (z := z) S
  have t2 := zoJ (A := A) (z := z) S
  rw [decide_eq_false (by rw [h]; simp)] at t1
  rw [decide_eq_false (by rw [h]; simpa using hl)] at t2
  exact zae ((if_f ((or_f t1).trans t2)).trans (e_skip _))
theorem zfT (S : Snd rows owns s) (hz : A[A.length - 1]? = some z) (hm : z∈s.line) {l : Nat} (h : zbb owns s (tS rows s z) = some l) (hl : l≠z) (hn : l∉A) :
    zaG [WD rows,OD owns,LN s.line,LN s.things,LN A] = .ok (.tup [.str "ahead",nD l,nD (tS rows s z)]) := by
  refine zaM (B := zaW) (n := 8) ?_
  unfold zaW
  refine (zgL S hz hm _).trans ((zht S h hl _).trans ?_)
  show seqF _ _ [some (WD rows),some (OD owns),some (LN s.line),some (LN s.things),some (LN A),some (nD z),some (nD (tS rows s z)),some (oD (zbb owns s (tS rows s z)))] = _
  rw [h]
  have t3 := zal (zaj (f := gv 7) (f' := gv 4) (r := [some (WD rows),some (OD owns),some (LN s.line),some (LN s.things),some (LN A),some (nD z),some (nD (tS rows s z)),some (nD l)]) (a := nD l) (b := LN A) rfl rfl (zit A l))
  rw [decide_eq_false hn] at t3
  exact zan ((if_t t3).trans (zan (zaA (zbS (zad (d := .str "ahead") rfl (zad (d := nD l) rfl (zad (d := nD (tS rows s z)) rfl zai))) (by simp)))))
theorem zgb (S : Snd rows owns s) (c : Rg.Chain (Wr rows) (own owns) s A) (hz : A[A.length - 1]? = some z) {i l : Nat} (hi : A[i]? = some l) (hO : own owns l = some (tS rows s z)) : ∀ j h k,(A.drop i)[j]? = some h→(A.drop i)[(j + 1) % (A.drop i).length]? = some k→own owns k = some (tS rows s h) := by
  intro j h k e1 e2
  have hil : i < A.length := (List.getElem?_eq_some_iff.mp hi).1
  have hj := (List.getElem?_eq_some_iff.mp e1).1
  rw [List.length_drop] at hj e2
  rw [List.getElem?_drop] at e1
  by_cases q : j + 1 < A.length - i
  · rw [Nat.mod_eq_of_lt q,List.getElem?_drop] at e2
    exact c.nx (i + j) h k e1 (by rw [show i + j + 1 = i + (j + 1) by omega]; exact e2)
  · have : j + 1 = A.length - i := by omega
    rw [this,Nat.mod_self,List.getElem?_drop,Nat.add_zero,hi] at e2
    cases e2
    have : i + j = A.length - 1 := by omega
    rw [this,hz] at e1
    cases e1
    exact hO
theorem zgu (S : Snd rows owns s) (c : Rg.Chain (Wr rows) (own owns) s A) (hz : A[A.length - 1]? = some z) {i l : Nat} (h : zbb owns s (tS rows s z) = some l) (hl : l≠z) (hi : A.idxOf l = i) (hm : l∈A) (h60 : A.length≤60) :
    ∃ k,k∈A.drop i∧(∀ x∈A.drop i,k≤x)∧zaG [WD rows,OD owns,LN s.line,LN s.things,LN A] = .ok (.tup [.str "ring",za2 (tS rows s) ((A.drop i).drop ((A.drop i).idxOf k)++(A.drop i).take ((A.drop i).idxOf k))]) := by
  have hil : i < A.length := by rw [← hi]; exact List.idxOf_lt_length_of_mem hm
  have hil' : A[i]? = some l := by
    rw [List.getElem?_eq_getElem hil]
    congr 1
    have := List.getElem_idxOf (List.idxOf_lt_length_of_mem hm)
    subst hi; exact this
  have hO : own owns l = some (tS rows s z) := by
    have := List.find?_some h
    simpa using this
  obtain ⟨k,k1,km,k2⟩ := zhQ (owns := owns) (A := A.drop i) (t := tS rows s) (List.ne_nil_of_length_pos (by rw [List.length_drop]; omega)) (by rw [List.length_drop]; omega) (fun h hh => S.ino h (c.sub h (List.mem_of_mem_drop hh))) (zgb S c hz hil' hO)
  refine ⟨k,k1,km,zaM (B := zaW) (n := 8) ?_⟩
  unfold zaW
  refine (zgL S hz (c.sub z (c.at hz)) _).trans ((zht S h hl _).trans ?_)
  show seqF _ _ [some (WD rows),some (OD owns),some (LN s.line),some (LN s.things),some (LN A),some (nD z),some (nD (tS rows s z)),some (oD (zbb owns s (tS rows s z)))] = _
  rw [h]
  have t3 := zal (zaj (f := gv 7) (f' := gv 4) (r := [some (WD rows),some (OD owns),some (LN s.line),some (LN s.things),some (LN A),some (nD z),some (nD (tS rows s z)),some (nD l)]) (a := nD l) (b := LN A) rfl rfl (zit A l))
  rw [decide_eq_true hm] at t3
  refine (zae ((if_f t3).trans (e_skip _))).trans ?_
  refine zan (zaA (zbS (zad (d := .str "ring") rfl (zad (zao (zad (d := OD owns) rfl (zad (d := LN (A.drop i)) (zhF (d := LN A) rfl (zcl (i := (i : Int)) (zl6 (d := LN A) rfl rfl (zad (d := nD l) rfl zai) (by rw [zgD hm,hi]))) rfl (zgo (by omega))) zai)) k2) zai)) (by simp)))
inductive Dd where
  | tk (h : Nat) | ah (h x : Nat) | rg (r : List Nat)
noncomputable def Dd.hands : Dd→List Nat
  | .tk h => [h]
  | .ah _ _ => []
  | .rg r => r
noncomputable def ddD (a : Nat→Nat) : Dd→D
  | .tk h => .tup [.str "takes",nD h,nD (a h)]
  | .ah h x => .tup [.str "ahead",nD h,nD x]
  | .rg r => .tup [.str "ring",za2 a r]
theorem zjK (a : Nat→Nat) (d : Dd) : zcf [ddD a d] = .ok (za2 a d.hands) := by
  refine zaM (B := zdl) (n := 1) ?_
  unfold zdl
  cases d with
  | tk h =>
    refine (zae ((if_f (zal (zaj (a := .str "takes") (b := .str "ahead") (zaj (a := ddD a (.tk h)) (b := .int 0) rfl rfl (ixA_T0 _ _)) rfl (d := .bl false) (by unfold eqD; rw [eqB_str]; rfl)))).trans (e_skip _))).trans ?_
    refine zan (zaA ((zrv (zal (zaj (a := .str "takes") (b := .str "ring") (zaj (a := ddD a (.tk h)) (b := .int 0) rfl rfl (ixA_T0 _ _)) rfl (d := .bl false) (by unfold eqD; rw [eqB_str]; rfl)))).trans ?_))
    exact zbS (zad (zhF (d := ddD a (.tk h)) (d' := .tup [nD h,nD (a h)]) rfl (zcl (i := 1) rfl) rfl rfl) zai) (by simp [Dd.hands])
  | ah h x =>
    exact zan ((if_t (zal (zaj (a := .str "ahead") (b := .str "ahead") (zaj (a := ddD a (.ah h x)) (b := .int 0) rfl rfl (ixA_T0 _ _)) rfl (d := .bl true) (by unfold eqD; rw [eqB_str]; rfl)))).trans (zan (zaA (zbS zai (by simp [Dd.hands])))))
  | rg r =>
    refine (zae ((if_f (zal (zaj (a := .str "ring") (b := .str "ahead") (zaj (a := ddD a (.rg r)) (b := .int 0) rfl rfl (ixA_T0 _ _)) rfl (d := .bl false) (by unfold eqD; rw [eqB_str]; rfl)))).trans (e_skip _))).trans ?_
    refine zan (zaA ((zru (zal (zaj (a := .str "ring") (b := .str "ring") (zaj (a := ddD a (.rg r)) (b := .int 0) rfl rfl (ixA_T0 _ _)) rfl (d := .bl true) (by unfold eqD; rw [eqB_str]; rfl)))).trans ?_))
    exact zaj (a := ddD a (.rg r)) (b := nD 1) rfl rfl (zdB rfl)
theorem zfu {A : List Nat} (h : A.Nodup) (i : Nat) {C : List Nat} (hC : ∀ x,x∈C↔x∈A.drop i) : (A.filter fun x => decide (x∉C)) = A.take i := by
  have h' : (A.take i++A.drop i).Nodup := by rw [List.take_append_drop]; exact h
  conv => lhs; rw [← List.take_append_drop i A]
  rw [List.filter_append]
  have e1 : ((A.take i).filter fun x => decide (x∉C)) = A.take i := List.filter_eq_self.mpr fun x hx => by
    simp only [decide_eq_true_eq]
    rw [hC]
    exact fun z => (List.nodup_append.mp h').2.2 x hx x z rfl
  have e2 : ((A.drop i).filter fun x => decide (x∉C)) = [] := List.filter_eq_nil_iff.mpr fun x hx => by
    simp only [decide_eq_true_eq,Classical.not_not]
    exact (hC x).mpr hx
  rw [e1,e2,List.append_nil]
theorem zhi {W : Nat→List Nat} {C E : List Nat} (h : ∀ x,x∈C↔x∈E) : Rg.minus W s C = Rg.minus W s E := by
  unfold Rg.minus
  congr 1
  · exact Rg.zbz fun x _ => by rw [Bool.eq_iff_iff]; simp [h x]
  · refine Rg.zbz fun x _ => ?_
    rw [Bool.eq_iff_iff]
    simp only [decide_eq_true_eq]
    have : x∈C.map (Rg.tgt W s)↔x∈E.map (Rg.tgt W s) := by
      simp only [List.mem_map,h]
    rw [this]
end
end Law
end
section
namespace Law
open PySem L2 DL
theorem zf4 : ∀ {l m : List Nat},l.Nodup→m.Nodup→(∀ x,x∈l↔x∈m)→l.Perm m
  | [],m,_,_,h => by
    cases m with
    | nil => exact .nil
    | cons a m => exact absurd ((h a).mpr List.mem_cons_self) (fun z => nomatch z)
  | a::l,m,hl,hm,h => by
    have ha : a∈m := (h a).mp List.mem_cons_self
    have hl' := List.nodup_cons.mp hl
    refine (List.Perm.cons a (zf4 hl'.2 (hm.erase a) fun x => ?_)).trans (List.perm_cons_erase ha).symm
    constructor
    · intro hx
      have hne : x≠a := by rintro rfl; exact hl'.1 hx
      exact (List.mem_erase_of_ne hne).mpr ((h x).mp (List.mem_cons_of_mem _ hx))
    · intro hx
      obtain ⟨h1,h2⟩ := (List.Nodup.mem_erase_iff hm).mp hx
      exact (List.mem_cons.mp ((h x).mpr h2)).resolve_left h1
theorem zi2 {l C : List Nat} (hl : l.Nodup) (hC : C.Nodup) (hs : ∀ x∈C,x∈l) : (C++l.filter fun x => decide (x∉C)).Perm l := by
  refine zf4 (List.nodup_append.mpr ⟨hC,Rg.zbx hl,fun a ha b hb => ?_⟩) hl fun x => ?_
  · rintro rfl
    have := (List.mem_filter.mp hb).2
    simp only [decide_eq_true_eq] at this
    exact this ha
  · rw [List.mem_append,List.mem_filter]
    simp only [decide_eq_true_eq]
    constructor
    · rintro (h | h)
      · exact hs x h
      · exact h.1
    · intro h
      by_cases c : x∈C
      · exact .inl c
      · exact .inr ⟨h,c⟩
section
variable {rows : List (List Nat)} {owns : List (Option Nat)} {s : Rg.S} {A A1 A2 : List Nat} {a : Nat → Nat}
noncomputable def ahd (dd : Dd) (A : List Nat) : List Nat := match dd with
  | .ah h _ => A++[h]
  | _ => A
noncomputable abbrev mA : List Md := q103
theorem zor (S : Snd rows owns s) (od : D) {told : List D} {x7 x8 x9 : Option D} {dd : Dd} (hne : s.line≠[]) (hA1 : A1 = if A = [] then [s.line.headD 0] else A) (h60 : A1.length≤60) (ht : told.length≤900) (hd : zaG [WD rows,OD owns,LN s.line,LN s.things,LN A1] = .ok (ddD a dd)) (hs : ∀ h∈dd.hands,h∈s.line) :
    ∃ y8 y9,zfN [some (WD rows),some (OD owns),some od,some (LN s.line),some (LN s.things),some (LN A),some (.lst told),x7,x8,x9]
      = .nx [some (WD rows),some (OD owns),some od,some (LN (s.line.filter fun h => decide (h∉dd.hands))),some (LN (s.things.filter fun x => decide (x∉dd.hands.map a))),some (LN ((ahd dd A1).filter fun h => decide (h∉dd.hands))),some (.lst (told++[ddD a dd])),some (ddD a dd),y8,y9] := by
  obtain ⟨kvs,g,hg⟩ := znu (t := a) (line := s.line) (rs := [dd.hands]) S.nl (by simpa using hs)
  rw [show [dd.hands].flatten = dd.hands by simp] at g
  refine ⟨some (KD kvs),some (LN (kvs.map (·.2))),?_⟩
  refine (zae (r' := [some (WD rows),some (OD owns),some od,some (LN s.line),some (LN s.things),some (LN A1),some (.lst told),x7,x8,x9]) ?_).trans ?_
  · cases hA : A with
    | nil =>
      rw [hA,if_pos rfl] at hA1
      subst hA1
      refine (if_t (zcK (b := false) (zbd (d := LN []) rfl rfl))).trans ?_
      refine (zae (zau (d := LN [s.line.headD 0]) (zd0 (ds := [nD (s.line.headD 0)]) (zad (zaj (a := LN s.line) (b := .int 0) rfl rfl ?_) zai) (by simp)))).trans rfl
      cases e : s.line with
      | nil => exact absurd e hne
      | cons b t => exact ixA_L0 _ _
    | cons b t =>
      rw [hA,if_neg (by simp)] at hA1
      subst hA1
      exact (if_f (zcK (b := true) (zbd (d := LN (b::t)) rfl rfl))).trans rfl
  refine (zae (zau (zao (zad (d := WD rows) rfl (zad (d := OD owns) rfl (zad (d := LN s.line) rfl (zad (d := LN s.things) rfl (zad (d := LN A1) rfl zai))))) hd))).trans ?_
  refine (zae (zbH (d := .lst told) (ds := [ddD a dd]) rfl rfl (zad (d := ddD a dd) rfl zai) (zbU (by omega)))).trans ?_
  refine (zae (r' := [some (WD rows),some (OD owns),some od,some (LN s.line),some (LN s.things),some (LN (ahd dd A1)),some (.lst (told++[ddD a dd])),some (ddD a dd),x8,x9]) ?_).trans ?_
  · cases dd with
    | tk h => exact (if_f (zal (zaj (a := .str "takes") (b := .str "ahead") (zaj (a := ddD a (.tk h)) (b := .int 0) rfl rfl (ixA_T0 _ _)) rfl (d := .bl false) (by unfold eqD; rw [eqB_str]; rfl)))).trans rfl
    | rg r => exact (if_f (zal (zaj (a := .str "ring") (b := .str "ahead") (zaj (a := ddD a (.rg r)) (b := .int 0) rfl rfl (ixA_T0 _ _)) rfl (d := .bl false) (by unfold eqD; rw [eqB_str]; rfl)))).trans rfl
    | ah h x =>
      refine (if_t (zal (zaj (a := .str "ahead") (b := .str "ahead") (zaj (a := ddD a (.ah h x)) (b := .int 0) rfl rfl (ixA_T0 _ _)) rfl (d := .bl true) (by unfold eqD; rw [eqB_str]; rfl)))).trans ?_
      refine (zae (zbH (d := LN A1) (ds := [nD h]) rfl rfl (zad (zaj (a := ddD a (.ah h x)) (b := nD 1) rfl rfl (zdB rfl)) zai) (zbU (by simp; omega)))).trans ?_
      show Out.nx [_,_,_,_,_,some (D.lst (A1.map nD++[nD h])),_,_,_,_] = Out.nx [_,_,_,_,_,some (D.lst ((A1++[h]).map nD)),_,_,_,_]
      rw [List.map_append]; rfl
  have h61 : (ahd dd A1).length≤61 := by cases dd <;> simp [ahd] <;> omega
  refine (zae (zau (zao (zad (zd0 (zad (zao (zad (d := ddD a dd) rfl zai) (zjK a dd)) zai) (by simp)) zai) hg))).trans ?_
  refine (zae (zau (d := LN (kvs.map (·.2))) (zrw (a := KD kvs) rfl ?_))).trans ?_
  · rw [e_valsD,List.map_map]; show some (D.lst _) = some (D.lst ((kvs.map (·.2)).map nD)); rw [List.map_map]; rfl
  refine (zae (zau (zdD (l := s.line) nD (fun h => decide (h∉dd.hands)) nD rfl (by have := S.nl; omega) fun h hh => ⟨[some (nD h),some (KD kvs)],rfl,zal (zaj (a := nD h) (b := KD kvs) rfl rfl (zpK g h)),fun _ => rfl⟩))).trans ?_
  refine (zae (zau (zdD (l := ahd dd A1) nD (fun h => decide (h∉dd.hands)) nD rfl (by omega) fun h hh => ⟨[some (nD h),some (KD kvs)],rfl,zal (zaj (a := nD h) (b := KD kvs) rfl rfl (zpK g h)),fun _ => rfl⟩))).trans ?_
  refine (zae (zau (zdD (l := s.things) nD (fun x => decide (x∉dd.hands.map a)) nD rfl (by have := S.nt; omega) fun h hh => ⟨[some (nD h),some (LN (kvs.map (·.2)))],rfl,zal (zaj (a := nD h) (b := LN (kvs.map (·.2))) rfl rfl (zrb g h)),fun _ => rfl⟩))).trans ?_
  rfl
theorem zmz {s' : Rg.S} (S : Snd rows owns s) (k : Rg.Ok (Wr rows) (own owns) s') (hl : ∀ h∈s'.line,h∈s.line) (h1 : s'.line.length≤s.line.length) (h2 : s'.things.length≤s.things.length) : Snd rows owns s' :=
  ⟨k,fun h hh => S.inr h (hl h hh),fun h hh => S.ino h (hl h hh),fun h hh => S.wid h (hl h hh),Nat.le_trans h1 S.nl,Nat.le_trans h2 S.nt⟩
noncomputable def LS (rows : List (List Nat)) (owns : List (Option Nat)) (s : Rg.S) (a : Nat→Nat) (A1 : List Nat) (dd : Dd) : Prop := ∃ z,A1[A1.length - 1]? = some z∧(
  ((zbb owns s (tS rows s z) = none∨zbb owns s (tS rows s z) = some z)∧dd = .tk z∧a z = tS rows s z) ∨
  (∃ l,zbb owns s (tS rows s z) = some l∧l≠z∧l∉A1∧dd = .ah l (tS rows s z)) ∨
  (∃ l k,zbb owns s (tS rows s z) = some l∧l≠z∧l∈A1∧k∈A1.drop (A1.idxOf l)∧(∀ x∈A1.drop (A1.idxOf l),k≤x) ∧
    dd = .rg ((A1.drop (A1.idxOf l)).drop ((A1.drop (A1.idxOf l)).idxOf k)++(A1.drop (A1.idxOf l)).take ((A1.drop (A1.idxOf l)).idxOf k))∧∀ h∈A1.drop (A1.idxOf l),a h = tS rows s h))
theorem zmp (S : Snd rows owns s) (t : Rg.TTC (Wr rows) (own owns) a s) (c : Rg.Chain (Wr rows) (own owns) s A1) (hA : A1≠[]) (h60 : A1.length≤60) :
    ∃ (dd : Dd) (s' : Rg.S) (A' : List Nat),LS rows owns s a A1 dd∧zaG [WD rows,OD owns,LN s.line,LN s.things,LN A1] = .ok (ddD a dd)∧(∀ h∈dd.hands,h∈s.line)∧dd.hands.Nodup∧s' = ⟨s.line.filter fun h => decide (h∉dd.hands),s.things.filter fun x => decide (x∉dd.hands.map a)⟩∧A' = (ahd dd A1).filter (fun h => decide (h∉dd.hands)) ∧
      Snd rows owns s'∧Rg.TTC (Wr rows) (own owns) a s'∧Rg.Chain (Wr rows) (own owns) s' A'∧2 * s'.line.length + A1.length + 1≤2 * s.line.length + A'.length := by
  have hp := List.length_pos_iff.mpr hA
  have hz : A1[A1.length - 1]? = some A1[A1.length - 1] := List.getElem?_eq_getElem (by omega)
  generalize A1[A1.length - 1] = z at hz
  have hzm := c.sub z (c.at hz)
  have hAl : A1.length≤s.line.length := Rg.zcm c.nd c.sub
  have len : ∀ {C : List Nat},C.Nodup→(∀ h∈C,h∈s.line)→(s.line.filter fun h => decide (h∉C)).length + C.length = s.line.length := fun hC hs => by
    have := (zi2 S.ok.nl hC hs).length_eq
    rw [List.length_append] at this; omega
  have things : ∀ {C : List Nat},(∀ h∈C,a h = tS rows s h)→C.map a = C.map (tS rows s) := fun h => List.map_congr_left h
  have tk : ∀ {s' : Rg.S} {A' : List Nat},(zbb owns s (tS rows s z) = none∨zbb owns s (tS rows s z) = some z)→s' = Rg.minus (Wr rows) s [z]→A' = A1.take (A1.length - 1)→a z = tS rows s z→zaG [WD rows,OD owns,LN s.line,LN s.things,LN A1] = .ok (.tup [.str "takes",nD z,nD (tS rows s z)])→Rg.Ok (Wr rows) (own owns) s'→Rg.TTC (Wr rows) (own owns) a s'→Rg.Chain (Wr rows) (own owns) s' A' →
      ∃ (dd : Dd) (s' : Rg.S) (A' : List Nat),LS rows owns s a A1 dd∧zaG [WD rows,OD owns,LN s.line,LN s.things,LN A1] = .ok (ddD a dd)∧(∀ h∈dd.hands,h∈s.line)∧dd.hands.Nodup∧s' = ⟨s.line.filter fun h => decide (h∉dd.hands),s.things.filter fun x => decide (x∉dd.hands.map a)⟩∧A' = (ahd dd A1).filter (fun h => decide (h∉dd.hands)) ∧
        Snd rows owns s'∧Rg.TTC (Wr rows) (own owns) a s'∧Rg.Chain (Wr rows) (own owns) s' A'∧2 * s'.line.length + A1.length + 1≤2 * s.line.length + A'.length := by
    intro s' A' hfo es eA ea hd k' t' c'
    have hz1 : ∀ h∈[z],h∈s.line := fun h hh => by rw [List.mem_singleton.mp hh]; exact hzm
    have l1 := len (C := [z]) (by simp) hz1
    have ll : s'.line.length + 1 = s.line.length := by rw [es]; exact l1
    refine ⟨.tk z,s',A',⟨z,hz,.inl ⟨hfo,rfl,ea⟩⟩,by rw [hd]; show _ = Res.ok (D.tup [.str "takes",nD z,nD (a z)]); rw [ea],hz1,by simp [Dd.hands],?_,?_,zmz S k' (fun h hh => by rw [es] at hh; exact (List.mem_filter.mp hh).1) (by omega) (by rw [es]; exact List.length_filter_le _ _),t',c',?_⟩
    · rw [es]
      show (⟨_,s.things.filter fun x => decide (x∉[z].map (tS rows s))⟩ : Rg.S) = ⟨_,s.things.filter fun x => decide (x∉[z].map a)⟩
      rw [things (C := [z]) fun h hh => by rw [List.mem_singleton.mp hh]; exact ea]
      rfl
    · rw [eA]
      refine (zfu c.nd (A1.length - 1) fun x => ?_).symm
      constructor
      · intro hx
        have := List.mem_singleton.mp hx
        subst this
        exact Rg.zfB (Nat.le_refl _) hz
      · intro hx
        obtain ⟨j,h1,h2⟩ := Rg.zdA hx
        have hj := (List.getElem?_eq_some_iff.mp h2).1
        have : j = A1.length - 1 := by omega
        subst this
        rw [hz] at h2
        cases h2
        exact List.mem_singleton.mpr rfl
    · rw [eA,List.length_take]
      omega
  cases hf : zbb owns s (tS rows s z) with
  | none =>
    obtain ⟨k',t',c',ea⟩ := Rg.zqB t S.ok c hz fun h hh => by simpa using List.find?_eq_none.mp hf h hh
    exact tk (.inl hf) rfl rfl ea (zdu S hz hzm (.inl hf)) k' t' c'
  | some l =>
    have hO : own owns l = some (tS rows s z) := by simpa using List.find?_some hf
    have hll := List.mem_of_find?_eq_some hf
    by_cases hlz : l = z
    · subst hlz
      obtain ⟨k',t',c',ea,cy⟩ := Rg.zqA t S.ok c hz hz hO
      have ed : ∀ x,x∈A1.drop (A1.length - 1)↔x∈[l] := fun x => by
        constructor
        · intro hx
          obtain ⟨j,h1,h2⟩ := Rg.zdA hx
          have hj := (List.getElem?_eq_some_iff.mp h2).1
          have : j = A1.length - 1 := by omega
          subst this
          rw [hz] at h2
          cases h2
          exact List.mem_singleton.mpr rfl
        · intro hx
          rw [List.mem_singleton.mp hx]
          exact Rg.zfB (Nat.le_refl _) hz
      exact tk (.inr hf) (zhi ed) rfl (ea l ((ed l).mpr (List.mem_singleton.mpr rfl))) (zdu S hz hzm (.inr hf)) k' t' c'
    · by_cases hm : l∈A1
      · obtain ⟨k,k1,km,hd⟩ := zgu S c hz hf hlz rfl hm h60
        have hil := List.idxOf_lt_length_of_mem hm
        have hi : A1[A1.idxOf l]? = some l := by
          rw [List.getElem?_eq_getElem hil]
          congr 1
          exact List.getElem_idxOf hil
        obtain ⟨k',t',c',ea,cy⟩ := Rg.zqA t S.ok c hz hi hO
        generalize hi0 : A1.idxOf l = i at hd hil k' t' c' ea cy k1 km
        generalize hr : (A1.drop i).drop ((A1.drop i).idxOf k)++(A1.drop i).take ((A1.drop i).idxOf k) = r at hd
        have hperm : r.Perm (A1.drop i) := by
          rw [← hr]
          exact List.perm_append_comm.trans (by rw [List.take_append_drop])
        have hrm : ∀ x,x∈r↔x∈A1.drop i := fun x => hperm.mem_iff
        have er : za2 (tS rows s) r = za2 a r := by
          show D.tup _ = D.tup _
          congr 1
          refine List.map_congr_left fun x hx => ?_
          show D.tup [nD x,nD _] = D.tup [nD x,nD _]
          rw [ea x ((hrm x).mp hx)]
        have hrs : ∀ h∈r,h∈s.line := fun h hh => c.sub h (List.mem_of_mem_drop ((hrm h).mp hh))
        have hrn : r.Nodup := hperm.nodup_iff.mpr (c.nd.sublist (List.drop_sublist _ _))
        have l1 := len hrn hrs
        have l2 : r.length = A1.length - i := by rw [hperm.length_eq,List.length_drop]
        have e' : Rg.minus (Wr rows) s (A1.drop i) = Rg.minus (Wr rows) s r := zhi fun x => (hrm x).symm
        have ll : (Rg.minus (Wr rows) s (A1.drop i)).line.length + r.length = s.line.length := by rw [e']; exact l1
        refine ⟨.rg r,_,_,⟨z,hz,.inr (.inr ⟨l,k,hf,hlz,hm,by rw [hi0]; exact k1,by rw [hi0]; exact km,by rw [hi0,hr],by rw [hi0]; exact ea⟩)⟩,by rw [hd]; show Res.ok (D.tup [.str "ring",za2 (tS rows s) r]) = Res.ok (D.tup [.str "ring",za2 a r]); rw [er],hrs,hrn,?_,?_,zmz S k' (fun h hh => (List.mem_filter.mp hh).1) (by omega) (List.length_filter_le _ _),t',c',?_⟩
        · rw [e']
          show (⟨_,s.things.filter fun x => decide (x∉r.map (tS rows s))⟩ : Rg.S) = ⟨_,s.things.filter fun x => decide (x∉r.map a)⟩
          rw [things (C := r) fun h hh => ea h ((hrm h).mp hh)]
          rfl
        · exact (zfu c.nd i hrm).symm
        · rw [List.length_take]
          omega
      · have c' := Rg.zqq c hz hll hm hO
        refine ⟨.ah l (tS rows s z),s,A1++[l],⟨z,hz,.inr (.inl ⟨l,hf,hlz,hm,rfl⟩)⟩,zfT S hz hzm hf hlz hm,fun h hh => (nomatch hh),List.nodup_nil,?_,?_,S,t,c',by rw [List.length_append,List.length_singleton]; omega⟩
        · show s = ⟨s.line.filter fun h => decide (h∉[]),s.things.filter fun x => decide (x∉[])⟩
          simp [zc0]
        · show _ = (A1++[l]).filter fun h => decide (h∉[])
          simp [zc0]
end
end Law
end
section
namespace Law
open PySem PyProof.Rows L2 DL
theorem ziY {owns : List (Option Nat)} {line : List Nat} {x : Nat} (hl : ∀ h∈line,h < owns.length) : zbC [OD owns,LN line,nD x] = .ok (oD (line.find? fun h => decide (own owns h = some x))) := zg1 hl
theorem zmB {fa : FE} {fl fh : FP} {r : Rho} {d d' : D} {lo hi : Option Int} (h1 : fa r = .ok d) (h2 : fl r = .ok lo) (h3 : fh r = .ok hi) (h4 : slA d lo hi = some d') : fSlA fa fl fh r = .ok d' := by
  unfold fSlA; rw [h1,bind_ok,h2,bind_ok,h3,bind_ok,h4]; rfl
theorem zjC {l : List D} {i : Nat} (h : i≤l.length) : slA (.lst l) (some (i : Int)) none = some (.lst (l.drop i)) := by
  show some (D.lst (cutL l (some (i : Int)) none)) = _
  unfold cutL
  rw [HT.sIx_nat,HT.sIx_none,Nat.min_eq_left h]
  rw [List.take_of_length_le (by simp)]
theorem znm (l : List D) (i : Nat) : slA (.lst l) none (some (i : Int)) = some (.lst (l.take i)) := by
  show some (D.lst (cutL l none (some (i : Int)))) = _
  unfold cutL
  rw [HT.sIx_nat,HT.sIx_none,List.drop_zero,Nat.sub_zero]
  rw [List.take_eq_take_iff.mpr (by omega : min (min i l.length) l.length = min i l.length)]
theorem zot {a b : List D} (h : a.length + b.length≤1000) : addE (.lst a) (.lst b) = some (.lst (a++b)) := by
  show (if a.length + b.length≤sizeLine then some (D.lst (a++b)) else none) = _
  rw [if_pos (by rw [sizeLine_eq]; omega)]
theorem zd5 {bt bt' : Nat→Nat→Bool} : ∀ k,(∀ i j,i≤k→j≤k→bt i j = bt' i j)→argBest bt k = argBest bt' k
  | 0,_ => rfl
  | k + 1,h => by
    have ih := zd5 (bt := bt) (bt' := bt') k fun i j hi hj => h i j (by omega) (by omega)
    rw [argBest.eq_2,argBest.eq_2,ih,h (k + 1) (argBest bt' k) (Nat.le_refl _) (by have := zej bt' k; omega)]
section
variable {t : Nat → Nat} {B : List Nat}
noncomputable abbrev kP (t : Nat→Nat) (h : Nat) : List Int := [(h : Int),(t h : Int)]
theorem zjw (t : Nat→Nat) : ∀ B : List Nat,zeK (B.map (zaF t)) = some (B.map (kP t))
  | [] => rfl
  | h::B => by
    show (zfo (zaF t h)).bind (fun k => (zeK (B.map (zaF t))).map (k::·)) = _
    rw [zjw t B]; rfl
theorem zqo (hn : B.Nodup) (hne : B≠[]) {k : Nat} (hk : k∈B) (hmin : ∀ x∈B,k≤x) : zc2 (B.map (kP t)) = B.idxOf k := by
  have hp := List.length_pos_iff.mpr hne
  unfold zc2
  have e : argBest (fun i j => HT.lexLt ((B.map (kP t)).getD i []) ((B.map (kP t)).getD j [])) ((B.map (kP t)).length - 1) = argBest (fun i j => decide ((fun i => ((B.getD i 0 : Nat) : Int)) i < (fun i => ((B.getD i 0 : Nat) : Int)) j)) ((B.map (kP t)).length - 1) := by
    refine zd5 _ fun i j hi hj => ?_
    rw [List.length_map] at hi hj
    have gi : ∀ i,i≤B.length - 1→(B.map (kP t)).getD i [] = kP t (B.getD i 0)∧B[i]? = some (B.getD i 0) := fun i hi => by
      have : i < B.length := by omega
      rw [List.getD_eq_getElem?_getD,List.getD_eq_getElem?_getD,List.getElem?_map,List.getElem?_eq_getElem this]
      exact ⟨rfl,rfl⟩
    rw [(gi i hi).1,(gi j hj).1]
    show HT.lexLt [_,_] [_,_] = _
    rw [HT.lexLt_cons]
    by_cases q : ((B.getD i 0 : Nat) : Int) = ((B.getD j 0 : Nat) : Int)
    · have q' : B.getD i 0 = B.getD j 0 := by omega
      rw [if_pos q,q',HT.lexLt_cons,if_pos rfl,HT.lexLt_nil_nil]
      exact (decide_eq_false (by show ¬ ((B.getD i 0 : Nat) : Int) < ((B.getD j 0 : Nat) : Int); omega)).symm
    · rw [if_neg q]
  rw [e,List.length_map]
  obtain ⟨h1,h2⟩ := zdg (fun i => ((B.getD i 0 : Nat) : Int)) (B.length - 1)
  generalize argBest (fun i j => decide ((fun i => ((B.getD i 0 : Nat) : Int)) i < (fun i => ((B.getD i 0 : Nat) : Int)) j)) (B.length - 1) = b at h1 h2
  have hb : b < B.length := by omega
  have hi := List.idxOf_lt_length_of_mem hk
  have e1 := h2 (B.idxOf k) (by omega)
  have e2 : B.getD (B.idxOf k) 0 = k := by
    rw [List.getD_eq_getElem?_getD,List.getElem?_eq_getElem hi]
    exact List.getElem_idxOf hi
  have e3 : B.getD b 0 = B[b] := by rw [List.getD_eq_getElem?_getD,List.getElem?_eq_getElem hb]; rfl
  have e4 := hmin B[b] (List.getElem_mem _)
  simp only [e2,e3] at e1
  have e5 : B[b] = k := by omega
  have e6 : B[b] = B[B.idxOf k] := by rw [e5]; exact (List.getElem_idxOf hi).symm
  exact (List.getElem_inj hn).mp e6
theorem zrf (hn : B.Nodup) (hne : B≠[]) {k : Nat} (hk : k∈B) (hmin : ∀ x∈B,k≤x) : zks [.lst (B.map (zaF t))] = some (zaF t k) := by
  have hi := List.idxOf_lt_length_of_mem hk
  cases hB : B with
  | nil => exact absurd hB hne
  | cons h l =>
    show (zeK ((h::l).map (zaF t))).map (fun kss => ((h::l).map (zaF t)).getD (zc2 kss) .non) = _
    rw [zjw,← hB]
    show some ((B.map (zaF t)).getD (zc2 (B.map (kP t))) .non) = _
    rw [zqo hn hne hk hmin,List.getD_eq_getElem?_getD,List.getElem?_map,List.getElem?_eq_getElem hi,List.getElem_idxOf hi]; rfl
theorem zry (h k : Nat) : eqb (zaF t h) (zaF t k) = decide (h = k) := by
  unfold eqb
  simp only [toPy,zbD,PyData.eqv,PyData.eqvAll]
  by_cases e : h = k
  · subst e; simp
  · rw [decide_eq_false e]
    have : ¬ ((h : Int) = (k : Int)) := by omega
    simp [this]
theorem zoS (h : Nat) {j : Nat} : Shp (j + 1) (zaF t h) := by
  refine zcj.mpr fun z hz => ?_
  simp only [List.mem_cons,List.not_mem_nil,or_false] at hz
  rcases hz with rfl | rfl <;> cases j <;> trivial
theorem zp2 {k : Nat} : ∀ {B : List Nat},k∈B→(B.map (zaF t)).findIdx? (fun y => eqb y (zaF t k)) = some (B.idxOf k)
  | [],h => by cases h
  | b::B,h => by
    rw [List.map_cons,List.findIdx?_cons,zry]
    by_cases e : b = k
    · subst e; simp
    · rw [decide_eq_false e]
      have hm := (List.mem_cons.mp h).resolve_left (Ne.symm e)
      rw [zp2 hm,List.idxOf_cons,show (b == k) = false by simpa using e]; simp
theorem zn9 {k : Nat} (hk : k∈B) : zfq (.lst (B.map (zaF t))) [zaF t k] = some (nD (B.idxOf k)) := by
  unfold zfq
  have hs : Shp 60 (zaF t k)∧Shp 60 (D.lst (B.map (zaF t))) := ⟨zoS k,zcR.mpr fun x hx => by
    obtain ⟨h,_,rfl⟩ := List.mem_map.mp hx
    exact zoS h⟩
  simp only [if_pos hs,zp2 hk]
  rfl
theorem zkx {owns : List (Option Nat)} {y : Option D} (hl : B.length≤60) (ho : ∀ h∈B,h < owns.length) (hn : ∀ i h l,B[i]? = some h→B[(i + 1) % B.length]? = some l→own owns l = some (t h)) : ∀ (j i : Nat) (x : Option D),i + j = B.length →
    ∃ x',forF (ftN 3) zd8 ((List.range' i j).map nD) [some (LN B),some (OD owns),some (.lst ((B.take i).map (zaF t))),x,y] = .nx [some (LN B),some (OD owns),some (.lst (B.map (zaF t))),x',y]
  | 0,i,x,hi => ⟨x,by rw [List.take_of_length_le (by omega)]; exact zbT⟩
  | j + 1,i,x,hi => by
    obtain ⟨x',ih⟩ := zkx (owns := owns) (y := y) hl ho hn j (i + 1) (some (nD i)) (by omega)
    refine ⟨x',?_⟩
    have hlt : i < B.length := by omega
    have hlt2 : (i + 1) % B.length < B.length := Nat.mod_lt _ (by omega)
    have hB := List.getElem?_eq_getElem hlt
    have hB2 := List.getElem?_eq_getElem hlt2
    have hw := hn i _ _ hB hB2
    have hm : B[(i + 1) % B.length] < owns.length := ho _ (List.getElem_mem _)
    rw [List.range'_succ,List.map_cons,← ih,List.take_succ,hB]
    refine zcL (r1 := [some (LN B),some (OD owns),some (.lst ((B.take i).map (zaF t))),some (nD i),y]) rfl ?_
    have o := zj9 hm
    rw [hw] at o
    have lx : lenD [LN B] = some (nD B.length) := zbI nD B
    refine zae ((zbH (d := .lst ((B.take i).map (zaF t))) (ds := [zaF t B[i]]) rfl rfl (zad (zbS (zad (zaj (a := LN B) (b := nD i) rfl rfl (zl1 (by rw [List.getElem?_map,hB]; rfl))) (zad (zaj (a := OD owns) (b := nD B[(i + 1) % B.length]) rfl (zaj (a := LN B) (b := nD ((i + 1) % B.length)) rfl (zaj (zaj (a := nD i) (b := nD 1) rfl rfl (zeA i 1)) (zaS (zad (d := LN B) rfl zai) lx) (zf6 (by omega))) (zl1 (by rw [List.getElem?_map,hB2]; rfl))) (zdB o)) zai)) (by simp)) zai) (zbU (by simp; omega))).trans ?_)
    show Out.nx [_,_,some (D.lst ((B.take i).map (zaF t)++[zaF t B[i]])),_,_] = Out.nx [_,_,some (D.lst ((B.take i++[B[i]]).map (zaF t))),_,_]
    rw [List.map_append]; rfl
theorem zjN {owns : List (Option Nat)} (hn : B.Nodup) (hne : B≠[]) (hl : B.length≤60) (ho : ∀ h∈B,h < owns.length) (hx : ∀ i h l,B[i]? = some h→B[(i + 1) % B.length]? = some l→own owns l = some (t h)) {k : Nat} (hk : k∈B) (hmin : ∀ x∈B,k≤x) :
    zcw [LN B,OD owns] = .ok (za2 t (B.drop (B.idxOf k)++B.take (B.idxOf k))) := by
  obtain ⟨x',e⟩ := zkx (t := t) (owns := owns) (y := none) hl ho hx B.length 0 none (Nat.zero_add _)
  rw [← List.range_eq_range'] at e
  have hi := List.idxOf_lt_length_of_mem hk
  refine zaM (B := zcC) (n := 5) ?_
  unfold zcC
  refine (zae (zau (d := .lst []) (zd0 zai (by simp)))).trans ?_
  refine (zae ((zbq (zfv (zad (zaS (zad (d := LN B) rfl zai) (zbI nD B)) zai) (zg9 (by omega)))).trans e)).trans ?_
  refine (zae (zau (d := nD (B.idxOf k)) (zl6 (d := .lst (B.map (zaF t))) rfl rfl (zad (zaS (zad (d := .lst (B.map (zaF t))) rfl zai) (zrf hn hne hk hmin)) zai) (zn9 hk)))).trans ?_
  refine zan (zaA (zaS (zad (zaj (zmB (d := .lst (B.map (zaF t))) rfl (zcl (i := ((B.idxOf k : Nat) : Int)) rfl) rfl (zjC (by simp; omega))) (zmB (d := .lst (B.map (zaF t))) rfl rfl (zcl (i := ((B.idxOf k : Nat) : Int)) rfl) (znm _ _)) (zot (by simp; omega))) zai) ?_))
  rw [e_tupL]
  show some (D.tup _) = some (D.tup (List.map _ _))
  rw [List.map_append,List.map_drop,List.map_take]
end
end Law
end
section
namespace Law
open PySem PyProof.Rows L2 DL
theorem zne {m : List Md} {p : FQ} {b : FS} {n : Nat} {r r' : Rho} (h : p r = .ok true) (h2 : b r = .ct r') : zbn m p b (n + 1) r = zbn m p b n r' := by
  conv => lhs; unfold zbn
  rw [h,onE_ok,if_pos rfl,h2]
theorem zc1 {l : List Nat} {x : Nat} {C : List Nat} (hn : l.Nodup) : (l.erase x).filter (fun y => decide (y∉C)) = l.filter fun y => decide (y∉x::C) := by
  rw [hn.erase_eq_filter,List.filter_filter]
  refine List.filter_congr fun y _ => ?_
  rw [Bool.eq_iff_iff]
  simp [and_comm]
section
variable {rows : List (List Nat)} {owns : List (Option Nat)} {s : Rg.S} {A A1 : List Nat} {a : Nat → Nat}
theorem zhS {w0 w1 x5 x6 x7 x8 x9 : Option D} : ∀ (r line things askers : List Nat) (x10 x11 : Option D),r.Nodup→(∀ h∈r,h∈line∧h∈askers)→(r.map a).Nodup→(∀ h∈r,a h∈things)→line.Nodup→things.Nodup→askers.Nodup →
    ∃ y10 y11,forF (ftT (zbg (ftN 10) (zbg (ftN 11) zfX))) zeH (r.map (zaF a)) [w0,w1,some (LN line),some (LN things),some (LN askers),x5,x6,x7,x8,x9,x10,x11] =
      .nx [w0,w1,some (LN (line.filter fun h => decide (h∉r))),some (LN (things.filter fun x => decide (x∉r.map a))),some (LN (askers.filter fun h => decide (h∉r))),x5,x6,x7,x8,x9,y10,y11]
  | [],line,things,askers,x10,x11,_,_,_,_,_,_,_ => ⟨x10,x11,by
    have e : ∀ l : List Nat,(l.filter fun h => decide (h∉([] : List Nat))) = l := fun l => List.filter_eq_self.mpr fun x _ => by simp
    rw [List.map_nil,e,List.map_nil,e,e]; exact zbT⟩
  | h::r,line,things,askers,x10,x11,hn,hm,hd,ht,n1,n2,n3 => by
    have hn' := List.nodup_cons.mp hn
    rw [List.map_cons] at hd
    have hd' := List.nodup_cons.mp hd
    obtain ⟨m1,m2⟩ := hm h List.mem_cons_self
    have m3 := ht h List.mem_cons_self
    have keep : ∀ {l : List Nat} {z : Nat},z∈l→z≠h→z∈l.erase h := fun hz hne => (List.mem_erase_of_ne hne).mpr hz
    obtain ⟨y10,y11,ih⟩ := zhS (w0 := w0) (w1 := w1) (x5 := x5) (x6 := x6) (x7 := x7) (x8 := x8) (x9 := x9) r (line.erase h) (things.erase (a h)) (askers.erase h) (some (nD h)) (some (nD (a h))) hn'.2
      (fun z hz => by
        have hne : z≠h := by rintro rfl; exact hn'.1 hz
        obtain ⟨q1,q2⟩ := hm z (List.mem_cons_of_mem _ hz)
        exact ⟨keep q1 hne,keep q2 hne⟩) hd'.2
      (fun z hz => (List.mem_erase_of_ne (by intro e; exact hd'.1 (by rw [← e]; exact List.mem_map.mpr ⟨z,hz,rfl⟩))).mpr (ht z (List.mem_cons_of_mem _ hz))) (n1.erase h) (n2.erase (a h)) (n3.erase h)
    refine ⟨y10,y11,?_⟩
    rw [zc1 n1,zc1 n2,zc1 n3] at ih
    rw [List.map_cons,List.map_cons,← ih]
    refine zcL (r1 := [w0,w1,some (LN line),some (LN things),some (LN askers),x5,x6,x7,x8,x9,some (nD h),some (nD (a h))]) rfl ?_
    refine (zae (zbH (d := LN line) (ds := [nD h]) rfl rfl (zad (d := nD h) rfl zai) (zjT m1))).trans ?_
    refine (zae (zbH (d := LN askers) (ds := [nD h]) rfl rfl (zad (d := nD h) rfl zai) (zjT m2))).trans ?_
    exact zae (zbH (d := LN things) (ds := [nD (a h)]) rfl rfl (zad (d := nD (a h)) rfl zai) (zjT m3))
theorem zrk (o : Option Nat) : isnD (oD o) .non = some (.bl (decide (o≠none))) := by cases o <;> rfl
theorem znV (l : List Nat) (z : Nat) : ninD (oD (some z)) (LN l) = some (.bl (! decide (z∈l))) := zit l z
theorem zmC {s1 s2 : FS} {r r' : Rho} (h : s1 r = .ct r') : seqF s1 s2 r = .ct r' := by unfold seqF; rw [h]
theorem zgH (l : List Nat) : (l.filter fun h => decide (h∉([] : List Nat))) = l := List.filter_eq_self.mpr fun x _ => by simp
theorem zoh (S : Snd rows owns s) (c : Rg.Chain (Wr rows) (own owns) s A1) (hne : s.line≠[]) (hA1 : A1 = if A = [] then [s.line.headD 0] else A) (hA1n : A1≠[]) (h60 : A1.length≤60) {due : List D} (hd : due.length≤900) {x6 x7 x8 x9 x10 x11 : Option D} {dd : Dd} (L : LS rows owns s a A1 dd)
    (hs : ∀ h∈dd.hands,h∈s.line) (hn : dd.hands.Nodup) (ha : (dd.hands.map a).Nodup) (hat : ∀ h∈dd.hands,a h∈s.things) :
    ∃ y6 y7 y8 y9 y10 y11,(fun o r' => o = Out.nx r'∨o = Out.ct r') (zdb [some (WD rows),some (OD owns),some (LN s.line),some (LN s.things),some (LN A),some (.lst due),x6,x7,x8,x9,x10,x11])
      [some (WD rows),some (OD owns),some (LN (s.line.filter fun h => decide (h∉dd.hands))),some (LN (s.things.filter fun x => decide (x∉dd.hands.map a))),some (LN ((ahd dd A1).filter fun h => decide (h∉dd.hands))),some (.lst (due++[ddD a dd])),y6,y7,y8,y9,y10,y11] := by
  obtain ⟨z,hz,L⟩ := L
  have hzm := c.sub z (c.at hz)
  have pre : ∀ (s2 : FS),(seqF (ifF q101 (zav (f2 (fC (zac (gv 4) lNil) lenD) (ci 0) eqD)) (seqF (mutF "list" q101 4 (zac (f2 (gv 2) (ci 0) ixA) lNil) appD) zak) zak) (seqF (setF q101 6 (f2 (gv 4) (f1 (ci 1) negI) ixA)) (seqF (setF q101 7 (zaz (zac (f2 (gv 0) (gv 6) ixA) (zac (gv 3) lNil)) [] zbZ)) (seqF (setF q101 8 (zaz (zac (gv 1) (zac (gv 2) (zac (gv 7) lNil))) [] zbC)) s2))))
      [some (WD rows),some (OD owns),some (LN s.line),some (LN s.things),some (LN A),some (.lst due),x6,x7,x8,x9,x10,x11] = s2 [some (WD rows),some (OD owns),some (LN s.line),some (LN s.things),some (LN A1),some (.lst due),some (nD z),some (nD (tS rows s z)),some (oD (zbb owns s (tS rows s z))),x9,x10,x11] := fun s2 => by
    refine (zae (r' := [some (WD rows),some (OD owns),some (LN s.line),some (LN s.things),some (LN A1),some (.lst due),x6,x7,x8,x9,x10,x11]) ?_).trans ?_
    · have l0 : lenD [LN A] = some (nD A.length) := zbI nD A
      have t0 := zjh A.length 0
      cases hA : A with
      | nil =>
        rw [hA,if_pos rfl] at hA1
        rw [hA] at t0 l0
        subst hA1
        refine (if_t (zal (zaj (zaS (zad (d := LN []) rfl zai) l0) (b := nD 0) rfl t0))).trans ?_
        have hl0 : ixA (LN s.line) (.int 0) = some (nD (s.line.headD 0)) := by
          cases e : s.line with
          | nil => exact absurd e hne
          | cons b t => exact ixA_L0 _ _
        exact zae (zbH (d := LN []) (ds := [nD (s.line.headD 0)]) rfl rfl (zad (zaj (a := LN s.line) (b := .int 0) rfl rfl hl0) zai) (zbU (by simp)))
      | cons b q =>
        rw [hA,if_neg (by simp)] at hA1
        rw [hA] at t0 l0
        subst hA1
        rw [decide_eq_false (by simp)] at t0
        exact (if_f (zal (zaj (zaS (zad (d := LN (b::q)) rfl zai) l0) (b := nD 0) rfl t0))).trans (e_skip _)
    have hex : ∃ x∈Wr rows z,x∈s.things := by
      have h1 := List.length_pos_iff.mpr hne
      have h2 := S.ok.le
      exact ⟨s.things[0],S.ok.row z hzm _ (List.getElem_mem _),List.getElem_mem _⟩
    refine (zae (zau (d := nD z) (zaj (a := LN A1) (b := .int (-1)) rfl rfl (ziz hz)))).trans ?_
    refine (zae (zau (zao (zad (zaj (a := WD rows) (b := nD z) rfl rfl (zdB (zmG (S.inr z hzm)))) (zad (d := LN s.things) rfl zai)) (zjP hex)))).trans ?_
    exact zae (zau (zao (zad (d := OD owns) rfl (zad (d := LN s.line) rfl (zad (d := nD (tS rows s z)) rfl zai))) (ziY S.ino)))
  rcases L with ⟨hf,rfl,ea⟩ | ⟨l,hf,hlz,hl,rfl⟩ | ⟨l,k,hf,hlz,hl,hk,hkm,rfl,ea⟩
  · have hzA : z∈A1 := c.at hz
    obtain ⟨y10,y11,rm⟩ := zhS (a := a) (w0 := some (WD rows)) (w1 := some (OD owns)) (x5 := some (.lst (due++[ddD a (.tk z)]))) (x6 := some (nD z)) (x7 := some (nD (tS rows s z))) (x8 := some (oD (zbb owns s (tS rows s z)))) (x9 := some (za2 a [z])) [z] s.line s.things A1 x10 x11 hn (fun h hh => by rw [List.mem_singleton.mp hh]; exact ⟨hzm,hzA⟩) ha hat S.ok.nl S.ok.nt c.nd
    refine ⟨some (nD z),some (nD (tS rows s z)),some (oD (zbb owns s (tS rows s z))),some (za2 a [z]),y10,y11,.inl ?_⟩
    refine (pre _).trans ?_
    have t1 := zrk (zbb owns s (tS rows s z))
    refine (zae (r' := [some (WD rows),some (OD owns),some (LN s.line),some (LN s.things),some (LN A1),some (.lst due),some (nD z),some (nD (tS rows s z)),some (oD (zbb owns s (tS rows s z))),x9,x10,x11]) ((if_f ?_).trans (e_skip _))).trans ?_
    · rcases hf with hf | hf
      · rw [decide_eq_false (by rw [hf]; simp)] at t1
        exact zqs (zal (zaj (a := oD (zbb owns s (tS rows s z))) (b := .non) rfl rfl t1))
      · rw [decide_eq_true (by rw [hf]; simp)] at t1
        rw [zmr (zal (zaj (a := oD (zbb owns s (tS rows s z))) (b := .non) rfl rfl t1))]
        have t2 := znV A1 z
        rw [decide_eq_true hzA] at t2
        exact zal (zaj (a := oD (zbb owns s (tS rows s z))) (b := LN A1) rfl rfl (by rw [hf]; exact t2))
    have ep : D.tup [D.tup [nD z,nD (tS rows s z)]] = za2 a [z] := by rw [← ea]; rfl
    refine (zae (zau (d := za2 a [z]) (by rw [← ep]; exact zbS (zad (zbS (zad (d := nD z) rfl (zad (d := nD (tS rows s z)) rfl zai)) (by simp)) zai) (by simp)))).trans ?_
    refine (zae (r' := [some (WD rows),some (OD owns),some (LN s.line),some (LN s.things),some (LN A1),some (.lst (due++[ddD a (.tk z)])),some (nD z),some (nD (tS rows s z)),some (oD (zbb owns s (tS rows s z))),some (za2 a [z]),x10,x11]) ((if_t ?_).trans ?_)).trans ?_
    · rcases hf with hf | hf
      · exact or_t (zal (zaj (a := oD (zbb owns s (tS rows s z))) (b := .non) (d := .bl true) rfl rfl (by rw [hf]; rfl)))
      · rw [or_f (zal (zaj (a := oD (zbb owns s (tS rows s z))) (b := .non) (d := .bl false) rfl rfl (by rw [hf]; rfl)))]
        have t3 := zl9 (zbb owns s (tS rows s z)) z
        rw [decide_eq_true hf] at t3
        exact zal (zaj (a := oD (zbb owns s (tS rows s z))) (b := nD z) rfl rfl t3)
    · have ed : ddD a (.tk z) = D.tup [.str "takes",nD z,nD (tS rows s z)] := by rw [← ea]; rfl
      rw [ed]
      exact zae (zbH (d := .lst due) (ds := [D.tup [.str "takes",nD z,nD (tS rows s z)]]) rfl rfl (zad (zbS (zad (d := .str "takes") rfl (zad (d := nD z) rfl (zad (d := nD (tS rows s z)) rfl zai))) (by simp)) zai) (zbU (by omega)))
    exact zae ((zbq (zif (d := za2 a [z]) rfl rfl)).trans rm)
  · refine ⟨some (nD z),some (nD (tS rows s z)),some (nD l),x9,x10,x11,.inr ?_⟩
    refine (pre _).trans ?_
    rw [hf]
    show seqF _ _ _ = Out.ct [_,_,some (LN (s.line.filter fun h => decide (h∉([] : List Nat)))),some (LN (s.things.filter fun x => decide (x∉([] : List Nat)))),some (LN ((A1++[l]).filter fun h => decide (h∉([] : List Nat)))),_,_,_,_,_,_,_]
    rw [zgH,zgH,zgH]
    have t2 := znV A1 l
    rw [decide_eq_false hl] at t2
    refine zmC ((if_t ?_).trans ?_)
    · rw [zmr (zal (zaj (a := oD (some l)) (b := .non) (d := .bl true) rfl rfl rfl))]
      exact zal (zaj (a := oD (some l)) (b := LN A1) rfl rfl t2)
    · refine (zae (zbH (d := LN A1) (ds := [nD l]) rfl rfl (zad (d := nD l) rfl zai) (zbU (by simp; omega)))).trans ?_
      refine (zae (zbH (d := .lst due) (ds := [ddD a (.ah l (tS rows s z))]) rfl rfl (zad (zbS (zad (d := .str "ahead") rfl (zad (d := nD l) rfl (zad (d := nD (tS rows s z)) rfl zai))) (by simp)) zai) (zbU (by omega)))).trans ?_
      have el : LN (A1++[l]) = D.lst (A1.map nD++[nD l]) := by show D.lst _ = _; rw [List.map_append]; rfl
      rw [el]
      exact zmC rfl
  · have hil := List.idxOf_lt_length_of_mem hl
    have hi : A1[A1.idxOf l]? = some l := by
      rw [List.getElem?_eq_getElem hil]
      congr 1
      exact List.getElem_idxOf hil
    have hO : own owns l = some (tS rows s z) := by simpa using List.find?_some hf
    have hix : zeh (LN A1) [nD l] = some (nD (A1.idxOf l)) := zgD hl
    generalize A1.idxOf l = i at hil hi hk hkm ea hix hs hn ha hat
    have hx := zgb S c hz hi hO
    generalize hB : A1.drop i = B at hk hkm ea hx hs hn ha hat
    have hBn : B.Nodup := by rw [← hB]; exact c.nd.sublist (List.drop_sublist _ _)
    have hBl : B.length≤60 := by rw [← hB,List.length_drop]; omega
    have hrun := zjN (owns := owns) (t := tS rows s) hBn (List.ne_nil_of_mem hk) hBl (fun h hh => S.ino h (c.sub h (by rw [← hB] at hh; exact List.mem_of_mem_drop hh))) hx hk hkm
    generalize hr : B.drop (B.idxOf k)++B.take (B.idxOf k) = r at hrun hs hn ha hat
    have hrm : ∀ x,x∈r↔x∈B := fun x => by rw [← hr]; exact (List.perm_append_comm.trans (by rw [List.take_append_drop])).mem_iff
    have er : za2 (tS rows s) r = za2 a r := congrArg D.tup (List.map_congr_left fun x hx => by
      show zaF (tS rows s) x = zaF a x
      have := ea x ((hrm x).mp hx)
      unfold zaF
      rw [this])
    rw [er] at hrun
    obtain ⟨y10,y11,rm⟩ := zhS (a := a) (w0 := some (WD rows)) (w1 := some (OD owns)) (x5 := some (.lst (due++[ddD a (.rg r)]))) (x6 := some (nD z)) (x7 := some (nD (tS rows s z))) (x8 := some (nD l)) (x9 := some (za2 a r)) r s.line s.things A1 x10 x11 hn (fun h hh => ⟨hs h hh,by
      have := (hrm h).mp hh
      rw [← hB] at this
      exact List.mem_of_mem_drop this⟩) ha hat S.ok.nl S.ok.nt c.nd
    refine ⟨some (nD z),some (nD (tS rows s z)),some (nD l),some (za2 a r),y10,y11,.inl ?_⟩
    refine (pre _).trans ?_
    rw [hf]
    refine (zae (r' := [some (WD rows),some (OD owns),some (LN s.line),some (LN s.things),some (LN A1),some (.lst due),some (nD z),some (nD (tS rows s z)),some (oD (some l)),x9,x10,x11]) ((if_f ?_).trans (e_skip _))).trans ?_
    · rw [zmr (zal (zaj (a := oD (some l)) (b := .non) (d := .bl true) rfl rfl rfl))]
      have t2 := znV A1 l
      rw [decide_eq_true hl] at t2
      exact zal (zaj (a := oD (some l)) (b := LN A1) rfl rfl t2)
    refine (zae (zau (zbS (zad (zbS (zad (d := nD z) rfl (zad (d := nD (tS rows s z)) rfl zai)) (by simp)) zai) (by simp)))).trans ?_
    refine (zae (r' := [some (WD rows),some (OD owns),some (LN s.line),some (LN s.things),some (LN A1),some (.lst (due++[ddD a (.rg r)])),some (nD z),some (nD (tS rows s z)),some (nD l),some (za2 a r),x10,x11]) ((if_f ?_).trans ?_)).trans ?_
    · rw [or_f (zal (zaj (a := oD (some l)) (b := .non) (d := .bl false) rfl rfl rfl))]
      have t3 := zl9 (some l) z
      rw [decide_eq_false (by simpa using hlz)] at t3
      exact zal (zaj (a := oD (some l)) (b := nD z) rfl rfl t3)
    · refine (zae (zau (d := za2 a r) (zao (zad (d := LN B) (by rw [← hB]; exact zhF (d := LN A1) rfl (zcl (i := (i : Int)) (zl6 (d := LN A1) rfl rfl (zad (d := nD l) rfl zai) hix)) rfl (zgo (by omega))) (zad (d := OD owns) rfl zai)) hrun))).trans ?_
      exact zae (zbH (d := .lst due) (ds := [ddD a (.rg r)]) rfl rfl (zad (zbS (zad (d := .str "ring") rfl (zad (d := za2 a r) rfl zai)) (by simp)) zai) (zbU (by omega)))
    exact zae ((zbq (zif (d := za2 a r) rfl rfl)).trans rm)
end
end Law
end
section
namespace Law
open PySem PyProof.Rows L2 DL
theorem zjM {B : FS} {n : Nat} {ds : List D} {d : D} (h : B (zap n ds) = .rt d) : outR true (B (zap n ds)) = .ok d := by rw [h]; rfl
theorem zf5 {a : Nat→Nat} : ∀ {r : List Nat},r.Nodup→(∀ h∈r,∀ l∈r,a h = a l→h = l)→(r.map a).Nodup
  | [],_,_ => List.nodup_nil
  | x::r,hn,hi => by
    have hn' := List.nodup_cons.mp hn
    rw [List.map_cons,List.nodup_cons]
    refine ⟨fun z => ?_,zf5 hn'.2 fun h hh l hl => hi h (List.mem_cons_of_mem _ hh) l (List.mem_cons_of_mem _ hl)⟩
    obtain ⟨y,hy,e⟩ := List.mem_map.mp z
    have := hi y (List.mem_cons_of_mem _ hy) x List.mem_cons_self e
    subst this
    exact hn'.1 hy
section
variable {rows : List (List Nat)} {owns : List (Option Nat)} {a : Nat → Nat}
noncomputable abbrev mU : List Md := q101
theorem zlh (od : D) : ∀ (j : Nat) (s : Rg.S) (A : List Nat) (told due : List D) (x7 x8 x9 u6 u7 u8 u9 u10 u11 : Option D),Snd rows owns s→Rg.TTC (Wr rows) (own owns) a s→Rg.Chain (Wr rows) (own owns) s A→2 * s.line.length < j + A.length→told.length + 2 * s.line.length≤300 + A.length→due.length + 2 * s.line.length≤300 + A.length →
    ∃ (s' : Rg.S) (A' : List Nat) (l : List Dd) (x7' x8' x9' : Option D) (s2 : Rg.S) (A2 : List Nat) (v6 v7 v8 v9 v10 v11 : Option D),l.length + A.length≤2 * s.line.length ∧
      zbn mA zhB zfN j [some (WD rows),some (OD owns),some od,some (LN s.line),some (LN s.things),some (LN A),some (.lst told),x7,x8,x9]
        = .nx [some (WD rows),some (OD owns),some od,some (LN s'.line),some (LN s'.things),some (LN A'),some (.lst (told++l.map (ddD a))),x7',x8',x9'] ∧
      zbn mU zc3 zdb j [some (WD rows),some (OD owns),some (LN s.line),some (LN s.things),some (LN A),some (.lst due),u6,u7,u8,u9,u10,u11]
        = .nx [some (WD rows),some (OD owns),some (LN s2.line),some (LN s2.things),some (LN A2),some (.lst (due++l.map (ddD a))),v6,v7,v8,v9,v10,v11] := by
  intro j
  induction j with
  | zero =>
    intro s A told due x7 x8 x9 u6 u7 u8 u9 u10 u11 S t c h
    have := Rg.zcm c.nd c.sub
    omega
  | succ j ih =>
    intro s A told due x7 x8 x9 u6 u7 u8 u9 u10 u11 S t c hj ht hdu
    have hAl : A.length≤s.line.length := Rg.zcm c.nd c.sub
    have hnl := S.nl
    have lq : lenD [LN s.line] = some (nD s.line.length) := zbI nD s.line
    have gq := zp5 s.line.length 0
    by_cases hne : s.line = []
    · refine ⟨s,A,[],x7,x8,x9,s,A,u6,u7,u8,u9,u10,u11,by simp; omega,?_,?_⟩
      · rw [List.map_nil,List.append_nil]
        refine zjs (zbd (d := LN s.line) rfl ?_)
        rw [hne]; rfl
      · rw [List.map_nil,List.append_nil]
        rw [decide_eq_false (by rw [hne]; simp)] at gq
        exact zjs (zal (zaj (zaS (zad (d := LN s.line) rfl zai) lq) (b := nD 0) rfl gq))
    · have hpos := List.length_pos_iff.mpr hne
      generalize hA1 : (if A = [] then [s.line.headD 0] else A) = A1
      have c1 : Rg.Chain (Wr rows) (own owns) s A1 := by
        rw [← hA1]
        split
        · exact Rg.zql hne
        · exact c
      have hA1n : A1≠[] := by
        rw [← hA1]
        split
        · simp
        · assumption
      have hA1l : A.length≤A1.length := by
        rw [← hA1]
        split
        · rename_i e; rw [e]; simp
        · exact Nat.le_refl _
      have hA1s : A1.length≤s.line.length := Rg.zcm c1.nd c1.sub
      obtain ⟨dd,s1,A2,L,hd,hs,hn,es,eA,S',t',c',hm⟩ := zmp S t c1 hA1n (by omega)
      obtain ⟨y8,y9,hb⟩ := zor (told := told) (x7 := x7) (x8 := x8) (x9 := x9) S od hne hA1.symm (by omega) (by omega) hd hs
      obtain ⟨w6,w7,w8,w9,w10,w11,hu⟩ := zoh (a := a) (due := due) (x6 := u6) (x7 := u7) (x8 := u8) (x9 := u9) (x10 := u10) (x11 := u11) S c1 hne hA1.symm hA1n (by omega) (by omega) L hs hn (zf5 hn fun h hh l hl => Rg.zqE t S.ok h (hs h hh) l (hs l hl)) fun h hh => Rg.znh t S.ok h (hs h hh)
      obtain ⟨s',A',l,x7',x8',x9',s2,B2,v6,v7,v8,v9,v10,v11,h2,h3,h4⟩ := ih s1 A2 (told++[ddD a dd]) (due++[ddD a dd]) (some (ddD a dd)) y8 y9 w6 w7 w8 w9 w10 w11 S' t' c' (by omega) (by rw [List.length_append]; simp; omega) (by rw [List.length_append]; simp; omega)
      refine ⟨s',A',dd::l,x7',x8',x9',s2,B2,v6,v7,v8,v9,v10,v11,by simp; omega,?_,?_⟩
      · rw [List.append_assoc] at h3
        rw [List.map_cons]
        refine Eq.trans (zjr (zbd (b := true) (d := LN s.line) rfl ?_) ?_) h3
        · cases q : s.line with
          | nil => exact absurd q hne
          | cons b t => rfl
        · rw [hb,es,eA]
      · rw [List.append_assoc] at h4
        rw [List.map_cons]
        rw [decide_eq_true hpos] at gq
        have tq : zc3 [some (WD rows),some (OD owns),some (LN s.line),some (LN s.things),some (LN A),some (.lst due),u6,u7,u8,u9,u10,u11] = .ok true := zal (zaj (zaS (zad (d := LN s.line) rfl zai) lq) (b := nD 0) rfl gq)
        rw [es,eA] at h4
        rcases hu with hu | hu
        · exact (zjr tq hu).trans h4
        · exact (zne tq hu).trans h4
theorem zlA {o : Option (List Nat)} (ho : ∀ l,o = some l→l.Nodup∧(∀ k∈l,k < rows.length)∧l.length = rows.length) (hr : rows≠[]) (h8 : rows.length≤30) (S : Snd rows owns (s0 rows o)) (h30 : (s0 rows o).line.length≤30) (t : Rg.TTC (Wr rows) (own owns) a (s0 rows o)) :
    ∃ l : List Dd,l.length≤60∧zdc [WD rows,OD owns,ordD o] = .ok (.lst (l.map (ddD a)))∧zch [WD rows,OD owns,LN (s0 rows o).line] = .ok (.lst (l.map (ddD a))) := by
  obtain ⟨s',A',l,x7',x8',x9',s2,B2,v6,v7,v8,v9,v10,v11,h2,h3,h4⟩ := zlh (rows := rows) (owns := owns) (a := a) (ordD o) 64 (s0 rows o) [] [] [] none none none none none none none none none S t Rg.zqm (by simp; omega) (by simp; omega) (by simp; omega)
  refine ⟨l,by simp at h2; omega,zjM (B := zfP) (n := 10) ?_,zaM (B := zdo) (n := 12) ?_⟩
  · unfold zfP
    cases rows with
    | nil => exact absurd rfl hr
    | cons row rest =>
      refine (zae (zau (zao (zad (d := WD (row::rest)) rfl (zad (d := ordD o) rfl zai)) (ziX ho (by omega))))).trans ?_
      refine (zae (zau (d := LN (s0 (row::rest) o).things) (zaS (zad (zao (zad (d := WD (row::rest)) rfl zai) ziW) zai) (zgz (by have := S.nt; unfold s0 at this; simp at this; omega))))).trans ?_
      refine (zae (zau (d := .lst []) (zd0 zai (by simp)))).trans ?_
      refine (zae (zau (d := .lst []) (zd0 zai (by simp)))).trans ?_
      refine (zae h3).trans ?_
      exact zan (zaA (d := .lst (l.map (ddD a))) rfl)
  · unfold zdo
    cases rows with
    | nil => exact absurd rfl hr
    | cons row rest =>
      refine (zae (zau (d := LN (s0 (row::rest) o).things) (zaS (zad (zaS (zad (zaj (a := WD (row::rest)) (b := .int 0) rfl rfl (ixA_T0 _ _)) zai) (zd2 nD row)) zai) (zgz (by have := S.nt; unfold s0 at this; simp at this; omega))))).trans ?_
      refine (zae (zau (d := .lst []) (zd0 zai (by simp)))).trans ?_
      refine (zae (zau (d := .lst []) (zd0 zai (by simp)))).trans ?_
      refine (zae h4).trans ?_
      exact zan (zaA (d := .lst (l.map (ddD a))) rfl)
end
end Law
end
section
namespace Law
open PySem PyProof.Rows L2 DL
theorem zmm {fl : Rho→Res (List D × D)} {F : List D→Res D} {r : Rho} {zs : List D} {z d : D} (h1 : fl r = .ok (zs,z)) (h2 : F (zs++[z]) = .ok d) : zh4 fl F r = .ok d := by unfold zh4; rw [h1,bind_ok]; show noX (F (zs++[z])) = _; rw [h2]; rfl
theorem zls {f : FE} {r : Rho} {d : D} (h : f r = .ok d) : zlt f r = .ok ([],d) := by unfold zlt; rw [h]; rfl
theorem zh9 {f : FE} {fl : Rho→Res (List D × D)} {r : Rho} {d z : D} {zs : List D} (h : f r = .ok d) (h2 : fl r = .ok (zs,z)) : zjt f fl r = .ok (d::zs,z) := by unfold zjt; rw [h,bind_ok,h2]; rfl
theorem zkb {f : FE} {r : Rho} {ds : List D} (h : f r = .ok (.lst ds)) : ownF f r = .ok (.lst ds) := by unfold ownF; rw [h]; rfl
theorem zqt {α : Type} : ∀ (l : List α),zgQ (l.map fun _ => D.bl true) = some (l.map fun _ => true)
  | [] => rfl
  | _::l => by
    show (zgQ (l.map fun _ => D.bl true)).map _ = _
    rw [zqt l]; rfl
theorem zqv {α : Type} (l : List α) : allD [.lst (l.map fun _ => D.bl true)] = some (.bl true) := by
  show (zgQ (l.map fun _ => D.bl true)).map _ = _
  rw [zqt]
  show some (D.bl _) = _
  rw [List.all_map]
  simp
theorem zl8 : ∀ (k : Nat) (x : D),Shp k x→PyData.eqv (toPy x) (toPy x) = true := by
  have all : ∀ (k : Nat),(∀ x,Shp k x→PyData.eqv (toPy x) (toPy x) = true)→∀ ds : List D,(∀ x∈ds,Shp k x)→PyData.eqvAll (zbD ds) (zbD ds) = true := by
    intro k hk ds
    induction ds with
    | nil => intro _; simp [zbD,PyData.eqvAll]
    | cons x ds ih =>
      intro h
      simp only [zbD,PyData.eqvAll]
      rw [hk x (h x List.mem_cons_self),ih fun y hy => h y (List.mem_cons_of_mem _ hy)]; rfl
  intro k
  induction k with
  | zero =>
    intro x hx
    cases x with
    | tup ds => exact hx.elim
    | lst ds => exact hx.elim
    | dic _ => exact hx.elim
    | obj _ _ => exact hx.elim
    | _ => simp [toPy,PyData.eqv]
  | succ k ih =>
    intro x hx
    cases x with
    | tup ds =>
      have := all k ih ds (zcj.mp hx)
      simp only [toPy,PyData.eqv]; exact this
    | lst ds =>
      have := all k ih ds (zcR.mp hx)
      simp only [toPy,PyData.eqv]; exact this
    | dic _ => exact (by unfold Shp at hx; exact hx.elim)
    | obj _ _ => exact (by unfold Shp at hx; exact hx.elim)
    | _ => simp [toPy,PyData.eqv]
theorem zjE (a : Nat→Nat) (l : List Dd) : Shp 60 (.lst (l.map (ddD a))) := by
  refine zcR.mpr fun x hx => ?_
  obtain ⟨d,_,rfl⟩ := List.mem_map.mp hx
  cases d with
  | tk h =>
    refine zcj.mpr fun z hz => ?_
    simp only [List.mem_cons,List.not_mem_nil,or_false] at hz
    rcases hz with rfl | rfl | rfl <;> first | trivial | (unfold Shp; decide +kernel)
  | ah h x =>
    refine zcj.mpr fun z hz => ?_
    simp only [List.mem_cons,List.not_mem_nil,or_false] at hz
    rcases hz with rfl | rfl | rfl <;> first | trivial | (unfold Shp; decide +kernel)
  | rg r =>
    refine zcj.mpr fun z hz => ?_
    simp only [List.mem_cons,List.not_mem_nil,or_false] at hz
    rcases hz with rfl | rfl
    · unfold Shp; decide +kernel
    · refine zcj.mpr fun y hy => ?_
      obtain ⟨h,_,rfl⟩ := List.mem_map.mp hy
      refine zcj.mpr fun z hz => ?_
      simp only [List.mem_cons,List.not_mem_nil,or_false] at hz
      rcases hz with rfl | rfl <;> trivial
theorem znb (a : Nat→Nat) (l : List Dd) : eqB (.lst (l.map (ddD a))) (.lst (l.map (ddD a))) = some true := by
  rw [ziF rfl (zjE a l) (zjE a l)]
  unfold eqb
  rw [zl8 60 _ (zjE a l)]
theorem zcc (k : Nat) : zaV [nD k] = .ok (.bl true) := rfl
theorem zkW (dd : D) (a : Nat→Nat) : ∀ (r : List Nat) (x : Option D),∃ x',forF (ftN 1) zd9 (r.map (zaF a)) [some dd,x] = .nx [some dd,x']
  | [],x => ⟨x,zbT⟩
  | h::r,x => by
    obtain ⟨x',ih⟩ := zkW dd a r (some (zaF a h))
    refine ⟨x',?_⟩
    rw [← ih]
    refine zcL (r1 := [some dd,some (zaF a h)]) rfl ?_
    refine zae ((if_f ?_).trans (e_skip _))
    rw [or_f (zcK (b := true) (zbd (d := .bl true) rfl rfl)),or_f (zal (zaj (b := nD 2) (zaS (zad (d := zaF a h) rfl zai) (show lenD [zaF a h] = some (nD 2) from rfl)) rfl (zpL 2 2))),
      or_f (zcK (b := true) (zbd (zao (zad (zaj (a := zaF a h) (b := .int 0) rfl rfl (ixA_T0 _ _)) zai) (zcc h)) rfl))]
    exact zcK (b := true) (zbd (zao (zad (zaj (a := zaF a h) (b := nD 1) rfl rfl (zdB rfl)) zai) (zcc (a h))) rfl)
theorem zlz (a : Nat→Nat) (d : Dd) : zcz [ddD a d] = .ok (.bl true) := by
  refine zaM (B := zcF) (n := 2) ?_
  unfold zcF
  have nm : ∀ (x : Str) (b : Bool) (rest : List D),(x == "ring") = ! b→ddD a d = .tup (.str x::rest)→(zav (f2 (f2 (gv 0) (ci 0) ixA) (fun _ => Res.ok (D.str "ring")) neD)) [some (ddD a d),none] = .ok b := by
    intro x b rest hb hd
    refine zal (zaj (a := .str x) (b := .str "ring") (zaj (a := ddD a d) (b := .int 0) rfl rfl (by rw [hd]; exact ixA_T0 _ _)) rfl (d := .bl b) ?_)
    unfold neD
    rw [eqB_str,hb]
    cases b <;> rfl
  have q1 : ∀ (x : Str) (y : D) (rest : List D),ddD a d = .tup (.str x::y::rest)→(fOr (fNot (fTru (f1 (gv 0) (isiD "tuple")))) (fOr (zav (f2 (fC (zac (gv 0) lNil) lenD) (ci 2) ltI)) (fNot (fTru (f1 (f2 (gv 0) (ci 0) ixA) (isiD "str")))))) [some (ddD a d),none] = .ok false := by
    intro x y rest hd
    rw [hd]
    rw [or_f (zcK (b := true) (zbd (d := .bl true) rfl rfl))]
    have t := zal (zaj (f := fC (zac (gv 0) lNil) lenD) (f' := fun _ => Res.ok (D.int 2)) (r := [some (D.tup (.str x::y::rest)),none]) (b := nD 2) (zaS (zad (d := .tup (.str x::y::rest)) rfl zai) (show lenD [.tup (.str x::y::rest)] = some (nD (rest.length + 2)) from rfl)) rfl (zn2 _ _))
    rw [decide_eq_false (by omega)] at t
    rw [or_f t]
    exact zcK (b := true) (zbd (d := .bl true) (by unfold f1; rw [zaj (a := .tup (.str x::y::rest)) (b := .int 0) rfl rfl (ixA_T0 _ _)]; rfl) rfl)
  cases d with
  | tk h =>
    refine (zae ((if_f (q1 "takes" _ _ rfl)).trans (e_skip _))).trans ?_
    refine zan ((if_t (nm "takes" true _ rfl rfl)).trans (zan (zaA ?_)))
    rw [zf1 (zaj (b := nD 3) (zaS (zad (d := ddD a (.tk h)) rfl zai) (show lenD [ddD a (.tk h)] = some (nD 3) from rfl)) rfl (zeY _)),
      zf1 (zao (zad (zaj (a := ddD a (.tk h)) (b := nD 1) rfl rfl (zdB rfl)) zai) (zcc h))]
    exact zao (zad (zaj (a := ddD a (.tk h)) (b := nD 2) rfl rfl (zdB rfl)) zai) (zcc (a h))
  | ah h x =>
    refine (zae ((if_f (q1 "ahead" _ _ rfl)).trans (e_skip _))).trans ?_
    refine zan ((if_t (nm "ahead" true _ rfl rfl)).trans (zan (zaA ?_)))
    rw [zf1 (zaj (b := nD 3) (zaS (zad (d := ddD a (.ah h x)) rfl zai) (show lenD [ddD a (.ah h x)] = some (nD 3) from rfl)) rfl (zeY _)),
      zf1 (zao (zad (zaj (a := ddD a (.ah h x)) (b := nD 1) rfl rfl (zdB rfl)) zai) (zcc h))]
    exact zao (zad (zaj (a := ddD a (.ah h x)) (b := nD 2) rfl rfl (zdB rfl)) zai) (zcc x)
  | rg r =>
    refine (zae ((if_f (q1 "ring" _ _ rfl)).trans (e_skip _))).trans ?_
    refine (zae ((if_f (nm "ring" false _ rfl rfl)).trans (e_skip _))).trans ?_
    refine (zae ((if_f ?_).trans (e_skip _))).trans ?_
    · rw [or_f (zal (zaj (b := nD 2) (zaS (zad (d := ddD a (.rg r)) rfl zai) (show lenD [ddD a (.rg r)] = some (nD 2) from rfl)) rfl (zpL 2 2)))]
      exact zcK (b := true) (zbd (d := .bl true) (by unfold f1; rw [zaj (a := ddD a (.rg r)) (b := nD 1) rfl rfl (zdB (d := za2 a r) rfl)]; rfl) rfl)
    obtain ⟨x',hl⟩ := zkW (ddD a (.rg r)) a r none
    refine (zae ((zbq (ds := r.map (zaF a)) (zif (zaj (a := ddD a (.rg r)) (b := nD 1) rfl rfl (zdB (d := za2 a r) rfl)) rfl)).trans hl)).trans ?_
    exact zan (zaA rfl)
theorem zjO {o : Option (List Nat)} {n : Nat} (hn : n≤1000) : zcy [ordD o,nD n] = .ok (LN (o.getD (List.range n))) := by
  refine zjM (B := zcE) (n := 2) ?_
  unfold zcE
  cases o with
  | none => exact zan ((if_t (zal (zaj (a := .non) (b := .non) rfl rfl (d := .bl true) rfl))).trans (zan (zaA (zaS (zad (d := nD n) rfl zai) (zgz hn)))))
  | some l =>
    refine (zae ((if_f (zal (zaj (a := LN l) (b := .non) rfl rfl (d := .bl false) rfl))).trans (e_skip _))).trans ?_
    exact zan (zaA (zaS (zad (d := LN l) rfl zai) rfl))
theorem znW (o : Option (List Nat)) : neD (ordD o) (ordD o) = some (.bl false) := by
  cases o with
  | none => unfold neD; rw [zeZ rfl]; rfl
  | some l => exact zre l
section
variable {rows : List (List Nat)} {owns : List (Option Nat)} {o : Option (List Nat)} {a : Nat → Nat}
noncomputable abbrev st10 (ns : List Int) (rows : List (List Nat)) (owns : List (Option Nat)) (o : Option (List Nat)) (due : D) (x6 x7 : Option D) : Rho := [some (IN ns),some (WD rows),some (OD owns),some (ordD o),some (ordD o),some due,x6,x7]
theorem zm1 {ns : List Int} {l : List Dd} (hl : l.length≤60) (hf : zdc [WD rows,OD owns,ordD o] = .ok (.lst (l.map (ddD a)))) (x6 x7 : Option D) : ∃ x7',zlm (st10 ns rows owns o (.lst (l.map (ddD a))) x6 x7) = .nx (st10 ns rows owns o (.lst (l.map (ddD a))) x6 x7') := by
  refine ⟨some (.lst ((l.map (ddD a)).reverse++[.str "x"])),?_⟩
  refine (zae (r' := st10 ns rows owns o (.lst (l.map (ddD a))) x6 (some (.lst (l.map (ddD a))))) (zau (zkb (zao (zad (d := WD rows) rfl (zad (d := OD owns) rfl (zad (d := ordD o) rfl zai))) hf)))).trans ?_
  refine (zae ((if_f ?_).trans (e_skip _))).trans ?_
  · rw [or_f (zcK (b := true) (zbd (d := .bl true) rfl rfl))]
    refine zcK (b := true) (zbd (d := .bl true) (zaS (zad (zdD (l := l) (ddD a) (fun _ => true) (fun _ => .bl true) (zif (d := .lst (l.map (ddD a))) rfl rfl) (by omega) fun d hd => ⟨[some (ddD a d)],rfl,rfl,fun _ => zao (zad (d := ddD a d) rfl zai) (zlz a d)⟩) zai) ?_) rfl)
    rw [zc0]
    exact zqv l
  refine (zae ((if_f ?_).trans (e_skip _))).trans ?_
  · rw [or_f (zal (zaj (a := .lst (l.map (ddD a))) (b := .lst (l.map (ddD a))) rfl rfl (d := .bl false) (by unfold neD; rw [znb]; rfl)))]
    exact zal (zaj (a := ordD o) (b := ordD o) rfl rfl (znW o))
  refine (zae (zbH (d := .lst (l.map (ddD a))) (ds := []) rfl rfl zai (d' := .lst (l.map (ddD a)).reverse) rfl)).trans ?_
  refine (zae (zbH (d := .lst (l.map (ddD a)).reverse) (ds := [.str "x"]) rfl rfl (zad (d := .str "x") rfl zai) (zbU (by simp; omega)))).trans ?_
  rfl
end
theorem zrg (ns : List Int) : zou [IN ns] = .ok (.bl true) := by
  obtain ⟨rows,owns,o,n,m,S,hs⟩ := zjI ns
  have t := Rg.zqz (W := Wr rows) (O := own owns) ((s0 rows o).line.length + 1) (s0 rows o) (by omega)
  generalize Rg.deal (Wr rows) (own owns) ((s0 rows o).line.length + 1) (s0 rows o) = a at t
  have hn7 := S.n7
  have hrl := S.rl
  have hll : (s0 rows o).line.length = n := by rw [S.line_perm.length_eq]; simp
  have hlen : lenD [WD rows] = some (nD n) := by rw [zd2,S.rl]
  obtain ⟨l,h60,hf,hd⟩ := zlA (a := a) S.ord S.ne (by omega) S.snd (by omega) t
  have hd' : zch [WD rows,OD owns,LN (o.getD (List.range n))] = .ok (.lst (l.map (ddD a))) := by
    rw [← hrl]; exact hd
  refine zaM (B := zmu) (n := 8) ?_
  unfold zmu
  refine (zae (zqr (r' := [some (IN ns),some (WD rows),some (OD owns),some (ordD o),none,none,none,none]) (zao (zad (d := IN ns) rfl zai) hs) rfl)).trans ?_
  refine (zae (zau (d := .non) rfl)).trans ?_
  refine (zae (r' := [some (IN ns),some (WD rows),some (OD owns),some (ordD o),some (ordD o),none,none,none]) ?_).trans ?_
  · cases o with
    | none => exact (if_f (zal (zaj (a := .non) (b := .non) rfl rfl (d := .bl false) rfl))).trans (e_skip _)
    | some q => exact (if_t (zal (zaj (a := LN q) (b := .non) rfl rfl (d := .bl true) rfl))).trans (zae (zau (d := LN q) (zaS (zad (d := LN q) rfl zai) rfl)))
  refine (zae (zau (zmm (zh9 (d := WD rows) rfl (zh9 (d := OD owns) rfl (zls (zkb (zao (zad (d := ordD o) rfl (zad (zaS (zad (d := WD rows) rfl zai) hlen) zai)) (zjO (by omega))))))) hd'))).trans ?_
  obtain ⟨y,e1⟩ := zm1 (ns := ns) h60 hf (some (nD 0)) none
  obtain ⟨z,e2⟩ := zm1 (ns := ns) h60 hf (some (nD 1)) y
  refine (zae (r' := st10 ns rows owns o (.lst (l.map (ddD a))) (some (nD 1)) z) ((zbq (ds := [nD 0,nD 1]) (zfv (zad (d := nD 2) rfl zai) (zg9 (by omega)))).trans ?_)).trans ?_
  · exact (zcL (r1 := st10 ns rows owns o (.lst (l.map (ddD a))) (some (nD 0)) none) rfl e1).trans ((zcL (r1 := st10 ns rows owns o (.lst (l.map (ddD a))) (some (nD 1)) y) rfl e2).trans zbT)
  refine zan (zaA ?_)
  cases o with
  | some q => exact zqC (zaj (a := LN q) (b := .non) rfl rfl (d := .bl true) rfl)
  | none =>
    rw [zqD (zaj (a := .non) (b := .non) rfl rfl (d := .bl false) rfl)]
    exact zaj (zao (dds := [D.non]) (zad (d := WD rows) rfl (zad (d := OD owns) rfl zai)) hf) rfl (by unfold eqD; rw [znb]; rfl)
theorem main (ns : List Int) (_ : ns.length≤63) : zou [.lst (ns.map .int)] = .ok (.bl true) := zrg ns
end Law
end
open PySem PySem.W PyProof.Rows
set_option maxRecDepth 100000 in
set_option maxHeartbeats 0 in
theorem PySem.Challenge.cw_ringtrade_k10_asked_one_by_one_holds : PySem.Challenge.rw_ringtrade_k10_asked_one_by_one.Holds := by
  w_on; o_law; k_head; (case hw => w_witness2)
  k_fill
  refine DL.zrI (l := PySem.Challenge.rw_ringtrade_k10_asked_one_by_one) (k := 8) (x := "_law_script") (F := Law.zou) rfl rfl ⟨rfl,by decide,by decide⟩ (fun w h Y => PySem.W.kIn_of Y) Law.main ?C
  intro w mg fa h KX G hmg
  have T : Law.Txt (L2.KOf KX) mg := by
    dsimp only [L2.KOf]
    refine ⟨?b_len,?b_range,?b_tuple,?b_list,?b_min,?b_isinstance,?b_bool,?b_int,?b_enumerate,?b_zip,?b_str,?b_all⟩
    case b_len => (refine' PySem.W.mg_none_of KX G ?z_b_len; k_is)
    case b_range => (refine' PySem.W.mg_none_of KX G ?z_b_range; k_is)
    case b_tuple => (refine' PySem.W.mg_none_of KX G ?z_b_tuple; k_is)
    case b_list => (refine' PySem.W.mg_none_of KX G ?z_b_list; k_is)
    case b_min => (refine' PySem.W.mg_none_of KX G ?z_b_min; k_is)
    case b_isinstance => (refine' PySem.W.mg_none_of KX G ?z_b_isinstance; k_is)
    case b_bool => (refine' PySem.W.mg_none_of KX G ?z_b_bool; k_is)
    case b_int => (refine' PySem.W.mg_none_of KX G ?z_b_int; k_is)
    case b_enumerate => (refine' PySem.W.mg_none_of KX G ?z_b_enumerate; k_is)
    case b_zip => (refine' PySem.W.mg_none_of KX G ?z_b_zip; k_is)
    case b_str => (refine' PySem.W.mg_none_of KX G ?z_b_str; k_is)
    case b_all => (refine' PySem.W.mg_none_of KX G ?z_b_all; k_is)
  have A__law_cell : DL.DefAt (L2.KOf KX) mg "_law_cell" Law.zet := by
    dsimp only [L2.KOf]
    refine' DL.zrH KX G ?a ?l ?c ?k
    (case a => k_is)
    (case l => k_is)
    (case c => k_is)
    (case k => k_is)
  have A__law_owns : DL.DefAt (L2.KOf KX) mg "_law_owns" Law.zeq := by
    dsimp only [L2.KOf]
    refine' DL.zrH KX G ?a ?l ?c ?k
    (case a => k_is)
    (case l => k_is)
    (case c => k_is)
    (case k => k_is)
  have A__law_row : DL.DefAt (L2.KOf KX) mg "_law_row" Law.ze6 := by
    dsimp only [L2.KOf]
    refine' DL.zrH KX G ?a ?l ?c ?k
    (case a => k_is)
    (case l => k_is)
    (case c => k_is)
    (case k => k_is)
  have A__law_wishes : DL.DefAt (L2.KOf KX) mg "_law_wishes" Law.zbu := by
    dsimp only [L2.KOf]
    refine' DL.zrH KX G ?a ?l ?c ?k
    (case a => k_is)
    (case l => k_is)
    (case c => k_is)
    (case k => k_is)
  have A__law_order_by : DL.DefAt (L2.KOf KX) mg "_law_order_by" Law.zcI := by
    dsimp only [L2.KOf]
    refine' DL.zrH KX G ?a ?l ?c ?k
    (case a => k_is)
    (case l => k_is)
    (case c => k_is)
    (case k => k_is)
  have A__law_scene : DL.DefAt (L2.KOf KX) mg "_law_scene" Law.zdQ := by
    dsimp only [L2.KOf]
    refine' DL.zrH KX G ?a ?l ?c ?k
    (case a => k_is)
    (case l => k_is)
    (case c => k_is)
    (case k => k_is)
  have A__law_best : DL.DefAt (L2.KOf KX) mg "_law_best" Law.zeu := by
    dsimp only [L2.KOf]
    refine' DL.zrH KX G ?a ?l ?c ?k
    (case a => k_is)
    (case l => k_is)
    (case c => k_is)
    (case k => k_is)
  have A__law_owner : DL.DefAt (L2.KOf KX) mg "_law_owner" Law.zdR := by
    dsimp only [L2.KOf]
    refine' DL.zrH KX G ?a ?l ?c ?k
    (case a => k_is)
    (case l => k_is)
    (case c => k_is)
    (case k => k_is)
  have A__law_ring : DL.DefAt (L2.KOf KX) mg "_law_ring" Law.zep := by
    dsimp only [L2.KOf]
    refine' DL.zrH KX G ?a ?l ?c ?k
    (case a => k_is)
    (case l => k_is)
    (case c => k_is)
    (case k => k_is)
  have A__law_due : DL.DefAt (L2.KOf KX) mg "_law_due" Law.ze7 := by
    dsimp only [L2.KOf]
    refine' DL.zrH KX G ?a ?l ?c ?k
    (case a => k_is)
    (case l => k_is)
    (case c => k_is)
    (case k => k_is)
  have A__law_line : DL.DefAt (L2.KOf KX) mg "_law_line" Law.zer := by
    dsimp only [L2.KOf]
    refine' DL.zrH KX G ?a ?l ?c ?k
    (case a => k_is)
    (case l => k_is)
    (case c => k_is)
    (case k => k_is)
  have A_is_whole : DL.DefAt (L2.KOf KX) mg "is_whole" Law.ze4 := by
    dsimp only [L2.KOf]
    refine' DL.zrH KX G ?a ?l ?c ?k
    (case a => k_is)
    (case l => k_is)
    (case c => k_is)
    (case k => k_is)
  have A_is_below : DL.DefAt (L2.KOf KX) mg "is_below" Law.ze5 := by
    dsimp only [L2.KOf]
    refine' DL.zrH KX G ?a ?l ?c ?k
    (case a => k_is)
    (case l => k_is)
    (case c => k_is)
    (case k => k_is)
  have A_first_wrong : DL.DefAt (L2.KOf KX) mg "first_wrong" Law.zdr := by
    dsimp only [L2.KOf]
    refine' DL.zrH KX G ?a ?l ?c ?k
    (case a => k_is)
    (case l => k_is)
    (case c => k_is)
    (case k => k_is)
  have A_are_unlike : DL.DefAt (L2.KOf KX) mg "are_unlike" Law.zdO := by
    dsimp only [L2.KOf]
    refine' DL.zrH KX G ?a ?l ?c ?k
    (case a => k_is)
    (case l => k_is)
    (case c => k_is)
    (case k => k_is)
  have A_has_each_once : DL.DefAt (L2.KOf KX) mg "has_each_once" Law.zcH := by
    dsimp only [L2.KOf]
    refine' DL.zrH KX G ?a ?l ?c ?k
    (case a => k_is)
    (case l => k_is)
    (case c => k_is)
    (case k => k_is)
  have A_order_of : DL.DefAtD (L2.KOf KX) mg "order_of" Law.ze3 [Value.none] := by
    dsimp only [L2.KOf]
    refine' DL.zrC KX G ?a ?l ?t ?c ?k
    (case a => k_is)
    (case l => k_is)
    (case t => k_is)
    (case c => k_is)
    (case k => k_is)
  have A_best_left : DL.DefAt (L2.KOf KX) mg "best_left" Law.zb1 := by
    dsimp only [L2.KOf]
    refine' DL.zrH KX G ?a ?l ?c ?k
    (case a => k_is)
    (case l => k_is)
    (case c => k_is)
    (case k => k_is)
  have A_owner_left : DL.DefAt (L2.KOf KX) mg "owner_left" Law.zdN := by
    dsimp only [L2.KOf]
    refine' DL.zrH KX G ?a ?l ?c ?k
    (case a => k_is)
    (case l => k_is)
    (case c => k_is)
    (case k => k_is)
  have A_ones_behind : DL.DefAt (L2.KOf KX) mg "ones_behind" Law.zdq := by
    dsimp only [L2.KOf]
    refine' DL.zrH KX G ?a ?l ?c ?k
    (case a => k_is)
    (case l => k_is)
    (case c => k_is)
    (case k => k_is)
  have A_ring_of_askers : DL.DefAt (L2.KOf KX) mg "ring_of_askers" Law.zaX := by
    dsimp only [L2.KOf]
    refine' DL.zrH KX G ?a ?l ?c ?k
    (case a => k_is)
    (case l => k_is)
    (case c => k_is)
    (case k => k_is)
  have A_next_deed : DL.DefAt (L2.KOf KX) mg "next_deed" Law.zeo := by
    dsimp only [L2.KOf]
    refine' DL.zrH KX G ?a ?l ?c ?k
    (case a => k_is)
    (case l => k_is)
    (case c => k_is)
    (case k => k_is)
  have A_got_in : DL.DefAt (L2.KOf KX) mg "got_in" Law.zgV := by
    dsimp only [L2.KOf]
    refine' DL.zrH KX G ?a ?l ?c ?k
    (case a => k_is)
    (case l => k_is)
    (case c => k_is)
    (case k => k_is)
  have A_things_in : DL.DefAt (L2.KOf KX) mg "things_in" Law.zen := by
    dsimp only [L2.KOf]
    refine' DL.zrH KX G ?a ?l ?c ?k
    (case a => k_is)
    (case l => k_is)
    (case c => k_is)
    (case k => k_is)
  have A_pairs_of : DL.DefAt (L2.KOf KX) mg "pairs_of" Law.ze2 := by
    dsimp only [L2.KOf]
    refine' DL.zrH KX G ?a ?l ?c ?k
    (case a => k_is)
    (case l => k_is)
    (case c => k_is)
    (case k => k_is)
  have A_asked : DL.DefAtD (L2.KOf KX) mg "asked" Law.zaO [Value.none] := by
    dsimp only [L2.KOf]
    refine' DL.zrC KX G ?a ?l ?t ?c ?k
    (case a => k_is)
    (case l => k_is)
    (case t => k_is)
    (case c => k_is)
    (case k => k_is)
  have A__law_whole : DL.DefAt (L2.KOf KX) mg "_law_whole" Law.zdP := by
    dsimp only [L2.KOf]
    refine' DL.zrH KX G ?a ?l ?c ?k
    (case a => k_is)
    (case l => k_is)
    (case c => k_is)
    (case k => k_is)
  have A__law_form : DL.DefAt (L2.KOf KX) mg "_law_form" Law.zes := by
    dsimp only [L2.KOf]
    refine' DL.zrH KX G ?a ?l ?c ?k
    (case a => k_is)
    (case l => k_is)
    (case c => k_is)
    (case k => k_is)
  have A_law : DL.DefAt (L2.KOf KX) mg "law" Law.zie := by
    dsimp only [L2.KOf]
    refine' DL.zrH KX G ?a ?l ?c ?k
    (case a => k_is)
    (case l => k_is)
    (case c => k_is)
    (case k => k_is)
  refine DL.zrG hmg A_law (fun _ _ _ _ _ _ us hl => match us,hl with | [_],_ => rfl) fun f fd Fn base => ?_
  have C__law_cell := Law.zmX (P := PySem.Challenge.rw_ringtrade_k10_asked_one_by_one.prog) (w := w) (base := base) T A__law_cell
  have C__law_owns := Law.zmU (P := PySem.Challenge.rw_ringtrade_k10_asked_one_by_one.prog) (w := w) (base := base) T A__law_owns
  have C__law_row := Law.znS (P := PySem.Challenge.rw_ringtrade_k10_asked_one_by_one.prog) (w := w) (base := base) T A__law_row
  have C__law_wishes := Law.zlp (P := PySem.Challenge.rw_ringtrade_k10_asked_one_by_one.prog) (w := w) (base := base) T A__law_wishes C__law_cell C__law_row
  have C__law_order_by := Law.zjo (P := PySem.Challenge.rw_ringtrade_k10_asked_one_by_one.prog) (w := w) (base := base) T A__law_order_by C__law_row
  have C__law_scene := Law.zlU (P := PySem.Challenge.rw_ringtrade_k10_asked_one_by_one.prog) (w := w) (base := base) T A__law_scene C__law_cell C__law_owns C__law_order_by C__law_wishes
  have C__law_best := Law.zmY (P := PySem.Challenge.rw_ringtrade_k10_asked_one_by_one.prog) (w := w) (base := base) T A__law_best
  have C__law_owner := Law.zlV (P := PySem.Challenge.rw_ringtrade_k10_asked_one_by_one.prog) (w := w) (base := base) T A__law_owner
  have C__law_ring := Law.zmT (P := PySem.Challenge.rw_ringtrade_k10_asked_one_by_one.prog) (w := w) (base := base) T A__law_ring
  have C__law_due := Law.znT (P := PySem.Challenge.rw_ringtrade_k10_asked_one_by_one.prog) (w := w) (base := base) T A__law_due C__law_best C__law_owner C__law_ring
  have C__law_line := Law.zmV (P := PySem.Challenge.rw_ringtrade_k10_asked_one_by_one.prog) (w := w) (base := base) T A__law_line
  have C_is_whole := Law.znQ (P := PySem.Challenge.rw_ringtrade_k10_asked_one_by_one.prog) (w := w) (base := base) T A_is_whole
  have C_is_below := Law.znR (P := PySem.Challenge.rw_ringtrade_k10_asked_one_by_one.prog) (w := w) (base := base) T A_is_below C_is_whole
  have C_first_wrong := Law.zlo (P := PySem.Challenge.rw_ringtrade_k10_asked_one_by_one.prog) (w := w) (base := base) T A_first_wrong C_is_below
  have C_are_unlike := Law.zlS (P := PySem.Challenge.rw_ringtrade_k10_asked_one_by_one.prog) (w := w) (base := base) T A_are_unlike C_first_wrong
  have C_has_each_once := Law.zjn (P := PySem.Challenge.rw_ringtrade_k10_asked_one_by_one.prog) (w := w) (base := base) T A_has_each_once C_are_unlike
  have C_order_of := Law.znP (P := PySem.Challenge.rw_ringtrade_k10_asked_one_by_one.prog) (w := w) (base := base) T A_order_of C_has_each_once
  have C_best_left := Law.zmS (P := PySem.Challenge.rw_ringtrade_k10_asked_one_by_one.prog) (w := w) (base := base) T A_best_left
  have C_owner_left := Law.zlR (P := PySem.Challenge.rw_ringtrade_k10_asked_one_by_one.prog) (w := w) (base := base) T A_owner_left
  have C_ones_behind := Law.zln (P := PySem.Challenge.rw_ringtrade_k10_asked_one_by_one.prog) (w := w) (base := base) T A_ones_behind
  have C_ring_of_askers := Law.zi3 (P := PySem.Challenge.rw_ringtrade_k10_asked_one_by_one.prog) (w := w) (base := base) T A_ring_of_askers C_ones_behind
  have C_next_deed := Law.zmR (P := PySem.Challenge.rw_ringtrade_k10_asked_one_by_one.prog) (w := w) (base := base) T A_next_deed C_best_left C_owner_left C_ring_of_askers
  have C_got_in := Law.zpG (P := PySem.Challenge.rw_ringtrade_k10_asked_one_by_one.prog) (w := w) (base := base) T A_got_in
  have C_things_in := Law.zmQ (P := PySem.Challenge.rw_ringtrade_k10_asked_one_by_one.prog) (w := w) (base := base) T A_things_in
  have C_pairs_of := Law.znO (P := PySem.Challenge.rw_ringtrade_k10_asked_one_by_one.prog) (w := w) (base := base) T A_pairs_of
  have C_asked := Law.zqy (P := PySem.Challenge.rw_ringtrade_k10_asked_one_by_one.prog) (w := w) (base := base) T A_asked C_order_of C_things_in C_next_deed C_pairs_of C_got_in
  have C_asked' := Law.zpH (P := PySem.Challenge.rw_ringtrade_k10_asked_one_by_one.prog) (w := w) (base := base) T A_asked C_order_of C_things_in C_next_deed C_pairs_of C_got_in
  have C__law_whole := Law.zlT (P := PySem.Challenge.rw_ringtrade_k10_asked_one_by_one.prog) (w := w) (base := base) T A__law_whole
  have C__law_form := Law.zmW (P := PySem.Challenge.rw_ringtrade_k10_asked_one_by_one.prog) (w := w) (base := base) T A__law_form C__law_whole
  exact Law.zrF T Fn C__law_scene C__law_line C__law_due C_asked C__law_form C_asked'
