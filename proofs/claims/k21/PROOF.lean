import PyProof.Rows.All
import Wide.All
import OpenK.AllK
import Wide.FinOn
import Lean
import PyProof.EqAt
import PyProof.EqKinds
import PyProof.TupleCall
import PyProof.Rows.SetFrom
import KE.KSortTup
import PyProof.Draws
import PyProof.EnumMake
import PyProof.ListRange
import PyProof.Rows.EnumRows
import PyProof.SetRoads
import PyProof.Rows.MinMaxN
import PyProof.Rows.MaxTwoN
import PyProof.ZipIter
import KE.LcSums
import PySem.Challenge.RW_ringtrade_k21_whole_order_or_betterment
set_option Elab.async false
set_option linter.all false
set_option maxRecDepth 100000
set_option maxHeartbeats 4000000
section
namespace L2
open PySem PySem.Spec PyProof.Rows
noncomputable abbrev Key := Sum Int Str
noncomputable def zi8 : Key→Value→Bool
  | .inl k,v => Value.isInt k v
  | .inr x,v => Value.isStrOf x v
noncomputable def keyH (w : World) : Key→Int
  | .inl k => hashInt k
  | .inr x => hashStr w x
theorem keyIs_shape : ∀ {k : Key} {v : Value},zi8 k v = true→(∃ i t,k = Sum.inl i∧v = Value.int i t)∨(∃ x t,k = Sum.inr x∧v = Value.str x t)
  | .inl i,v,h => by
    obtain ⟨t,e⟩ := Value.isInt_shape (k := i) (v := v) h
    exact .inl ⟨i,t,rfl,e⟩
  | .inr x,v,h => by
    obtain ⟨t,e⟩ := Value.isStrOf_shape (x := x) (v := v) h
    exact .inr ⟨x,t,rfl,e⟩
theorem zkk (i : Int) (t : Tok) : zi8 (.inl i) (.int i t) = true := by simp [zi8,Value.isInt]
theorem zkj (x : Str) (t : Tok) : zi8 (.inr x) (.str x t) = true := by simp [zi8,Value.isStrOf]
theorem zpz (a b : Int) : decide ((Sum.inl a : Key) = Sum.inl b) = (a == b) := by
  by_cases e : a = b
  · subst e; simp
  · have h : ¬ (Sum.inl a : Key) = Sum.inl b := fun q => e (Sum.inl.inj q)
    rw [decide_eq_false h]
    exact (beq_eq_false_iff_ne.mpr e).symm
theorem zpw (a b : Str) : decide ((Sum.inr a : Key) = Sum.inr b) = decide (a = b) := by
  by_cases e : a = b
  · subst e; simp
  · have h : ¬ (Sum.inr a : Key) = Sum.inr b := fun q => e (Sum.inr.inj q)
    rw [decide_eq_false h,decide_eq_false e]
theorem zpy (a : Int) (b : Str) : decide ((Sum.inl a : Key) = Sum.inr b) = false := decide_eq_false (fun q => nomatch q)
theorem zpx (a : Str) (b : Int) : decide ((Sum.inr a : Key) = Sum.inl b) = false := decide_eq_false (fun q => nomatch q)
noncomputable def zbl (prog : Program) (w : World) : PySem.KeyKind prog w Key where
  is := zi8
  hash := keyH w
  inj := fun v a b ha hb => by
    rcases keyIs_shape ha with ⟨i,t,rfl,rfl⟩ | ⟨x,t,rfl,rfl⟩
    · rcases keyIs_shape hb with ⟨j,u,rfl,e⟩ | ⟨y,u,rfl,e⟩
      · injection e with e1 _; rw [e1]
      · exact nomatch e
    · rcases keyIs_shape hb with ⟨j,u,rfl,e⟩ | ⟨y,u,rfl,e⟩
      · exact nomatch e
      · injection e with e1 _; rw [e1]
  byValue := fun k v h => by
    rcases keyIs_shape h with ⟨i,t,rfl,rfl⟩ | ⟨x,t,rfl,rfl⟩ <;> rfl
  pyHash := fun hv h => by
    rcases keyIs_shape hv with ⟨i,t,rfl,rfl⟩ | ⟨x,t,rfl,rfl⟩
    · exact wpAny_pyHash_int h
    · exact wpAny_pyHash_str h
  eqBool := fun hu hv h => by
    rcases keyIs_shape hu with ⟨i,t,rfl,rfl⟩ | ⟨x,t,rfl,rfl⟩
    · rcases keyIs_shape hv with ⟨j,u,rfl,rfl⟩ | ⟨y,u,rfl,rfl⟩
      · rw [zpz] at h; exact wpAny_eqBool_int h
      · rw [zpy] at h; exact SeqAt.EqAt.int_str i t y u _ _ _ _ h
    · rcases keyIs_shape hv with ⟨j,u,rfl,rfl⟩ | ⟨y,u,rfl,rfl⟩
      · rw [zpx] at h; exact SeqAt.EqAt.str_int x t j u _ _ _ _ h
      · rw [zpw] at h; exact wpAny_eqBool_str h
  «strs» := fun k x t v h => by
    rcases keyIs_shape h with ⟨i,u,rfl,e⟩ | ⟨y,u,rfl,e⟩
    · exact nomatch e
    · injection e with e1 _
      subst e1
      cases v <;> rfl
theorem zhO (prog : Program) (w : World) (i : Int) (t : Tok) : (zbl prog w).is (.inl i) (.int i t) = true := zkk i t
theorem zhN (prog : Program) (w : World) (x : Str) (t : Tok) : (zbl prog w).is (.inr x) (.str x t) = true := zkj x t
end L2
namespace L2
open PySem PySem.Spec PyProof.Rows
inductive V where
  | non | bl (b : Bool) | int (i : Int) | str (x : Str) | byt (b : Array UInt8) | flt (b : UInt64) | ref (a : Addr) | ty (n : String)
  deriving DecidableEq
noncomputable def RelV : V→Value→Prop
  | .non,u => u = Value.none
  | .bl b,u => u = Value.bool b
  | .int i,u => ∃ t,u = Value.int i t
  | .str x,u => ∃ t,u = Value.str x t
  | .byt b,u => ∃ t,u = Value.bytes b t
  | .flt b,u => ∃ t,u = Value.float b t
  | .ref a,u => u = Value.ref a
  | .ty n,u => u = Value.type n
noncomputable abbrev Vals : List V→List Value→Prop := Paired RelV
theorem Vals.length {xs : List V} {us : List Value} (r : Vals xs us) : xs.length = us.length := Paired.length r
theorem Vals.get : ∀ {xs : List V} {us : List Value} {i : Nat} {x : V},Vals xs us→xs[i]? = some x→∃ u,us[i]? = some u∧RelV x u
  | _,_,_,_,.nil,e => by simp at e
  | _,_,0,_,.cons r _,e => by simp at e; subst e; exact ⟨_,rfl,r⟩
  | _,_,i + 1,x,.cons _ t,e => by
    obtain ⟨u,h1,h2⟩ := Vals.get (i := i) (x := x) t (by simpa using e)
    exact ⟨u,by simpa using h1,h2⟩
theorem Vals.set {x : V} {u : Value} (r : RelV x u) : ∀ {xs : List V} {us : List Value} (i : Nat),Vals xs us→Vals (xs.set i x) (us.set i u)
  | _,_,_,.nil => .nil
  | _,_,0,.cons _ t => .cons r t
  | _,_,i + 1,.cons q t => .cons q (Vals.set r i t)
theorem Vals.append : ∀ {xs ys : List V} {us ws : List Value},Vals xs us→Vals ys ws→Vals (xs++ys) (us++ws)
  | _,_,_,_,.nil,s => s
  | _,_,_,_,.cons r t,s => .cons r (Vals.append t s)
theorem Vals.take : ∀ {xs : List V} {us : List Value} (n : Nat),Vals xs us→Vals (xs.take n) (us.take n)
  | _,_,0,_ => .nil
  | _,_,_ + 1,.nil => .nil
  | _,_,n + 1,.cons r t => .cons r (Vals.take n t)
theorem Vals.drop : ∀ {xs : List V} {us : List Value} (n : Nat),Vals xs us→Vals (xs.drop n) (us.drop n)
  | _,_,0,r => r
  | _,_,_ + 1,.nil => .nil
  | _,_,n + 1,.cons _ t => Vals.drop n t
noncomputable def RelO : Option V→Option Value→Prop
  | some v,some u => RelV v u
  | none,none => True
  | _,_ => False
noncomputable def KV {κ : Type} : List (κ × V)→List (κ × Value)→Prop := Paired fun (p : κ × V) (q : κ × Value) => p.1 = q.1∧RelV p.2 q.2
noncomputable def kV : Key→V
  | .inl i => .int i
  | .inr x => .str x
inductive HO where
  | lst (xs : List V)
  | tup (xs : List V)
  | dK (kvs : List (Key × V)) | dT (kvs : List (List Key × V))
  | set (S : Int→Bool) (n : Nat)
  | ins (C dx : Addr) (fs : List (Str × V))
  | own (x : Addr)
  | xd (fs : List (Str × V))
  | met (f x : Addr)
  | rng (lo hi : Int)
  | frz (o : Obj) (u : HO)
  | tbl (ps : Array Value)
  | ext (φ : Heap→Prop)
noncomputable abbrev Hp := Addr→Option HO
noncomputable def upd (H : Hp) (a : Addr) (o : HO) : Hp := fun b => if b = a then some o else H b
theorem zam {H : Hp} {a : Addr} {o : HO} : upd H a o a = some o := by unfold upd; rw [if_pos rfl]
theorem zat {H : Hp} {a b : Addr} {o : HO} (h : b≠a) : upd H a o b = H b := by unfold upd; rw [if_neg h]
theorem zqN {H : Hp} {a b : Addr} {o u : HO} (h : H a = some o) (h' : H b = some u) (d : o≠u) : a≠b := by
  intro e; subst e; rw [h] at h'; exact d (Option.some.inj h')
theorem zbw {H : Hp} {a b : Addr} {o : HO} (h : H a = some o) (h' : H b = none) : a≠b := by
  intro e; subst e; rw [h] at h'; cases h'
section
variable (P : Program) (w : World)
noncomputable def zaZ (H : Hp) (h : Heap) (a : Addr) : HO→Prop
  | .lst xs => xs.length≤sizeLine∧∃ (its : List Value) (n : Nat),Vals xs its∧h.get? a = some { cls := .type "list",data := .seq its.toArray n }
  | .tup xs => xs.length≤sizeLine∧∃ its : List Value,Vals xs its∧IsTup h a its.toArray∧∃ o,h.get? a = some o∧o.dict = none
  | .dK kvs => kvs.length≤sizeLine∧(a == sysModules) = false∧∃ vs,KV kvs vs∧h.DictOf (zbl P w) a vs
  | .dT kvs => kvs.length≤sizeLine∧(a == sysModules) = false∧∃ xs : List (List Key × Addr × Value),
      Paired (fun (p : List Key × V) (q : List Key × Addr × Value) => p.1 = q.1∧H q.2.1 = some (.tup (p.1.map kV))∧RelV p.2 q.2.2) kvs xs ∧
      ∃ o es ep,h.get? a = some o∧o.ExactDict∧o.data = .dict es ep∧es.toList = xs.map (entryOfKey (tupleKind (zbl P w)))∧(xs.map (·.1)).Nodup
  | .set S n => h.SetOf (intKind P w) a S n
  | .ins C dx fs => H dx = some (.own a)∧fs.length≤1000∧dx≠a∧h.get? a = some (PySem.W.instObj C dx) ∧
      ∃ mA,h.Ns1 dx mA∧(∀ f,RelO (fs.lookup f) (mA f))∧PySem.Within mA (fs.map (·.1))
  | .own _ => ∃ o,h.get? a = some o
  | .xd fs => ∃ mA,h.Ns1 a mA∧∀ f,RelO (fs.lookup f) (mA f)
  | .rng lo hi => ∃ t u v,h.get? a = some { cls := .type "range",data := .fields #[.int lo t,.int hi u,.int 1 v] }
  | .frz o u => h.get? a = some o∧zaZ H h a u
  | .tbl ps => h.get? a = some { cls := .none,data := .fields ps }
  | .met f x => h.get? a = some (PySem.W.methodObj (.ref f) (.ref x))
  | .ext φ => φ h∧(∃ o,h.get? a = some o)∧∀ h1 h2 : Heap,φ h1→(∀ o,h1.get? a = some o→h2.get? a = some o)→φ h2
noncomputable def HOk (H : Hp) (h : Heap) : Prop := ∀ a o,H a = some o→zaZ P w H h a o
end
section
variable {P : Program} {w : World} {H H' : Hp} {h h' : Heap} {a : Addr} {o : HO}
theorem zaZ.lt (x : zaZ P w H h a o) : a < h.objs.size := by
  cases o with
  | lst xs => obtain ⟨_,_,_,_,e⟩ := x; exact Heap.lt_size e
  | tup xs => obtain ⟨_,_,_,p,_⟩ := x; exact p.lt
  | dK kvs => obtain ⟨_,_,_,_,o,_,_,e,_⟩ := x; exact Heap.lt_size e
  | dT kvs => obtain ⟨_,_,_,_,o,_,_,e,_⟩ := x; exact Heap.lt_size e
  | set S n => obtain ⟨o,_,_,_,e,_⟩ := x; exact Heap.lt_size e
  | ins C dx fs => obtain ⟨_,_,_,e,_⟩ := x; exact Heap.lt_size e
  | own y => obtain ⟨_,e⟩ := x; exact Heap.lt_size e
  | xd fs => obtain ⟨_,⟨_,_,_,e,_⟩,_⟩ := x; exact Heap.lt_size e
  | rng lo hi => obtain ⟨_,_,_,e⟩ := x; exact Heap.lt_size e
  | frz ob u => obtain ⟨e,_⟩ := x; exact Heap.lt_size e
  | tbl ps => exact Heap.lt_size (show h.get? a = some _ from x)
  | met f y => exact Heap.lt_size (show h.get? a = some _ from x)
  | ext φ => obtain ⟨_,⟨_,e⟩,_⟩ := x; exact Heap.lt_size e
theorem Paired.mapP {α β : Type} {F G : α→β→Prop} : ∀ {l₁ : List α} {l₂ : List β},Paired F l₁ l₂→(∀ a b,F a b→G a b)→Paired G l₁ l₂
  | _,_,.nil,_ => .nil
  | _,_,.cons r t,f => .cons (f _ _ r) (Paired.mapP t f)
theorem zaZ.stay (x : zaZ P w H h a o) (k : ∀ b u,(b = a∨H b = some (.own a))→h.get? b = some u→h'.get? b = some u)
    (ho : ∀ b,H b = some (.own a)→H' b = some (.own a)) (ht : ∀ b xs,H b = some (.tup xs)→H' b = some (.tup xs)) : zaZ P w H' h' a o := by
  induction o with
  | lst xs => obtain ⟨z,its,n,r,e⟩ := x; exact ⟨z,its,n,r,k _ _ (.inl rfl) e⟩
  | tup xs => obtain ⟨z,its,r,⟨ob,e,c⟩,ob2,e2,c2⟩ := x; exact ⟨z,its,r,⟨ob,k _ _ (.inl rfl) e,c⟩,ob2,k _ _ (.inl rfl) e2,c2⟩
  | dK kvs => obtain ⟨z,y,vs,r,ob,es,ep,e,c⟩ := x; exact ⟨z,y,vs,r,ob,es,ep,k _ _ (.inl rfl) e,c⟩
  | dT kvs =>
    obtain ⟨z,y,xs,r,ob,es,ep,e,c⟩ := x
    exact ⟨z,y,xs,Paired.mapP r fun p q z => ⟨z.1,ht _ _ z.2.1,z.2.2⟩,ob,es,ep,k _ _ (.inl rfl) e,c⟩
  | set S n => obtain ⟨ob,es,ep,t,e,c⟩ := x; exact ⟨ob,es,ep,t,k _ _ (.inl rfl) e,c⟩
  | ins C dx fs =>
    obtain ⟨d,z,ne,e,mA,⟨od,es,ep,e2,c⟩,r⟩ := x
    exact ⟨ho _ d,z,ne,k _ _ (.inl rfl) e,mA,⟨od,es,ep,k _ _ (.inr d) e2,c⟩,r⟩
  | own y => obtain ⟨ob,e⟩ := x; exact ⟨ob,k _ _ (.inl rfl) e⟩
  | xd fs => obtain ⟨mA,⟨od,es,ep,e,c⟩,r⟩ := x; exact ⟨mA,⟨od,es,ep,k _ _ (.inl rfl) e,c⟩,r⟩
  | rng lo hi => obtain ⟨t,u,v,e⟩ := x; exact ⟨t,u,v,k _ _ (.inl rfl) e⟩
  | frz ob u ih => obtain ⟨e,q⟩ := x; exact ⟨k _ _ (.inl rfl) e,ih q⟩
  | tbl ps =>
    have e : h.get? a = some { cls := .none,data := .fields ps } := x
    show h'.get? a = some { cls := .none,data := .fields ps }
    exact k a _ (.inl rfl) e
  | met f y =>
    have e : h.get? a = some (PySem.W.methodObj (.ref f) (.ref y)) := x
    show h'.get? a = some (PySem.W.methodObj (.ref f) (.ref y))
    exact k a _ (.inl rfl) e
  | ext φ => obtain ⟨p,⟨o,e⟩,st⟩ := x; exact ⟨st _ _ p fun o q => k _ _ (.inl rfl) q,⟨o,k _ _ (.inl rfl) e⟩,st⟩
theorem HOk.lt (x : HOk P w H h) (e : H a = some o) : a < h.objs.size := (x a o e).lt
theorem HOk.fresh (x : HOk P w H h) (e : h.objs.size≤a) : H a = none := by
  cases q : H a with
  | none => rfl
  | some u => exact absurd (Nat.lt_of_lt_of_le (x.lt q) e) (Nat.lt_irrefl _)
theorem HOk.kept (x : HOk P w H h) (k : ∀ b u,h.get? b = some u→h'.get? b = some u) : HOk P w H h' := fun a o e =>
  (x a o e).stay (fun b u _ q => k b u q) (fun _ q => q) fun _ _ q => q
theorem HOk.laid (x : HOk P w H h) (k : ∀ b u,h.get? b = some u→h'.get? b = some u) (hp : h.objs.size≤a) (new : zaZ P w (upd H a o) h' a o) : HOk P w (upd H a o) h' := fun b u e => by
  have hn := x.fresh hp
  by_cases hb : b = a
  · subst hb; rw [zam] at e; cases e; exact new
  · rw [zat hb] at e
    exact (x b u e).stay (fun c v _ q => k c v q) (fun c q => by rw [zat (zbw q hn)]; exact q) fun c xs q => by rw [zat (zbw q hn)]; exact q
end
noncomputable def Rd (H : Hp) (a : Addr) (u : HO) : Prop := H a = some u∨∃ o,H a = some (.frz o u)
theorem Rd.ok {P : Program} {w : World} {H : Hp} {h : Heap} {a : Addr} {u : HO} (r : Rd H a u) (x : HOk P w H h) : zaZ P w H h a u := by
  rcases r with r | ⟨o,r⟩
  · exact x a u r
  · obtain ⟨_,q⟩ := x a _ r
    exact q
noncomputable def Mut : Option HO→Prop
  | some (.lst _) => True
  | some (.dK _) => True
  | some (.dT _) => True
  | some (.set _ _) => True
  | some (.ins _ _ _) => True
  | some (.ext _) => True
  | _ => False
section
variable {P : Program} {w : World} {H : Hp} {h h' : Heap} {x e : Addr} {o' : HO}
theorem HOk.write (ok : HOk P w H h) (mu : Mut (H x)) (he : e = x∨H e = some (.own x)) (k : ∀ b u,b≠e→h.get? b = some u→h'.get? b = some u) (heo : ∃ u,h'.get? e = some u)
    (new : zaZ P w (upd H x o') h' x o') : HOk P w (upd H x o') h' := fun b u q => by
  have nown : ∀ c y,H c = some (.own y)→c≠x := fun c y r z => by subst z; rw [r] at mu; exact mu
  have ntup : ∀ c xs,H c = some (.tup xs)→c≠x := fun c xs r z => by subst z; rw [r] at mu; exact mu
  by_cases hb : b = x
  · subst hb; rw [zam] at q; cases q; exact new
  · rw [zat hb] at q
    by_cases hbe : b = e
    · have q' : H b = some (.own x) := by
        rcases he with z | z
        · exact absurd (hbe.trans z) hb
        · rw [hbe]; exact z
      rw [q] at q'; cases q'
      obtain ⟨v,hv⟩ := heo
      exact ⟨v,by rw [hbe]; exact hv⟩
    · refine (ok b u q).stay (fun c v hc r => k c v ?_ r) (fun c r => by rw [zat (nown c b r)]; exact r) fun c xs r => by rw [zat (ntup c xs r)]; exact r
      rcases hc with rfl | hc
      · exact hbe
      · rintro rfl
        rcases he with z | z
        · exact nown c b hc z
        · rw [hc] at z; cases z; exact hb rfl
end
structure Un (fs ex : List Addr) (H H' : Hp) (h h' : Heap) : Prop where
  keep : ∀ b o,h.get? b = some o→H b = none→b∉fs→b∉ex→h'.get? b = some o
  slot : ∀ b o,h.get? b = some o→H b = none→b∈fs→b∉ex→∃ sl,h'.get? b = some { o with slots := sl }
  free : ∀ b o,h.get? b = some o→H b = none→b∉ex→H' b = none
  there : ∀ b o,h.get? b = some o→b∉ex→∃ o',h'.get? b = some o'
  tups : ∀ b xs,H b = some (.tup xs)→H' b = some (.tup xs)
  frzs : ∀ b o u,H b = some (.frz o u)→H' b = some (.frz o u)
  tbls : ∀ b ps,H b = some (.tbl ps)→∃ more,H' b = some (.tbl (ps++more))
section
variable {fs fs' ex ex' : List Addr} {H H1 H2 : Hp} {h h1 h2 h' : Heap} {a x e : Addr} {o : HO}
theorem Un.any (u : Un fs ex H H1 h h1) {b : Addr} {ob : Obj} (q : h.get? b = some ob) (n : H b = none) (hx : b∉ex) : ∃ sl,h1.get? b = some { ob with slots := sl } := by
  by_cases hb : b∈fs
  · exact u.slot b ob q n hb hx
  · exact ⟨ob.slots,u.keep b ob q n hb hx⟩
theorem Un.trans (a : Un fs ex H H1 h h1) (b : Un fs ex H1 H2 h1 h2) : Un fs ex H H2 h h2 where
  keep := fun c ob q n hc hx => b.keep c ob (a.keep c ob q n hc hx) (a.free c ob q n hx) hc hx
  slot := fun c ob q n hc hx => by
    obtain ⟨sl,e1⟩ := a.slot c ob q n hc hx
    obtain ⟨sl',e2⟩ := b.slot c _ e1 (a.free c ob q n hx) hc hx
    exact ⟨sl',e2⟩
  free := fun c ob q n hx => by
    obtain ⟨o',e1⟩ := a.there c ob q hx
    exact b.free c o' e1 (a.free c ob q n hx) hx
  there := fun c ob q hx => by
    obtain ⟨o',e1⟩ := a.there c ob q hx
    exact b.there c o' e1 hx
  tups := fun c xs q => b.tups c xs (a.tups c xs q)
  frzs := fun c ob xs q => b.frzs c ob xs (a.frzs c ob xs q)
  tbls := fun c ps q => by
    obtain ⟨m1,e1⟩ := a.tbls c ps q
    obtain ⟨m2,e2⟩ := b.tbls c _ e1
    exact ⟨m1++m2,by rw [e2,Array.append_assoc]⟩
theorem Un.kept (k : ∀ b u,h.get? b = some u→h'.get? b = some u) : Un fs ex H H h h' :=
  ⟨fun b ob q _ _ _ => k b ob q,fun b ob q _ _ _ => ⟨ob.slots,k b ob q⟩,fun _ _ _ n _ => n,fun b ob q _ => ⟨ob,k b ob q⟩,fun _ _ q => q,fun _ _ _ q => q,fun _ ps q => ⟨#[],by rw [q]; simp⟩⟩
theorem Un.refl : Un fs ex H H h h := Un.kept fun _ _ q => q
theorem Un.laid (k : ∀ b u,h.get? b = some u→h'.get? b = some u) (hp : h.objs.size≤a) (hn : H a = none) : Un fs ex H (upd H a o) h h' where
  keep := fun b u q _ _ _ => k b u q
  slot := fun b u q _ _ _ => ⟨u.slots,k b u q⟩
  free := fun b u q n _ => by rw [zat (Nat.ne_of_lt (Nat.lt_of_lt_of_le (Heap.lt_size q) hp))]; exact n
  there := fun b u q _ => ⟨u,k b u q⟩
  tups := fun b xs q => by rw [zat (zbw q hn)]; exact q
  frzs := fun b u xs q => by rw [zat (zbw q hn)]; exact q
  tbls := fun b ps q => ⟨#[],by rw [zat (zbw q hn),q]; simp⟩
theorem Un.write (mu : Mut (H x)) (he : e = x∨H e = some (.own x)) (k : ∀ b u,b≠e→h.get? b = some u→h'.get? b = some u) (heo : ∃ u,h'.get? e = some u) : Un fs ex H (upd H x o) h h' := by
  have hx : ∀ b,H b = none→b≠x := fun b n z => by subst z; rw [n] at mu; exact mu
  have hb : ∀ b,H b = none→b≠e := fun b n z => by
    subst z
    rcases he with r | r
    · exact hx b n r
    · rw [n] at r; cases r
  have hm : ∀ b u,H b = some u→¬ Mut (some u)→b≠x := fun b u q nm z => by subst z; rw [q] at mu; exact nm mu
  refine ⟨fun b u q n _ _ => k b u (hb b n) q,fun b u q n _ _ => ⟨u.slots,k b u (hb b n) q⟩,fun b u q n _ => by rw [zat (hx b n)]; exact n,fun b u q _ => ?_,
    fun b xs q => by rw [zat (hm b _ q fun z => z)]; exact q,fun b u xs q => by rw [zat (hm b _ q fun z => z)]; exact q,fun b ps q => ⟨#[],by rw [zat (hm b _ q fun z => z),q]; simp⟩⟩
  by_cases hbe : b = e
  · subst hbe; exact heo
  · exact ⟨u,k b u hbe q⟩
end
noncomputable def trk (h : Heap) (H : Hp) : List Addr := (List.range h.objs.size).filter fun a => (H a).isSome
noncomputable def hidT (h : Heap) (H : Hp) : Heap := PySem.W.hideAll h (trk h H)
theorem zkz (h : Heap) (H : Hp) : (hidT h H).objs.size = h.objs.size := PySem.W.hideAll_size _ _
theorem zl5 {h : Heap} {H : Hp} {b : Addr} {o : Obj} (e : h.get? b = some o) (n : H b = none) : (hidT h H).get? b = some o :=
  PySem.W.hideAll_get _ e fun hm => by
    have q : (H b).isSome = true := (List.mem_filter.mp hm).2
    rw [n] at q; simp at q
theorem znH {h : Heap} {H : Hp} {b : Addr} {o : Obj} (e : (hidT h H).get? b = some o) : h.get? b = some o∧H b = none := by
  have e' : h.get? b = some o := PySem.W.of_hideAll (trk h H) e
  refine ⟨e',?_⟩
  cases q : H b with
  | none => rfl
  | some x =>
    have hm : b∈trk h H := List.mem_filter.mpr ⟨List.mem_range.mpr (Heap.lt_size e'),by simp [q]⟩
    have z : (hidT h H).get? b = none := PySem.W.hideAll_none (trk h H) hm
    rw [z] at e; cases e
noncomputable def zfw (g h : Heap) (L : Addr) : List (Addr × Obj) := (List.range h.objs.size).filterMap fun a => if a = L∨(g.get? a).isSome = true then none else (h.get? a).map fun o => (a,o)
theorem zfi {g h : Heap} {L a : Addr} {o : Obj} (h1 : a≠L) (h2 : g.get? a = none) (h3 : h.get? a = some o) : (a,o)∈zfw g h L :=
  List.mem_filterMap.mpr ⟨a,List.mem_range.mpr (Heap.lt_size h3),by simp [h1,h2,h3]⟩
theorem zfG {g h : Heap} {L : Addr} {p : Addr × Obj} (hp : p∈zfw g h L) : p.1≠L∧g.get? p.1 = none∧h.get? p.1 = some p.2 := by
  obtain ⟨b,_,e⟩ := List.mem_filterMap.mp hp
  split at e
  · cases e
  · rename_i hn
    cases q : h.get? b with
    | none => rw [q] at e; simp at e
    | some u =>
      rw [q] at e
      simp only [Option.map_some,Option.some.injEq] at e
      subst e
      refine ⟨fun z => hn (.inl z),?_,q⟩
      show g.get? b = none
      cases r : g.get? b with
      | none => rfl
      | some v => exact (hn (.inr (by simp [r]))).elim
noncomputable def rest (g h : Heap) (L d : Addr) : List (Addr × Obj) := (zfw g h L).filter fun p => decide (p.1≠d)
theorem zlU {g h : Heap} {L : Addr} : News g L h (zfw g h L) := fun p hp => let ⟨a,b,c⟩ := zfG hp; ⟨c,a,b⟩
end L2
namespace L2
open PySem PySem.Spec PyProof.Rows
structure Mod (K : PySem.W.Frag) (mg : Str→Option Value) (base : Heap) : Prop where
  kin : K.In base
  glob : base.Ns mainGlobals mg
  blt : ∃ mb,base.Ns builtinsNs mb∧∀ x : Str,x≠"__name__"→mb x = bootBuiltins x
  nolimit : base.NoLimit
structure Cx where
  prog : Program
  w : World
  K : PySem.W.Frag
  mg : Str→Option Value
  base : Heap
  A : Around
  N : List Str
  s₀ : Shared
  H₀ : Hp
  env : Env
  outer : List Env
  stack : List Env
  ex : List Addr
  fn : Str→Bool
  calm : Bool
  pn : List (Addr × Obj)
  xe : Value→Shared→Prop
noncomputable def frs (l : List Env) : List Addr := l.filterMap (·.frame)
noncomputable abbrev Cx.fs (X : Cx) : List Addr := frs X.outer
noncomputable def Vis (sc : Scope) (x : Str) : Prop := sc.names.lookup x = some .local∨sc.names.lookup x = some .cell∨sc.names.lookup x = some .free
noncomputable def Loc (sc : Scope) (x : Str) : Prop := sc.names.lookup x = some .local∨sc.names.lookup x = some .cell
noncomputable def Look (env : Env) (h : Heap) (m : Str→Option Value) (x : Str) (u : Value) : Prop :=
  (env.kindOf x = some .local∧m x = some u)∨((env.kindOf x = some .cell∨env.kindOf x = some .free)∧∃ c,env.cells.lookup x = some c∧h.IsCell c (some u))
structure Cx.Ok (X : Cx) : Prop where
  mod : Mod X.K X.mg X.base
  kind : X.env.scope.kind = .function
  glob : X.env.globals = mainGlobals
  blt : X.env.builtins = builtinsNs
  above : X.s₀.heap.objs.size≤X.env.locals
  inj : ∀ x y c,X.env.cells.lookup x = some c→X.env.cells.lookup y = some c→x = y
  has : ∀ x,(X.env.kindOf x = some .cell∨X.env.kindOf x = some .free)→∃ c,X.env.cells.lookup x = some c
  cab : ∀ x c,X.fn x = true→X.env.cells.lookup x = some c→X.s₀.heap.objs.size≤c
  hd : X.calm = true→X.A.handled = none
  frames : X.A.frames = some X.stack
  stk : X.stack = X.outer∨(X.stack = X.env::X.outer∧X.env.frame = some X.env.locals)
  exf : ∀ b∈X.ex,b≠X.env.locals∧∀ x c,X.env.cells.lookup x = some c→c≠b
  bs : ∀ b o,X.base.get? b = some o→X.s₀.heap.get? b = some o∧X.H₀ b = none
  bsz : X.base.objs.size≤X.s₀.heap.objs.size
  noex : ∀ b o,X.base.get? b = some o→b∉X.ex
  exfs : ∀ b∈X.ex,b∉X.fs
  funs : X.s₀.heap.FunFrames X.base X.outer
  frf : ∀ b∈X.fs,X.H₀ b = none
structure Inv (X : Cx) (pins : List (Addr × Obj)) (σ : List (Option V)) (H : Hp) (s : Shared) : Prop where
  ok : X.Ok
  os : s.os = X.s₀.os
  bare : AllBare s.gens
  base : Un X.fs X.ex X.H₀ H X.s₀.heap s.heap
  loc : ∃ m,s.heap.Ns X.env.locals m∧∀ (i : Nat) (x : Str) (v : V),X.N[i]? = some x→σ[i]? = some (some v)→Vis X.env.scope x→∃ u,RelV v u∧Look X.env s.heap m x u
  cell : ∀ x c,X.env.cells.lookup x = some c→∃ v,s.heap.IsCell c v
  free : H X.env.locals = none
  freeC : ∀ x c,X.env.cells.lookup x = some c→H c = none
  pin : ∀ p∈X.pn++pins,s.heap.get? p.1 = some p.2∧H p.1 = none∧p.1≠X.env.locals∧p.1∉X.fs∧∀ v,p.2.data≠.cell v
  hok : HOk X.prog X.w H s.heap
  len : σ.length = X.N.length
section
variable {X : Cx} {pins : List (Addr × Obj)} {σ : List (Option V)} {H H' : Hp} {s : Shared} {h' : Heap}
theorem Cx.Ok.nofr (ok : X.Ok) {b : Addr} {o : Obj} (e : X.base.get? b = some o) : b∉X.fs := fun hb => by
  have := (ok.funs.mem hb).1
  rw [e] at this; cases this
theorem Inv.bs (I : Inv X pins σ H s) : ∀ b o,X.base.get? b = some o→s.heap.get? b = some o∧H b = none := fun b o e =>
  ⟨I.base.keep b o (I.ok.bs b o e).1 (I.ok.bs b o e).2 (I.ok.nofr e) (I.ok.noex b o e),I.base.free b o (I.ok.bs b o e).1 (I.ok.bs b o e).2 (I.ok.noex b o e)⟩
theorem Inv.bk (I : Inv X pins σ H s) : ∀ b o,X.base.get? b = some o→s.heap.get? b = some o := fun b o e => (I.bs b o e).1
theorem Inv.mod (I : Inv X pins σ H s) : Mod X.K X.mg X.base := I.ok.mod
theorem Inv.kIn (I : Inv X pins σ H s) : X.K.In s.heap := I.ok.mod.kin.keeps I.bk
theorem Inv.nolimit (I : Inv X pins σ H s) : s.heap.NoLimit := I.ok.mod.nolimit.keeps I.bk
theorem Inv.fr (I : Inv X pins σ H s) : ∃ m,Fr X.base X.env.locals s.heap m :=
  let ⟨m,hn,_⟩ := I.loc
  ⟨m,hn,I.bk,Nat.le_trans I.ok.bsz I.ok.above⟩
theorem Inv.lt (I : Inv X pins σ H s) : X.env.locals < s.heap.objs.size := let ⟨_,hn,_⟩ := I.loc; hn.lt
theorem Inv.sz (I : Inv X pins σ H s) : X.s₀.heap.objs.size≤s.heap.objs.size := Nat.le_trans I.ok.above (Nat.le_of_lt I.lt)
theorem Inv.nofs (I : Inv X pins σ H s) {a : Addr} (h : s.heap.objs.size≤a) : a∉X.fs := fun hb => by
  obtain ⟨_,o,ho,_⟩ := I.ok.funs.mem hb
  exact absurd (Nat.lt_of_lt_of_le (Heap.lt_size ho) (Nat.le_trans I.sz h)) (Nat.lt_irrefl _)
theorem Inv.cne (I : Inv X pins σ H s) : ∀ x c,X.env.cells.lookup x = some c→c≠X.env.locals := fun x c e z => by
  obtain ⟨v,o,ho,hd⟩ := I.cell x c e
  obtain ⟨m,⟨o',es,ep,ho',hd',_⟩,_⟩ := I.loc
  rw [z,ho'] at ho; cases ho; rw [hd'] at hd; cases hd
theorem Inv.funs (I : Inv X pins σ H s) : s.heap.FunFrames X.base X.outer := by
  have all : ∀ (l : List Env),(∀ b∈frs l,b∈X.fs)→X.s₀.heap.FunFrames X.base l→s.heap.FunFrames X.base l := by
    intro l
    induction l with
    | nil => intro _ _; trivial
    | cons env r ih =>
      intro hs hl
      obtain ⟨hk,⟨L,o,hf,hn,ho,hd⟩,hr⟩ := hl
      have hL : L∈X.fs := hs L (by unfold frs; rw [List.filterMap_cons,hf]; exact List.mem_cons_self)
      obtain ⟨sl,e⟩ := I.base.slot L o ho (I.ok.frf L hL) hL fun z => I.ok.exfs L z hL
      exact ⟨hk,⟨L,_,hf,hn,e,hd⟩,ih (fun b hb => hs b (by unfold frs; rw [List.filterMap_cons,hf]; exact List.mem_cons_of_mem _ hb)) hr⟩
  exact all X.outer (fun _ hb => hb) I.ok.funs
theorem Inv.stack (I : Inv X pins σ H s) : s.heap.FunFrames X.base X.stack := by
  rcases I.ok.stk with e | ⟨e,hf⟩
  · rw [e]; exact I.funs
  · rw [e]
    obtain ⟨m,hn,_⟩ := I.loc
    refine .cons (by rw [I.ok.kind]; decide) hf hn ?_ I.funs
    exact Heap.get?_none_of_le (Nat.le_trans I.ok.bsz I.ok.above)
theorem Inv.stkSub (I : Inv X pins σ H s) : ∀ b∈frs X.stack,b∈X.env.locals::X.fs := fun b hb => by
  rcases I.ok.stk with e | ⟨e,hf⟩
  · rw [e] at hb; exact List.mem_cons_of_mem _ hb
  · rw [e] at hb
    unfold frs at hb
    rw [List.filterMap_cons,hf] at hb
    exact hb
theorem Inv.stkFree (I : Inv X pins σ H s) : ∀ b∈frs X.stack,H b = none := fun b hb => by
  rcases List.mem_cons.mp (I.stkSub b hb) with e | hb
  · rw [e]; exact I.free
  · obtain ⟨_,o,ho,_⟩ := I.ok.funs.mem hb
    exact I.base.free b o ho (I.ok.frf b hb) fun z => I.ok.exfs b z hb
theorem Inv.step {g' : Array GenState} {t' : Nat} {d' : Drawn} {ch : List Addr} (I : Inv X pins σ H s)
    (hch : ∀ b∈ch,(b∈X.ex∨X.s₀.heap.objs.size≤b)∧b≠X.env.locals∧(∀ x c,X.env.cells.lookup x = some c→c≠b)∧∀ p∈X.pn++pins,p.1≠b)
    (keep : ∀ b o,b≠X.env.locals→b∉X.fs→b∉ch→s.heap.get? b = some o→H b = none→h'.get? b = some o)
    (slot : ∀ b o,b≠X.env.locals→b∈X.fs→b∉ch→s.heap.get? b = some o→H b = none→∃ sl,h'.get? b = some { o with slots := sl }) (free : ∀ b o,b∉ch→s.heap.get? b = some o→H b = none→H' b = none)
    (there : ∀ b o,b∉ch→s.heap.get? b = some o→∃ o',h'.get? b = some o')
    (tups : ∀ b xs,H b = some (.tup xs)→H' b = some (.tup xs)) (frzs : ∀ b o u,H b = some (.frz o u)→H' b = some (.frz o u)) (tbls : ∀ b ps,H b = some (.tbl ps)→∃ more,H' b = some (.tbl (ps++more)))
    (ns : ∀ m,s.heap.Ns X.env.locals m→h'.Ns X.env.locals m) (hok : HOk X.prog X.w H' h') (hg : AllBare g') :
    Inv X pins σ H' { s with heap := h',gens := g',drawn := d',toks := t' } := by
  have neL : ∀ b o,X.s₀.heap.get? b = some o→b≠X.env.locals := fun b o e => Nat.ne_of_lt (Nat.lt_of_lt_of_le (Heap.lt_size e) I.ok.above)
  have neC : ∀ b o,X.s₀.heap.get? b = some o→b∉X.ex→b∉ch := fun b o e hx hb => by
    rcases (hch b hb).1 with z | z
    · exact hx z
    · exact absurd (Nat.lt_of_lt_of_le (Heap.lt_size e) z) (Nat.lt_irrefl _)
  have cellK : ∀ x c,X.env.cells.lookup x = some c→∀ v,s.heap.IsCell c v→h'.IsCell c v := fun x c e v ⟨o,ho,hd⟩ => by
    have nch : c∉ch := fun z => (hch c z).2.2.1 x c e rfl
    by_cases hc : c∈X.fs
    · obtain ⟨sl,q⟩ := slot c o (I.cne x c e) hc nch ho (I.freeC x c e)
      exact ⟨_,q,hd⟩
    · exact ⟨o,keep c o (I.cne x c e) hc nch ho (I.freeC x c e),hd⟩
  refine ⟨I.ok,I.os,hg,⟨fun b o e n hb hx => ?_,fun b o e n hb hx => ?_,fun b o e n hx => ?_,fun b o e hx => ?_,fun b xs e => tups b xs (I.base.tups b xs e),fun b o xs e => frzs b o xs (I.base.frzs b o xs e),fun b ps e => ?_⟩,?_,fun x c e => ?_,?_,fun x c e => ?_,fun p hp => ?_,hok,I.len⟩
  · exact keep b o (neL b o e) hb (neC b o e hx) (I.base.keep b o e n hb hx) (I.base.free b o e n hx)
  · obtain ⟨sl,e1⟩ := I.base.slot b o e n hb hx
    obtain ⟨sl',e2⟩ := slot b _ (neL b o e) hb (neC b o e hx) e1 (I.base.free b o e n hx)
    exact ⟨sl',e2⟩
  · obtain ⟨o',e1⟩ := I.base.there b o e hx
    exact free b o' (neC b o e hx) e1 (I.base.free b o e n hx)
  · obtain ⟨o',e1⟩ := I.base.there b o e hx
    exact there b o' (neC b o e hx) e1
  · obtain ⟨m1,e1⟩ := I.base.tbls b ps e
    obtain ⟨m2,e2⟩ := tbls b _ e1
    exact ⟨m1++m2,by rw [e2,Array.append_assoc]⟩
  · obtain ⟨m,hn,hl⟩ := I.loc
    refine ⟨m,ns m hn,fun i x v e1 e2 e3 => ?_⟩
    obtain ⟨u,r,l⟩ := hl i x v e1 e2 e3
    refine ⟨u,r,?_⟩
    rcases l with l | ⟨k,c,e,z⟩
    · exact .inl l
    · exact .inr ⟨k,c,e,cellK x c e _ z⟩
  · obtain ⟨v,z⟩ := I.cell x c e
    exact ⟨v,cellK x c e v z⟩
  · obtain ⟨m,⟨o,_,_,ho,_⟩,_⟩ := I.loc
    exact free _ o (fun z => (hch _ z).2.1 rfl) ho I.free
  · obtain ⟨v,o,ho,hd⟩ := I.cell x c e
    exact free c o (fun z => (hch c z).2.2.1 x c e rfl) ho (I.freeC x c e)
  · obtain ⟨e,n,ne,nf,d⟩ := I.pin p hp
    have nch : p.1∉ch := fun z => (hch p.1 z).2.2.2 p hp rfl
    exact ⟨keep p.1 p.2 ne nf nch e n,free p.1 p.2 nch e n,ne,nf,d⟩
theorem Inv.un {t' : Nat} (I : Inv X pins σ H s) (u : Un X.fs [] H H' s.heap h') (hok : HOk X.prog X.w H' h') : Inv X pins σ H' { s with heap := h',toks := t' } := by
  obtain ⟨m,⟨o,es,ep,ho,r⟩,_⟩ := id I.loc
  obtain ⟨sl,hL⟩ := u.any ho I.free (by simp)
  exact I.step (g' := s.gens) (d' := s.drawn) (ch := []) (fun _ z => nomatch z) (fun b o _ hb _ e n => u.keep b o e n hb (by simp)) (fun b o _ hb _ e n => u.slot b o e n hb (by simp)) (fun b o _ e n => u.free b o e n (by simp)) (fun b o _ e => u.there b o e (by simp)) u.tups u.frzs u.tbls (fun m' hm => by
    obtain ⟨o',es',ep',ho',r'⟩ := hm
    rw [ho] at ho'; cases ho'
    exact ⟨_,es',ep',hL,r'⟩) hok I.bare
theorem Inv.call {g' : Array GenState} {t' : Nat} {d' : Drawn} {ch : List Addr} (I : Inv X pins σ H s) (u : Un (frs X.stack) ch H H' s.heap h') (hok : HOk X.prog X.w H' h') (hg : AllBare g')
    (hch : ∀ b∈ch,(b∈X.ex∨X.s₀.heap.objs.size≤b)∧b≠X.env.locals∧(∀ x c,X.env.cells.lookup x = some c→c≠b)∧∀ p∈X.pn++pins,p.1≠b) :
    Inv X pins σ H' { s with heap := h',gens := g',drawn := d',toks := t' } := by
  obtain ⟨m,⟨o,es,ep,ho,r⟩,_⟩ := id I.loc
  obtain ⟨sl,hL⟩ := u.any ho I.free fun z => (hch _ z).2.1 rfl
  exact I.step (ch := ch) hch (fun b o hL hb hc e n => u.keep b o e n (fun z => (List.mem_cons.mp (I.stkSub b z)).elim hL hb) hc) (fun b o _ _ hc e n => u.any e n hc) (fun b o hc e n => u.free b o e n hc) (fun b o hc e => u.there b o e hc) u.tups u.frzs u.tbls (fun m' hm => by
    obtain ⟨o',es',ep',ho',r'⟩ := hm
    rw [ho] at ho'; cases ho'
    exact ⟨_,es',ep',hL,r'⟩) hok hg
theorem Inv.turned {t' : Nat} {it : Addr} (I : Inv X pins σ H s) (k : ∀ b o,b≠it→s.heap.get? b = some o→h'.get? b = some o) (hn : H it = none) (hL : it≠X.env.locals)
    (h1 : it∈X.ex∨X.s₀.heap.objs.size≤it) (h2 : ∀ x c,X.env.cells.lookup x = some c→c≠it) (h3 : ∀ p∈X.pn++pins,p.1≠it) : Inv X pins σ H { s with heap := h',toks := t' } := by
  have nit : ∀ b u,H b = some u→b≠it := fun b u e z => by rw [z,hn] at e; cases e
  refine I.step (g' := s.gens) (d' := s.drawn) (ch := [it]) (fun b hb => ?_) (fun b o _ _ hc e _ => k b o (fun z => hc (by simp [z])) e) (fun b o _ _ hc e _ => ⟨o.slots,k b o (fun z => hc (by simp [z])) e⟩) (fun _ _ _ _ n => n)
    (fun b o hc e => ⟨o,k b o (fun z => hc (by simp [z])) e⟩) (fun _ _ e => e) (fun _ _ _ e => e) (fun b ps e => ⟨#[],by rw [e]; simp⟩) (fun m hm => ?_) (fun b u e => ?_) I.bare
  · have e : b = it := by simpa using hb
    subst e
    exact ⟨h1,hL,h2,h3⟩
  · obtain ⟨o,es,ep,ho,r⟩ := hm
    exact ⟨o,es,ep,k _ o (Ne.symm hL) ho,r⟩
  · refine (I.hok b u e).stay (fun c v hc q => k c v ?_ q) (fun _ q => q) fun _ _ q => q
    rcases hc with z | z
    · rw [z]; exact nit b u e
    · exact nit c _ z
theorem Inv.tok (I : Inv X pins σ H s) (t : Nat) : Inv X pins σ H { s with toks := t } := I.un (h' := s.heap) (t' := t) Un.refl I.hok
theorem Inv.kept {t' : Nat} (I : Inv X pins σ H s) (k : ∀ b u,s.heap.get? b = some u→h'.get? b = some u) : Inv X pins σ H { s with heap := h',toks := t' } := I.un (Un.kept k) (I.hok.kept k)
theorem Inv.laid {a : Addr} {o : HO} {t' : Nat} (I : Inv X pins σ H s) (k : ∀ b u,s.heap.get? b = some u→h'.get? b = some u) (hp : s.heap.objs.size≤a) (new : zaZ X.prog X.w (upd H a o) h' a o) :
    Inv X pins σ (upd H a o) { s with heap := h',toks := t' } := I.un (Un.laid k hp (I.hok.fresh hp)) (I.hok.laid k hp new)
theorem Inv.write {x e : Addr} {o : HO} {t' : Nat} (I : Inv X pins σ H s) (mu : Mut (H x)) (he : e = x∨H e = some (.own x)) (k : ∀ b u,b≠e→s.heap.get? b = some u→h'.get? b = some u) (heo : ∃ u,h'.get? e = some u)
    (new : zaZ X.prog X.w (upd H x o) h' x o) : Inv X pins σ (upd H x o) { s with heap := h',toks := t' } := I.un (Un.write mu he k heo) (I.hok.write mu he k heo new)
theorem Inv.pins_of {pins' : List (Addr × Obj)} (I : Inv X pins σ H s) (h : ∀ p∈pins',s.heap.get? p.1 = some p.2∧H p.1 = none∧p.1≠X.env.locals∧p.1∉X.fs∧∀ v,p.2.data≠.cell v) : Inv X pins' σ H s :=
  ⟨I.ok,I.os,I.bare,I.base,I.loc,I.cell,I.free,I.freeC,fun p hp => (List.mem_append.mp hp).elim (fun z => I.pin p (List.mem_append_left _ z)) (h p),I.hok,I.len⟩
theorem zit {N : List Str} (hN : N.Nodup) {i j : Nat} {x : Str} (a : N[i]? = some x) (b : N[j]? = some x) : i = j := by
  obtain ⟨h1,e1⟩ := List.getElem?_eq_some_iff.mp a
  obtain ⟨h2,e2⟩ := List.getElem?_eq_some_iff.mp b
  exact (List.getElem_inj hN).mp (e1.trans e2.symm)
theorem zgH {M : Model} {A : Around} {E : Value→Shared→Prop} {i : Nat} {x : Str} {v : V} {u : Value} {Q : Unit→Shared→Prop} (I : Inv X pins σ H s) (hN : X.N.Nodup) (hi : X.N[i]? = some x) (hx : Loc X.env.scope x) (r : RelV v u)
    (h : ∀ s',Inv X pins (σ.set i (some v)) H s'→(∃ a,Heap.SameBut a s.heap s'.heap∧(a = X.env.locals∨X.env.cells.lookup x = some a))→Q () s') (hf : X.fn x = true∨X.env.scope.names.lookup x = some .local := by first | exact .inl rfl | exact .inr rfl | assumption) : wpAny M A (storeName X.env x u) Q E s := by
  obtain ⟨m,hn,hl⟩ := id I.loc
  have hcls : (X.env.scope.kind == .class || (X.env.scope.kind == .module && X.env.locals != X.env.globals)) = false := by rw [I.ok.kind]; rfl
  have hiσ : i < σ.length := by rw [I.len]; exact (List.getElem?_eq_some_iff.mp hi).1
  have cne := I.cne
  have tracked : ∀ {a : Addr} {h' : Heap},(∃ o,s.heap.get? a = some o∧H a = none)→Heap.SameBut a s.heap h'→HOk X.prog X.w H h' := fun {a h'} ha hs b ob e => by
    obtain ⟨_,_,hfree⟩ := ha
    refine (I.hok b ob e).stay (fun c w' hc q => (hs.2 c ?_).trans q) (fun _ q => q) fun _ _ q => q
    rintro rfl
    rcases hc with rfl | hc
    · rw [hfree] at e; cases e
    · rw [hfree] at hc; cases hc
  rcases hx with hk | hk
  · refine wpAny_storeName_local hk hn (fun h' hn' hs => ?_) hcls
    obtain ⟨oL,_,_,hoL,_⟩ := id hn
    refine h _ ⟨I.ok,I.os,I.bare,⟨fun b o e n hb hx => ?_,fun b o e n hb hx => ?_,I.base.free,fun b o e hx => ?_,I.base.tups,I.base.frzs,I.base.tbls⟩,⟨_,hn',fun j y v' e1 e2 e3 => ?_⟩,fun y c e => ?_,I.free,I.freeC,fun p hp => ?_,tracked ⟨oL,hoL,I.free⟩ hs,by simpa using I.len⟩ ⟨_,hs,.inl rfl⟩
    · exact (hs.2 b (Nat.ne_of_lt (Nat.lt_of_lt_of_le (Heap.lt_size e) I.ok.above))).trans (I.base.keep b o e n hb hx)
    · obtain ⟨sl,e1⟩ := I.base.slot b o e n hb hx
      exact ⟨sl,(hs.2 b (Nat.ne_of_lt (Nat.lt_of_lt_of_le (Heap.lt_size e) I.ok.above))).trans e1⟩
    · obtain ⟨o',e1⟩ := I.base.there b o e hx
      exact ⟨o',(hs.2 b (Nat.ne_of_lt (Nat.lt_of_lt_of_le (Heap.lt_size e) I.ok.above))).trans e1⟩
    · by_cases hj : j = i
      · subst hj
        rw [hi] at e1; cases e1
        rw [List.getElem?_set_self hiσ] at e2
        cases e2
        exact ⟨u,r,.inl ⟨hk,by simp⟩⟩
      · rw [List.getElem?_set_ne (Ne.symm hj)] at e2
        obtain ⟨u',r',q⟩ := hl j y v' e1 e2 e3
        refine ⟨u',r',?_⟩
        rcases q with ⟨k,e⟩ | ⟨k,c,e,z⟩
        · refine .inl ⟨k,?_⟩
          have : y≠x := fun e => hj (zit hN e1 (e ▸ hi))
          simp [this,e]
        · exact .inr ⟨k,c,e,z.sameBut hs (cne y c e)⟩
    · obtain ⟨w',z⟩ := I.cell y c e
      exact ⟨w',z.sameBut hs (cne y c e)⟩
    · obtain ⟨e,n,ne,nf,d⟩ := I.pin p hp
      exact ⟨(hs.2 p.1 ne).trans e,n,ne,nf,d⟩
  · have hfn : X.fn x = true := by
      rcases hf with z | z
      · exact z
      · rw [z] at hk; cases hk
    obtain ⟨c,hc⟩ := I.ok.has x (.inl hk)
    obtain ⟨w',z⟩ := I.cell x c hc
    refine wpAny_storeName_cell I.ok.kind hk hc z (fun h' hc' hs => ?_)
    obtain ⟨oc,hoc,hocd⟩ := id z
    refine h { s with heap := h' } ⟨I.ok,I.os,I.bare,⟨fun b o e n hb hx => ?_,fun b o e n hb hx => ?_,I.base.free,fun b o e hx => ?_,I.base.tups,I.base.frzs,I.base.tbls⟩,⟨m,hn.sameBut hs (Ne.symm (cne x c hc)),fun j y v' e1 e2 e3 => ?_⟩,fun y c' e => ?_,I.free,I.freeC,fun p hp => ?_,tracked ⟨oc,hoc,I.freeC x c hc⟩ hs,by simpa using I.len⟩ ⟨c,hs,.inr hc⟩
    · exact (hs.2 b (Nat.ne_of_lt (Nat.lt_of_lt_of_le (Heap.lt_size e) (I.ok.cab x c hfn hc)))).trans (I.base.keep b o e n hb hx)
    · obtain ⟨sl,e1⟩ := I.base.slot b o e n hb hx
      exact ⟨sl,(hs.2 b (Nat.ne_of_lt (Nat.lt_of_lt_of_le (Heap.lt_size e) (I.ok.cab x c hfn hc)))).trans e1⟩
    · obtain ⟨o',e1⟩ := I.base.there b o e hx
      exact ⟨o',(hs.2 b (Nat.ne_of_lt (Nat.lt_of_lt_of_le (Heap.lt_size e) (I.ok.cab x c hfn hc)))).trans e1⟩
    · by_cases hj : j = i
      · subst hj
        rw [hi] at e1; cases e1
        rw [List.getElem?_set_self hiσ] at e2
        cases e2
        exact ⟨u,r,.inr ⟨.inl hk,c,hc,hc'⟩⟩
      · rw [List.getElem?_set_ne (Ne.symm hj)] at e2
        obtain ⟨u',r',q⟩ := hl j y v' e1 e2 e3
        refine ⟨u',r',?_⟩
        rcases q with q | ⟨k,c',e,z'⟩
        · exact .inl q
        · refine .inr ⟨k,c',e,z'.sameBut hs ?_⟩
          rintro rfl
          exact hj (zit hN e1 (I.ok.inj _ _ _ e hc ▸ hi))
    · by_cases hcc : c' = c
      · subst hcc; exact ⟨_,hc'⟩
      · obtain ⟨w2,z2⟩ := I.cell y c' e
        exact ⟨w2,z2.sameBut hs hcc⟩
    · obtain ⟨e,n,ne,nf,d⟩ := I.pin p hp
      refine ⟨(hs.2 p.1 ?_).trans e,n,ne,nf,d⟩
      intro q
      rw [q,hoc] at e
      have q' : oc = p.2 := Option.some.inj e
      exact d w' (by rw [← q']; exact hocd)
theorem zib {M : Model} {A : Around} {E : Value→Shared→Prop} {i : Nat} {x : Str} {v : V} {u : Value} {Q : Unit→Shared→Prop} (I : Inv X pins σ H s) (hN : X.N.Nodup) (hi : X.N[i]? = some x) (hx : Loc X.env.scope x) (r : RelV v u)
    (h : ∀ s',Inv X pins (σ.set i (some v)) H s'→Q () s') (hf : X.fn x = true∨X.env.scope.names.lookup x = some .local := by first | exact .inl rfl | exact .inr rfl | assumption) : wpAny M A (storeName X.env x u) Q E s :=
  zgH I hN hi hx r (fun s' I' _ => h s' I') hf
theorem Inv.call' {s' : Shared} {ch : List Addr} (I : Inv X pins σ H s) (ho : s'.os = s.os) (u : Un (frs X.stack) ch H H' s.heap s'.heap) (hok : HOk X.prog X.w H' s'.heap) (hg : AllBare s'.gens)
    (hch : ∀ b∈ch,(b∈X.ex∨X.s₀.heap.objs.size≤b)∧b≠X.env.locals∧(∀ x c,X.env.cells.lookup x = some c→c≠b)∧∀ p∈X.pn++pins,p.1≠b) : Inv X pins σ H' s' := by
  obtain ⟨h',g',d',t',o'⟩ := s'
  have e : o' = s.os := ho
  subst e
  exact I.call (g' := g') (t' := t') (d' := d') u hok hg hch
end
noncomputable abbrev XK := Value→Option Addr→Hp→Prop
noncomputable abbrev St := List (Option V)
noncomputable abbrev VK := V→Hp→Prop
noncomputable abbrev TE := St→Hp→VK→Prop
noncomputable abbrev TT := St→Hp→(Bool→Hp→Prop)→Prop
noncomputable abbrev TA := St→Hp→(List V→Hp→Prop)→Prop
structure Ends where
  nx : St→Hp→Prop
  rt : VK
  bk : St→Hp→Prop := fun _ _ => False
  ct : St→Hp→Prop := fun _ _ => False
noncomputable abbrev TS := Ends→St→Hp→Prop
noncomputable def EP (X : Cx) (pins : List (Addr × Obj)) (σ : St) (Q : VK) (u : Value) (s' : Shared) : Prop := ∃ v H',Inv X pins σ H' s'∧RelV v u∧Q v H'
noncomputable def TP (X : Cx) (pins : List (Addr × Obj)) (σ : St) (Q : Bool→Hp→Prop) (b : Bool) (s' : Shared) : Prop := ∃ H',Inv X pins σ H' s'∧Q b H'
noncomputable def AP (X : Cx) (pins : List (Addr × Obj)) (σ : St) (Q : List V→Hp→Prop) (us : List Value) (s' : Shared) : Prop := ∃ vs H',Inv X pins σ H' s'∧Vals vs us∧Q vs H'
noncomputable def SP (X : Cx) (pins : List (Addr × Obj)) (D : Ends) (f : Flow) (s' : Shared) : Prop :=
  match f with
  | .next => ∃ σ' H',Inv X pins σ' H' s'∧D.nx σ' H'
  | .brk => ∃ σ' H',Inv X pins σ' H' s'∧D.bk σ' H'
  | .cont => ∃ σ' H',Inv X pins σ' H' s'∧D.ct σ' H'
  | .ret u => ∃ v σ' H',Inv X pins σ' H' s'∧RelV v u∧D.rt v H'
noncomputable def PE (X : Cx) (e : Expr) (t : TE) : Prop :=
  ∀ (pins : List (Addr × Obj)) (s : Shared) (σ : St) (H : Hp) (Q : VK),Inv X pins σ H s→t σ H Q→wpAny (model X.prog X.w) X.A (eval e X.env) (EP X pins σ Q) X.xe s
noncomputable def PT (X : Cx) (e : Expr) (t : TT) : Prop :=
  ∀ (pins : List (Addr × Obj)) (s : Shared) (σ : St) (H : Hp) (Q : Bool→Hp→Prop),Inv X pins σ H s→t σ H Q→wpAny (model X.prog X.w) X.A (isTrue e X.env (eval e X.env)) (TP X pins σ Q) X.xe s
noncomputable def PW (X : Cx) (e : Expr) (t : TT) : Prop :=
  ∀ (whole : Sem Value) (pins : List (Addr × Obj)) (s : Shared) (σ : St) (H : Hp) (Q : Bool→Hp→Prop),Inv X pins σ H s→t σ H Q→wpAny (model X.prog X.w) X.A (isTrue e X.env whole) (TP X pins σ Q) X.xe s
theorem PW.pt {X : Cx} {e : Expr} {t : TT} (h : PW X e t) : PT X e t := h _
noncomputable def PA (X : Cx) (es : List Expr) (t : TA) : Prop :=
  ∀ (pos : Pos) (pins : List (Addr × Obj)) (s : Shared) (σ : St) (H : Hp) (Q : List V→Hp→Prop),Inv X pins σ H s→t σ H Q→wpAny (model X.prog X.w) X.A (spliced (backTo pos (starEach es X.env))) (AP X pins σ Q) X.xe s
noncomputable def PS (X : Cx) (st : Stmt) (t : TS) : Prop :=
  ∀ (pins : List (Addr × Obj)) (s : Shared) (σ : St) (H : Hp) (D : Ends),Inv X pins σ H s→t D σ H→wpAny (model X.prog X.w) X.A (exec st X.env) (SP X pins D) X.xe s
noncomputable def PSs (X : Cx) (st : List Stmt) (t : TS) : Prop :=
  ∀ (pins : List (Addr × Obj)) (s : Shared) (σ : St) (H : Hp) (D : Ends),Inv X pins σ H s→t D σ H→wpAny (model X.prog X.w) X.A (execs st X.env) (SP X pins D) X.xe s
theorem thn {α : Type} {t : Sem α} {Q Q' : α→Shared→Prop} {M : Model} {A : Around} {E : Value→Shared→Prop} {s : Shared} (h : wpAny M A t Q E s) (hQ : ∀ a s,Q a s→Q' a s) : wpAny M A t Q' E s := wpAny_mono h hQ fun _ _ x => x
end L2
namespace L2
open PySem PySem.Spec PyProof.Rows
section
variable {X : Cx}
noncomputable def tVar (i : Nat) : TE := fun σ H Q => ∃ v,σ[i]? = some (some v)∧Q v H
noncomputable def tC (v : V) : TE := fun _ H Q => Q v H
theorem zgY {i : Nat} {x : Str} {pos : Pos} (hN : X.N[i]? = some x) (hv : Vis X.env.scope x) (hd : (x == ("__debug__" : Str)) = false := by decide) (hcd : (x == ("__classdict__" : Str)) = false := by decide) : PE X (.Name x pos) (tVar i) := by
  intro pins s σ H Q I h
  obtain ⟨v,e,h⟩ := h
  obtain ⟨m,hn,hl⟩ := I.loc
  obtain ⟨u,r,l⟩ := hl i x v hN e hv
  have fin : EP X pins σ Q u s := ⟨v,H,I,r,h⟩
  rcases l with ⟨hk,hm⟩ | ⟨hk,c,hc,hcell⟩
  · exact wpAny_Name (wpAny_loadName_local I.ok.kind hk hn hm fin) hd
  · rcases hk with hk | hk
    · exact wpAny_Name (wpAny_loadName_cell I.ok.kind hk hc hcell fin) hd
    · exact wpAny_Name (wpAny_loadName_free I.ok.kind hk hc hcell fin hcd) hd
theorem zo4 {i j pos} : PE X (.Constant (.int i) j pos) (tC (.int i)) := fun _ _ _ H _ I h => wpAny_Constant_int ⟨.int i,H,I.tok _,⟨_,rfl⟩,h⟩
theorem zqH {b j pos} : PE X (.Constant (.bool b) j pos) (tC (.bl b)) := fun _ _ _ H _ I h => Constant_bool ⟨.bl b,H,I,rfl,h⟩
theorem zo2 {j pos} : PE X (.Constant .none j pos) (tC .non) := fun _ _ _ H _ I h => Constant_none ⟨.non,H,I,rfl,h⟩
theorem zoZ {x j pos} : PE X (.Constant (.str x) j pos) (tC (.str x)) := fun _ _ _ H _ I h => Calls.Constant_str ⟨.str x,H,I.tok _,⟨_,rfl⟩,h⟩
noncomputable def Gl (X : Cx) (x : Str) : Prop := X.env.kindOf x = some .globalImplicit
theorem znQ {E : Value→Shared→Prop} {pins : List (Addr × Obj)} {s : Shared} {σ : St} {H : Hp} {x : Str} {u : Value} {pos : Pos} {Q : Value→Shared→Prop} (I : Inv X pins σ H s) (hg : Gl X x) (hm : X.mg x = some u) (h : Q u s)
    (hd : (x == ("__debug__" : Str)) = false := by decide) : wpAny (model X.prog X.w) X.A (eval (.Name x pos) X.env) Q E s :=
  Calls.Name_function_global I.ok.kind hg (Calls.loadGlobal_global (by rw [I.ok.glob]; exact I.mod.glob.keeps I.bk) hm h) hd
theorem zfU {E : Value→Shared→Prop} {pins : List (Addr × Obj)} {s : Shared} {σ : St} {H : Hp} {x : Str} {u : Value} {pos : Pos} {Q : Value→Shared→Prop} (I : Inv X pins σ H s) (hg : Gl X x) (hm : X.mg x = none) (hv : bootBuiltins x = some u) (h : Q u s)
    (hn : x≠"__name__" := by decide) (hd : (x == ("__debug__" : Str)) = false := by decide) : wpAny (model X.prog X.w) X.A (eval (.Name x pos) X.env) Q E s := by
  obtain ⟨mb,h1,h2⟩ := I.mod.blt
  exact Calls.Name_function_global I.ok.kind hg (Calls.loadGlobal_builtin (by rw [I.ok.glob]; exact I.mod.glob.keeps I.bk) hm (by rw [I.ok.blt]; exact h1.keeps I.bk) ((h2 x hn).trans hv) h) hd
theorem znu {x : Str} {v : V} {u : Value} {pos : Pos} (hg : Gl X x) (hm : X.mg x = none) (hv : bootBuiltins x = some u) (r : RelV v u) (hn : x≠"__name__" := by decide) (hd : (x == ("__debug__" : Str)) = false := by decide) : PE X (.Name x pos) (tC v) :=
  fun _ _ _ H _ I h => zfU I hg hm hv ⟨v,H,I,r,h⟩ hn hd
variable {a b : Expr} {ta tb : TE} {pos : Pos}
variable {tA tB' : TT} {rest : List Expr}
noncomputable def tAnd (t u : TT) : TT := fun σ H Q => t σ H fun c H1 => if c = true then u σ H1 Q else Q false H1
noncomputable def tOr (t u : TT) : TT := fun σ H Q => t σ H fun c H1 => if c = true then Q true H1 else u σ H1 Q
noncomputable def tNot (t : TT) : TT := fun σ H Q => t σ H fun c H1 => Q (!c) H1
theorem znj (ha : PT X a tA) : PW X (.BoolOp .And [a] pos) tA := by
  intro wh pins s σ H Q I h
  refine isTrue_and (thn (ha pins s σ H Q I h) fun c s1 e => ?_)
  cases c with
  | true => exact isTrue_and_nil e
  | false => exact e
theorem zoP (ha : PT X a tA) : PW X (.BoolOp .Or [a] pos) tA := by
  intro wh pins s σ H Q I h
  refine isTrue_or (thn (ha pins s σ H Q I h) fun c s1 e => ?_)
  cases c with
  | false => exact isTrue_or_nil e
  | true => exact e
theorem zoQ (ha : PT X a tA) (hb : PW X (.BoolOp .And (b::rest) pos) tB') : PW X (.BoolOp .And (a::b::rest) pos) (tAnd tA tB') := by
  intro wh pins s σ H Q I h
  refine isTrue_and (thn (ha pins s σ H _ I h) fun c s1 ⟨H1,I1,q1⟩ => ?_)
  cases c with
  | true => exact hb wh pins s1 σ H1 Q I1 q1
  | false => exact ⟨H1,I1,q1⟩
theorem zqB (ha : PT X a tA) (hb : PW X (.BoolOp .Or (b::rest) pos) tB') : PW X (.BoolOp .Or (a::b::rest) pos) (tOr tA tB') := by
  intro wh pins s σ H Q I h
  refine isTrue_or (thn (ha pins s σ H _ I h) fun c s1 ⟨H1,I1,q1⟩ => ?_)
  cases c with
  | true => exact ⟨H1,I1,q1⟩
  | false => exact hb wh pins s1 σ H1 Q I1 q1
theorem zoS (ha : PT X a tA) : PT X (.UnaryOp .Not a pos) (tNot tA) := by
  intro pins s σ H Q I h
  exact isTrue_not (ha pins s σ H (fun c H1 => Q (!c) H1) I h)
noncomputable def zqq (ta tb : TE) : TE := fun σ H Q => ta σ H fun x H1 => ∃ c,x = .bl c∧if c = true then tb σ H1 Q else Q (.bl false) H1
noncomputable def zql (ta : TE) : TE := fun σ H Q => ta σ H fun x H1 => ∃ c,x = .bl c∧Q (.bl (!c)) H1
theorem zo0 {op} {t : TE} (h : PE X a t) : PE X (.BoolOp op [a] pos) t := fun pins s σ H Q I hw => BoolOp_one (h pins s σ H Q I hw)
theorem zo6 (ha : PE X a ta) (hb : PE X (.BoolOp .And (b::rest) pos) tb) : PE X (.BoolOp .And (a::b::rest) pos) (zqq ta tb) := by
  intro pins s σ H Q I h
  refine BoolOp_and (thn (ha pins s σ H _ I h) fun v s1 ⟨x,H1,I1,r1,q1⟩ => ?_)
  obtain ⟨c,rfl,q1⟩ := q1
  cases r1
  refine wpAny_truthy_bool ?_
  cases c with
  | true => exact hb pins s1 σ H1 Q I1 q1
  | false => exact ⟨.bl false,H1,I1,rfl,q1⟩
theorem zo1 (ha : PE X a ta) : PE X (.UnaryOp .Not a pos) (zql ta) := by
  intro pins s σ H Q I h
  refine UnaryOp_ (thn (ha pins s σ H _ I h) fun v s1 ⟨x,H1,I1,r1,q1⟩ => ?_)
  obtain ⟨c,rfl,q1⟩ := q1
  cases r1
  exact not_of (wpAny_truthy_bool ⟨.bl (!c),H1,I1,rfl,q1⟩)
noncomputable def tIf (t : TT) (ta tb : TE) : TE := fun σ H Q => t σ H fun c H1 => if c = true then ta σ H1 Q else tb σ H1 Q
theorem zlO {c : Expr} (hc : PT X c tA) (ha : PE X a ta) (hb : PE X b tb) : PE X (.IfExp c a b pos) (tIf tA ta tb) := by
  intro pins s σ H Q I h
  refine wpAny_IfExp (thn (hc pins s σ H _ I h) fun d s1 ⟨H1,I1,q1⟩ => ?_)
  cases d with
  | true => exact ha pins s1 σ H1 Q I1 q1
  | false => exact hb pins s1 σ H1 Q I1 q1
end
end L2
namespace L2
open PySem PySem.Spec PyProof.Rows
noncomputable def SqL (K : PySem.W.Frag) (H : Hp) (a : Addr) (xs : List V) : Prop :=
  Rd H a (.lst xs) ∨
    ∃ (o : Obj) (its : Array Value) (n : Nat),K.lookup a = some o∧o.cls = .type "list"∧o.dict = none∧o.data = .seq its n∧its.size≤sizeLine∧Vals xs its.toList
noncomputable def SqT (K : PySem.W.Frag) (H : Hp) (a : Addr) (xs : List V) : Prop :=
  Rd H a (.tup xs) ∨
    ∃ (o : Obj) (its : Array Value) (n : Nat),K.lookup a = some o∧o.cls = .type "tuple"∧o.data = .seq its n∧its.size≤sizeLine∧Vals xs its.toList
noncomputable def absV : Value→Option V
  | .none => some .non
  | .bool b => some (.bl b)
  | .int i _ => some (.int i)
  | .str x _ => some (.str x)
  | .bytes b _ => some (.byt b)
  | .float b _ => some (.flt b)
  | .ref a => some (.ref a)
  | .type n => some (.ty n)
  | _ => none
theorem RelV.abs {x : V} {u : Value} (r : RelV x u) : absV u = some x := by
  cases x with
  | non => cases r; rfl
  | bl _ => cases r; rfl
  | int _ => obtain ⟨t,rfl⟩ := r; rfl
  | str _ => obtain ⟨t,rfl⟩ := r; rfl
  | byt _ => obtain ⟨t,rfl⟩ := r; rfl
  | flt _ => obtain ⟨t,rfl⟩ := r; rfl
  | ref _ => cases r; rfl
  | ty _ => cases r; rfl
theorem RelV.inj {x y : V} {u : Value} (r : RelV x u) (q : RelV y u) : x = y := Option.some.inj (r.abs.symm.trans q.abs)
theorem Vals.inj : ∀ {xs ys : List V} {us : List Value},Vals xs us→Vals ys us→xs = ys
  | _,_,_,.nil,.nil => rfl
  | _,_,_,.cons r t,.cons r' t' => by rw [r.inj r',Vals.inj t t']
section
variable {X : Cx} {pins : List (Addr × Obj)} {σ : St} {H : Hp} {s : Shared} {a : Addr} {xs ys : List V}
theorem SqL.of {K : PySem.W.Frag} (h : H a = some (.lst xs)) : SqL K H a xs := .inl (.inl h)
theorem Inv.list (I : Inv X pins σ H s) (h : SqL X.K H a xs) : ∃ its : List Value,Vals xs its∧PlainL s.heap a its.toArray∧xs.length≤sizeLine := by
  rcases h with h | ⟨o,its,n,hk,hc,hd,hs,hz,r⟩
  · obtain ⟨z,its,n,r,e⟩ := h.ok I.hok
    exact ⟨its,r,⟨_,n,e,rfl,rfl,rfl⟩,z⟩
  · refine ⟨its.toList,r,⟨o,n,I.kIn a o hk,hc,hd,by simpa using hs⟩,?_⟩
    have e := r.length
    simp only [Array.length_toList] at e
    omega
theorem Inv.tuple (I : Inv X pins σ H s) (h : SqT X.K H a xs) : ∃ its : List Value,Vals xs its∧IsTup s.heap a its.toArray∧xs.length≤sizeLine := by
  rcases h with h | ⟨o,its,n,hk,hc,hs,hz,r⟩
  · obtain ⟨z,its,r,p,_⟩ := h.ok I.hok
    exact ⟨its,r,p,z⟩
  · refine ⟨its.toList,r,⟨o,I.kIn a o hk,hc,n,by simpa using hs⟩,?_⟩
    have e := r.length
    simp only [Array.length_toList] at e
    omega
theorem Inv.list_inj (I : Inv X pins σ H s) (h : SqL X.K H a xs) (h' : SqL X.K H a ys) : xs = ys := by
  obtain ⟨its,r,⟨o,n,e,_,_,d⟩,_⟩ := I.list h
  obtain ⟨its',r',⟨o',n',e',_,_,d'⟩,_⟩ := I.list h'
  rw [e] at e'; cases e'
  rw [d] at d'
  injection d' with d1 _
  have : its = its' := by simpa using congrArg Array.toList d1
  subst this
  exact r.inj r'
theorem Inv.tuple_inj (I : Inv X pins σ H s) (h : SqT X.K H a xs) (h' : SqT X.K H a ys) : xs = ys := by
  obtain ⟨its,r,⟨o,e,_,n,d⟩,_⟩ := I.tuple h
  obtain ⟨its',r',⟨o',e',_,n',d'⟩,_⟩ := I.tuple h'
  rw [e] at e'; cases e'
  rw [d] at d'
  injection d' with d1 _
  have : its = its' := by simpa using congrArg Array.toList d1
  subst this
  exact r.inj r'
end
noncomputable abbrev Cx.wish (X : Cx) (E : Value→Shared→Prop) : Cx := { X with xe := E }
noncomputable abbrev Cx.nox (X : Cx) : Cx := X.wish fun _ _ => False
theorem Cx.Ok.wish {X : Cx} (ok : X.Ok) (E : Value→Shared→Prop) : (X.wish E).Ok :=
  ⟨ok.mod,ok.kind,ok.glob,ok.blt,ok.above,ok.inj,ok.has,ok.cab,ok.hd,ok.frames,ok.stk,ok.exf,ok.bs,ok.bsz,ok.noex,ok.exfs,ok.funs,ok.frf⟩
theorem Cx.Ok.unwish {X : Cx} {E : Value→Shared→Prop} (ok : (X.wish E).Ok) : X.Ok :=
  ⟨ok.mod,ok.kind,ok.glob,ok.blt,ok.above,ok.inj,ok.has,ok.cab,ok.hd,ok.frames,ok.stk,ok.exf,ok.bs,ok.bsz,ok.noex,ok.exfs,ok.funs,ok.frf⟩
section
variable {X : Cx} {pins : List (Addr × Obj)} {σ : St} {H : Hp} {s : Shared} {E : Value → Shared → Prop}
theorem Inv.wish (I : Inv X pins σ H s) (E : Value→Shared→Prop) : Inv (X.wish E) pins σ H s := ⟨I.ok.wish E,I.os,I.bare,I.base,I.loc,I.cell,I.free,I.freeC,I.pin,I.hok,I.len⟩
theorem Inv.unwish (I : Inv (X.wish E) pins σ H s) : Inv X pins σ H s := ⟨I.ok.unwish,I.os,I.bare,I.base,I.loc,I.cell,I.free,I.freeC,I.pin,I.hok,I.len⟩
theorem SP.unwish {D : Ends} {f : Flow} {s' : Shared} (h : SP (X.wish E) pins D f s') : SP X pins D f s' := by
  cases f with
  | next => obtain ⟨σ',H',I,q⟩ := h; exact ⟨σ',H',I.unwish,q⟩
  | brk => obtain ⟨σ',H',I,q⟩ := h; exact ⟨σ',H',I.unwish,q⟩
  | cont => obtain ⟨σ',H',I,q⟩ := h; exact ⟨σ',H',I.unwish,q⟩
  | ret u => obtain ⟨v,σ',H',I,r,q⟩ := h; exact ⟨v,σ',H',I.unwish,r,q⟩
theorem PSs.nox {st : List Stmt} {t : TS} (h : PSs X.nox st t) : PSs X st t := fun pins s σ H D I hw =>
  wpAny_mono (h pins s σ H D (I.wish _) hw) (fun _ _ q => q.unwish) fun _ _ z => False.elim z
end
section
variable {X : Cx} {st : Stmt} {rest : List Stmt} {t u : TS} {e : Expr} {te : TE} {pos : Pos}
noncomputable def zqm : TS := fun D σ H => D.nx σ H
noncomputable def tSeq (t u : TS) : TS := fun D σ H => t { D with nx := u D } σ H
theorem znl : PSs X [] zqm := fun _ _ σ H _ I h => wpAny_execs_nil ⟨σ,H,I,h⟩
theorem zlJ (h1 : PS X st t) (h2 : PSs X rest u) : PSs X (st::rest) (tSeq t u) := by
  intro pins s σ H D I h
  refine wpAny_execs_cons (thn (h1 pins s σ H { D with nx := u D } I h) fun f s1 q => ?_)
  cases f with
  | next =>
    obtain ⟨σ',H',I',q⟩ := q
    exact h2 pins s1 σ' H' D I' q
  | ret v => exact q
  | brk => exact q
  | cont => exact q
theorem Inv.quiet {pins : List (Addr × Obj)} {σ : St} {H : Hp} {s : Shared} (I : Inv X pins σ H s) : interactive X.env = false := by simp [interactive,I.ok.kind]
noncomputable def zqn (te : TE) : TS := fun D σ H => te σ H fun _ H1 => D.nx σ H1
theorem znm (he : PE X e te) (hs : swapsWith e none pos.line X.env = pure false := by rfl) : PS X (.Expr e pos) (zqn te) := by
  intro pins s σ H D I h
  exact wpAny_Expr_any (thn (he pins s σ H _ I h) fun v s1 ⟨x,H1,I1,r1,q1⟩ => ⟨σ,H1,I1,q1⟩) I.quiet hs
noncomputable def tRet (te : TE) : TS := fun D σ H => te σ H D.rt
theorem zoT (he : PE X e te) : PS X (.Return (some e) pos) (tRet te) := by
  intro pins s σ H D I h
  exact wpAny_Return_some (thn (he pins s σ H _ I h) fun v s1 ⟨x,H1,I1,r1,q1⟩ => ⟨x,σ,H1,I1,r1,q1⟩)
noncomputable def tIfS (c : TT) (t u : TS) : TS := fun D σ H => c σ H fun b H1 => if b = true then t D σ H1 else u D σ H1
theorem zqD {c : Expr} {a b : List Stmt} {tc : TT} (hc : PT X c tc) (ha : PSs X a t) (hb : PSs X b u) : PS X (.If c a b pos) (tIfS tc t u) := by
  intro pins s σ H D I h
  refine wpAny_If (thn (hc pins s σ H _ I h) fun d s1 ⟨H1,I1,q1⟩ => ?_)
  cases d with
  | true => exact ha pins s1 σ H1 D I1 q1
  | false => exact hb pins s1 σ H1 D I1 q1
end
noncomputable abbrev TG := V→St→Hp→(St→Hp→Prop)→Prop
noncomputable abbrev TGs := List V→St→Hp→(St→Hp→Prop)→Prop
noncomputable def PG (X : Cx) (target : Expr) (t : TG) : Prop :=
  ∀ (pins : List (Addr × Obj)) (s : Shared) (σ : St) (H : Hp) (v : V) (u : Value) (Q : St→Hp→Prop),Inv X pins σ H s→RelV v u→t v σ H Q →
    wpAny (model X.prog X.w) X.A (assign target X.env u) (fun _ s' => ∃ σ' H',Inv X pins σ' H' s'∧Q σ' H') X.xe s
noncomputable def PGs (X : Cx) (ts : List Expr) (t : TGs) : Prop :=
  ∀ (pins : List (Addr × Obj)) (s : Shared) (σ : St) (H : Hp) (vs : List V) (us : List Value) (Q : St→Hp→Prop),Inv X pins σ H s→Vals vs us→t vs σ H Q →
    wpAny (model X.prog X.w) X.A (assignInOrder ((assignEach ts X.env).map (·.2)) us) (fun _ s' => ∃ σ' H',Inv X pins σ' H' s'∧Q σ' H') X.xe s
noncomputable abbrev TSet := V→V→V→Hp→(Hp→Prop)→Prop
noncomputable def PSet (X : Cx) (t : TSet) : Prop :=
  ∀ (pins : List (Addr × Obj)) (s : Shared) (σ : St) (H : Hp) (o i v : V) (ov iv u : Value) (Q : Hp→Prop),Inv X pins σ H s→RelV o ov→RelV i iv→RelV v u→t o i v H Q →
    wpAny (model X.prog X.w) X.A (setItem ov iv u) (fun _ s' => ∃ H',Inv X pins σ H' s'∧Q H') X.xe s
section
variable {X : Cx} {pos : Pos}
noncomputable def zpR (i : Nat) : TG := fun v σ H Q => Q (σ.set i (some v)) H
theorem znr {i : Nat} {x : Str} (hN : X.N.Nodup) (hi : X.N[i]? = some x) (hx : Loc X.env.scope x) (hf : X.fn x = true∨X.env.scope.names.lookup x = some .local := by first | exact .inl rfl | exact .inr rfl | assumption) : PG X (.Name x pos) (zpR i) := by
  intro pins s σ H v u Q I r h
  exact wpAny_assign_Name (zib I hN hi hx r (fun s' I' => ⟨_,H,I',h⟩) hf)
noncomputable def gNil : TGs := fun vs σ H Q => vs = []∧Q σ H
noncomputable def zq0 (t : TG) (u : TGs) : TGs := fun vs σ H Q => ∃ v r,vs = v::r∧t v σ H fun σ' H' => u r σ' H' Q
theorem znq : PGs X [] gNil := by
  intro pins s σ H vs us Q I r h
  obtain ⟨e,h⟩ := h
  subst e
  cases r
  exact assignInOrder_nil ⟨σ,H,I,h⟩
theorem zlM {e : Expr} {es : List Expr} {t : TG} {u : TGs} (h1 : PG X e t) (h2 : PGs X es u)
    (hs : (assignEach (e::es) X.env).map (·.2) = assign e X.env::(assignEach es X.env).map (·.2) := by rfl) : PGs X (e::es) (zq0 t u) := by
  intro pins s σ H vs us Q I r h
  obtain ⟨v,vr,e1,h⟩ := h
  subst e1
  cases r with
  | cons r rr =>
    rw [hs]
    refine assignInOrder_cons (thn (h1 pins s σ H _ _ _ I r h) fun _ s1 ⟨σ1,H1,I1,q1⟩ => ?_)
    exact h2 pins s1 σ1 H1 _ _ Q I1 rr q1
noncomputable def gTup (K : PySem.W.Frag) (n : Nat) (t : TGs) : TG := fun v σ H Q => ∃ a xs,v = .ref a∧SqT K H a xs∧xs.length = n∧t xs σ H Q
theorem zoW {es : List Expr} {k : Nat} {t : TGs} {n : Nat} (hc : X.calm = true) (h : PGs X es t)
    (hn : (assignEach es X.env).length = n := by rfl) (hst : (assignEach es X.env).findIdx? (·.1) = none := by rfl) : PG X (.Tuple es k pos) (gTup X.K n t) := by
  intro pins s σ H v u Q I r hw
  obtain ⟨a,xs,e1,hq,hl,hw⟩ := hw
  subst e1
  cases r
  obtain ⟨its,rv,ht,hz⟩ := I.tuple hq
  refine assign_Tuple_tuple (I.ok.hd hc) ht (by simp [hn,← hl,rv.length]) hst fun h' hx => ?_
  have I1 : Inv X pins σ H { s with heap := h' } := I.kept (t' := s.toks) fun b o e => hx b o (Nat.ne_of_lt (Heap.lt_size e)) e
  exact h pins _ σ H xs _ Q I1 (by simpa using rv) hw
noncomputable def gSub (to ti : TE) (t : TSet) : TG := fun v σ H Q => to σ H fun o H1 => ti σ H1 fun i H2 => t o i v H2 fun H3 => Q σ H3
theorem zoX {o i : Expr} {to ti : TE} {t : TSet} (ho : PE X o to) (hi : PE X i ti) (hs : PSet X t)
    (ha : ∀ v,assign (.Subscript o i pos) X.env v = (do
      let ov ← holding [v] (eval o X.env)
      let iv ← holding [v,ov] (eval i X.env)
      standAt pos
      holding [v,ov,iv] (setItem ov iv v)
      release [v,ov,iv] []) := by intro _; rfl) : PG X (.Subscript o i pos) (gSub to ti t) := by
  intro pins s σ H v u Q I r h
  rw [ha]
  refine wpAny_bind (wpAny_holding (thn (ho pins s σ H _ I h) fun ov s1 ⟨x,H1,I1,r1,q1⟩ => ?_))
  refine wpAny_bind (wpAny_holding (thn (hi pins s1 σ H1 _ I1 q1) fun iv s2 ⟨y,H2,I2,r2,q2⟩ => ?_))
  refine wpAny_bind (wpAny_standAt (wpAny_bind (wpAny_holding (thn (hs pins s2 σ H2 x y v ov iv u _ I2 r1 r2 r q2) fun _ s3 ⟨H3,I3,q3⟩ => ?_))))
  exact wpAny_release ⟨σ,H3,I3,q3⟩
noncomputable def tAsg (te : TE) (g : TG) : TS := fun D σ H => te σ H fun x H1 => g x σ H1 D.nx
theorem zoU {tg e : Expr} {te : TE} {g : TG} (he : PE X e te) (hg : PG X tg g) (hs : swapsWithSole [tg] e pos.line X.env = pure false := by rfl) (hw : swappedStores [tg] e X.env = pure none := by rfl)
    (h1 : (assignEach [tg] X.env).map (·.2) = [assign tg X.env] := by rfl) : PS X (.Assign [tg] e pos) (tAsg te g) := by
  intro pins s σ H D I h
  refine wpAny_Assign_stores (thn (he pins s σ H _ I h) fun v s1 ⟨x,H1,I1,r1,q1⟩ => ?_) hs hw
  rw [h1]
  exact thn (hg pins s1 σ H1 x v _ I1 r1 q1) fun _ s2 q => q
theorem zmE {i : Nat} {x : Str} {e : Expr} {te : TE} {pos' : Pos} (hN : X.N.Nodup) (hi : X.N[i]? = some x) (hx : Loc X.env.scope x) (he : PE X e te) (hs : swapsWith e (some (.Name x pos')) pos.line X.env = pure false := by rfl) (hf : X.fn x = true∨X.env.scope.names.lookup x = some .local := by first | exact .inl rfl | exact .inr rfl | assumption) :
    PS X (.Assign [.Name x pos'] e pos) (tAsg te (zpR i)) := by
  intro pins s σ H D I h
  refine wpAny_Assign_Name (thn (he pins s σ H _ I h) fun v s1 ⟨y,H1,I1,r1,q1⟩ => ?_) hs
  exact zib I1 hN hi hx r1 (fun s2 I2 => ⟨_,H1,I2,q1⟩) hf
end
section
variable {X : Cx} {pos : Pos}
noncomputable def zou (c : TT) (tb : TS) : TS := fun D σ H => ∃ W : Nat→St→Hp→Prop,(∃ m,W m σ H)∧∀ m σ H,W m σ H →
  c σ H fun b H1 => if b = true then ∃ N : St→Hp→Prop,(∀ σ' H',N σ' H'→∃ m',m' < m∧W m' σ' H')∧tb { D with nx := N,ct := N,bk := D.nx } σ H1 else D.nx σ H1
theorem zlK {c : Expr} {body : List Stmt} {tc : TT} {tb : TS} (hp : PassesOwn (model X.prog X.w) X.A X.env X.xe) (hc : PT X c tc) (hb : PSs X body tb) : PS X (.While c body [] pos) (zou tc tb) := by
  intro pins s σ H D I h
  obtain ⟨W,⟨m0,w0⟩,turn⟩ := h
  refine wpAny_While (codeAny_whileLoop (fun n s' => ∃ σ' H',Inv X pins σ' H' s'∧W n σ' H') ?_ m0 ⟨σ,H,I,w0⟩)
  rintro n s1 ⟨σ1,H1,I1,w1⟩
  refine wpAny_passesOwn hp (thn (hc pins s1 σ1 H1 _ I1 (turn n σ1 H1 w1)) fun b s2 ⟨H2,I2,q2⟩ => ?_)
  cases b with
  | true =>
    obtain ⟨N,hN,q2⟩ := q2
    rw [if_pos rfl]
    refine wpAny_passesOwn hp (thn (hb pins s2 σ1 H2 _ I2 q2) fun f s3 q3 => ?_)
    cases f with
    | next =>
      obtain ⟨σ3,H3,I3,n3⟩ := q3
      obtain ⟨m',hm,w3⟩ := hN σ3 H3 n3
      exact ⟨m',hm,σ3,H3,I3,w3⟩
    | cont =>
      obtain ⟨σ3,H3,I3,n3⟩ := q3
      obtain ⟨m',hm,w3⟩ := hN σ3 H3 n3
      exact ⟨m',hm,σ3,H3,I3,w3⟩
    | brk => exact q3
    | ret v => exact q3
  | false =>
    rw [if_neg Bool.false_ne_true]
    exact wpAny_execs_nil ⟨σ1,H2,I2,q2⟩
end
structure It where
  go : Nat→Hp→Prop
  yld : Nat→Hp→V→Hp→Prop
  stop : Nat→Hp→Prop
noncomputable def FpOk (X : Cx) (pins : List (Addr × Obj)) (H : Hp) (b : Addr) : Prop :=
  H b = none∧b≠X.env.locals∧b∉X.fs∧(b∈X.ex∨X.s₀.heap.objs.size≤b)∧(∀ x c,X.env.cells.lookup x = some c→c≠b)∧∀ p∈X.pn++pins,p.1≠b
theorem Inv.fpOk {X : Cx} {pins : List (Addr × Obj)} {σ : St} {H H' : Hp} {s : Shared} {b : Addr} (I : Inv X pins σ H s) (hb : s.heap.objs.size≤b) (hn : H' b = none) : FpOk X pins H' b := by
  refine ⟨hn,Nat.ne_of_gt (Nat.lt_of_lt_of_le I.lt hb),I.nofs hb,.inr (Nat.le_trans I.sz hb),fun x c e z => ?_,fun p hp z => ?_⟩
  · obtain ⟨v,q⟩ := I.cell x c e
    exact absurd (Nat.lt_of_lt_of_le q.lt (by rw [z]; exact hb)) (Nat.lt_irrefl _)
  · exact absurd (Nat.lt_of_lt_of_le (Heap.lt_size (I.pin p hp).1) (by rw [z]; exact hb)) (Nat.lt_irrefl _)
structure Turn (P : Program) (w : World) (K : PySem.W.Frag) (tg : Expr) (J : It) (fp : List Addr) (it : Addr) (tn : Nat→Heap→Prop) : Prop where
  mem : it∈fp
  obj : ∀ i h,tn i h→∀ b∈fp,∃ o,h.get? b = some o∧∀ v,o.data≠.cell v
  keep : ∀ i h h',tn i h→(∀ b∈fp,∀ o,h.get? b = some o→h'.get? b = some o)→tn i h'
  item : ∀ (X : Cx),X.prog = P→X.w = w→X.K = K→X.calm = true→∀ (i : Nat) (pins : List (Addr × Obj)) (s : Shared) (σ : St) (H : Hp) (E : Value→Shared→Prop),Inv X pins σ H s→(∀ b∈fp,FpOk X pins H b)→tn i s.heap→J.go i H →
    wpAny (model P w) X.A (pyNext (.ref it)) (fun r s1 => ∃ u,r = some u ∧
      wpAny (model P w) X.A (letOwnedTupleGo tg (.ref it) u) (fun _ s2 => ∃ x H',Inv X pins σ H' s2∧RelV x u∧J.yld i H x H'∧tn (i + 1) s2.heap∧∀ b∈fp,H' b = none) E s1) E s
  done : ∀ (X : Cx),X.prog = P→X.w = w→X.K = K→X.calm = true→∀ (i : Nat) (pins : List (Addr × Obj)) (s : Shared) (σ : St) (H : Hp) (E : Value→Shared→Prop),Inv X pins σ H s→(∀ b∈fp,FpOk X pins H b)→tn i s.heap→J.stop i H →
    wpAny (model P w) X.A (pyNext (.ref it)) (fun r s1 => r = none∧Inv X pins σ H s1) E s
  self : ∀ (A : Around) (i : Nat) (s : Shared) (Q : Value→Shared→Prop) (E : Value→Shared→Prop),tn i s.heap→Q (.ref it) s→wpAny (model P w) A (pyIter (.ref it)) Q E s
noncomputable abbrev TI := St→Hp→(It→Hp→Prop)→Prop
noncomputable def PIE (X : Cx) (pins : List (Addr × Obj)) (σ : St) (tg : Expr) (R : It→Hp→Prop) (itv : Value) (s2 : Shared) : Prop :=
  ∃ (it : Addr) (fp : List Addr) (tn : Nat→Heap→Prop) (J : It) (H' : Hp),itv = .ref it∧Inv X pins σ H' s2∧Turn X.prog X.w X.K tg J fp it tn∧tn 0 s2.heap∧(∀ b∈fp,FpOk X pins H' b)∧R J H'
noncomputable def PI (X : Cx) (tg iter : Expr) (wi : TI) : Prop :=
  ∀ (pins : List (Addr × Obj)) (s : Shared) (σ : St) (H : Hp) (R : It→Hp→Prop),Inv X pins σ H s→wi σ H R →
    wpAny (model X.prog X.w) X.A (eval iter X.env) (fun v s1 => wpAny (model X.prog X.w) X.A (pyIter v) (PIE X pins σ tg R) X.xe s1) X.xe s
theorem znZ {M : Model} {A : Around} {E : Value→Shared→Prop} {s : Shared} {tg : Expr} {it : Addr} {u : Value} {o : Obj} {n : String} {vs : Array Value} {Q : Unit→Shared→Prop} (ho : s.heap.get? it = some o) (hc : o.cls = .type n) (hd : o.data = .fields vs)
    (hn : ["enumerate","zip","dict_itemiterator","dict_reverseitemiterator","odict_iterator","itertools.zip_longest","itertools.pairwise"].contains n = false) (hQ : Q () s) : wpAny M A (letOwnedTupleGo tg (.ref it) u) Q E s := by
  unfold letOwnedTupleGo
  cases tg <;> first
    | exact wpAny_pure hQ
    | (cases u <;> first
        | exact wpAny_pure hQ
        | (refine wpAny_bind (wpAny_load ho ?_)
           rw [hc,hd]
           show wpAny M A (if (["enumerate","zip","dict_itemiterator","dict_reverseitemiterator","odict_iterator","itertools.zip_longest","itertools.pairwise"].contains n && vs[0]? == some (rawInt _)) = true then _ else _) Q E s
           rw [if_neg (by intro h; rw [hn,Bool.false_and] at h; cases h)]
           exact wpAny_pure hQ))
noncomputable def Itl (K : PySem.W.Frag) (a : Addr) : It :=
  ⟨fun i H => ∃ xs x,SqL K H a xs∧xs[i]? = some x,fun i H x H' => H' = H∧∀ xs,SqL K H a xs→xs[i]? = some x,fun i H => ∃ xs,SqL K H a xs∧xs.length≤i⟩
noncomputable def Itt (K : PySem.W.Frag) (a : Addr) : It :=
  ⟨fun i H => ∃ xs x,SqT K H a xs∧xs[i]? = some x,fun i H x H' => H' = H∧∀ xs,SqT K H a xs→xs[i]? = some x,fun i H => ∃ xs,SqT K H a xs∧xs.length≤i⟩
noncomputable def Itr (lo : Int) (n : Nat) : It := ⟨fun i _ => i < n,fun i H x H' => H' = H∧x = .int (lo + i),fun i _ => n≤i⟩
theorem zjp {P : Program} {w : World} {K : PySem.W.Frag} {tg : Expr} (a it : Addr) : Turn P w K tg (Itl K a) [it] it (fun i h => h.IsListIter it a i) where
  mem := by simp
  obj := fun i h st b hb => by
    have e : b = it := by simpa using hb
    subst e
    obtain ⟨o,e,c,d⟩ := st
    exact ⟨o,e,fun v z => by rw [d] at z; cases z⟩
  keep := fun i h h' st k => st.at fun o e => k it (by simp) o e
  item := by
    intro X hP hw hK hc i pins s σ H E I hf st hg
    subst hP hw hK
    obtain ⟨xs,x,hq,hx⟩ := hg
    obtain ⟨its,rv,p,hz⟩ := I.list hq
    obtain ⟨u,hu,ru⟩ := rv.get hx
    obtain ⟨f0,f1,f2,f3,f4,f5⟩ := hf it (by simp)
    refine wpAny_pyNext_list_item st p.isList (x := u) (by simpa using hu) fun h' st' sb => ?_
    have I1 : Inv X pins σ H { s with heap := h' } := I.turned (t' := s.toks) (fun b o hb e => (sb.2 b hb).trans e) f0 f1 f3 f4 f5
    obtain ⟨o,e,c,d⟩ := id st'
    exact ⟨u,rfl,znZ (s := { s with heap := h' }) e c d (by decide) ⟨x,H,I1,ru,⟨rfl,fun ys hy => by rw [I.list_inj hy hq]; exact hx⟩,st',fun b hb => (hf b hb).1⟩⟩
  done := by
    intro X hP hw hK hc i pins s σ H E I hf st hg
    subst hP hw hK
    obtain ⟨xs,hq,hx⟩ := hg
    obtain ⟨its,rv,p,hz⟩ := I.list hq
    obtain ⟨f0,f1,f2,f3,f4,f5⟩ := hf it (by simp)
    have hl := rv.length
    exact wpAny_pyNext_list_end (I.ok.hd hc) st p.isList (by simp; omega) fun h' eb => ⟨rfl,I.turned (t' := s.toks) (fun b o hb e => eb b o hb e) f0 f1 f3 f4 f5⟩
  self := fun _ _ _ _ _ st h => wpAny_pyIter_listiter st h
theorem ziO {P : Program} {w : World} {K : PySem.W.Frag} {tg : Expr} (a it : Addr) : Turn P w K tg (Itt K a) [it] it (fun i h => h.IsTupleIter it a i) where
  mem := by simp
  obj := fun i h st b hb => by
    have e : b = it := by simpa using hb
    subst e
    obtain ⟨o,e,c,d⟩ := st
    exact ⟨o,e,fun v z => by rw [d] at z; cases z⟩
  keep := fun i h h' st k => st.at fun o e => k it (by simp) o e
  item := by
    intro X hP hw hK hc i pins s σ H E I hf st hg
    subst hP hw hK
    obtain ⟨xs,x,hq,hx⟩ := hg
    obtain ⟨its,rv,p,hz⟩ := I.tuple hq
    obtain ⟨u,hu,ru⟩ := rv.get hx
    obtain ⟨f0,f1,f2,f3,f4,f5⟩ := hf it (by simp)
    refine wpAny_pyNext_tuple_item st (show s.heap.IsTuple a its.toArray from p) (x := u) (by simpa using hu) fun h' st' sb => ?_
    have I1 : Inv X pins σ H { s with heap := h' } := I.turned (t' := s.toks) (fun b o hb e => (sb.2 b hb).trans e) f0 f1 f3 f4 f5
    obtain ⟨o,e,c,d⟩ := id st'
    exact ⟨u,rfl,znZ (s := { s with heap := h' }) e c d (by decide) ⟨x,H,I1,ru,⟨rfl,fun ys hy => by rw [I.tuple_inj hy hq]; exact hx⟩,st',fun b hb => (hf b hb).1⟩⟩
  done := by
    intro X hP hw hK hc i pins s σ H E I hf st hg
    subst hP hw hK
    obtain ⟨xs,hq,hx⟩ := hg
    obtain ⟨its,rv,p,hz⟩ := I.tuple hq
    obtain ⟨f0,f1,f2,f3,f4,f5⟩ := hf it (by simp)
    have hl := rv.length
    exact wpAny_pyNext_tuple_end (I.ok.hd hc) st (show s.heap.IsTuple a its.toArray from p) (by simp; omega) fun h' eb => ⟨rfl,I.turned (t' := s.toks) (fun b o hb e => eb b o hb e) f0 f1 f3 f4 f5⟩
  self := fun _ _ _ _ _ st h => wpAny_pyIter_tupleiter st h
theorem ziP {P : Program} {w : World} {K : PySem.W.Frag} {tg : Expr} (it : Addr) (lo : Int) (n : Nat) : Turn P w K tg (Itr lo n) [it] it (fun i h => IsRangeIter h it (lo + (i : Nat) * 1) ((n : Int) - (i : Nat)) 1) where
  mem := by simp
  obj := fun i h st b hb => by
    have e : b = it := by simpa using hb
    subst e
    exact ⟨_,st,fun v z => by
      have z' : Data.fields _ = Data.cell v := z
      cases z'⟩
  keep := fun i h h' st k => k it (by simp) _ st
  item := by
    intro X hP hw hK hc i pins s σ H E I hf st hg
    subst hP hw hK
    obtain ⟨f0,f1,f2,f3,f4,f5⟩ := hf it (by simp)
    have W := Walks.range (prog := X.prog) (w := X.w) (I.ok.hd hc) it lo 1 n
    refine W.item i s _ _ hg st fun v h' tk hv st' kk => ?_
    obtain ⟨t,rfl⟩ := hv
    have I1 : Inv X pins σ H { s with heap := h',toks := tk } := I.turned (fun b o hb e => kk b o (by simpa using hb) e) f0 f1 f3 f4 f5
    refine ⟨_,rfl,znZ (s := { s with heap := h',toks := tk }) (n := "range_iterator") st' rfl rfl (by decide) ⟨.int (lo + i),H,I1,⟨t,?_⟩,⟨rfl,rfl⟩,st',fun b hb => (hf b hb).1⟩⟩
    rw [Int.mul_one]
  done := by
    intro X hP hw hK hc i pins s σ H E I hf st hg
    subst hP hw hK
    obtain ⟨f0,f1,f2,f3,f4,f5⟩ := hf it (by simp)
    exact wpAny_pyNext_range_end (I.ok.hd hc) st (by have : n≤i := hg; omega) fun h' eb => ⟨rfl,I.turned (t' := s.toks) (fun b o hb e => eb b o hb e) f0 f1 f3 f4 f5⟩
  self := fun _ _ _ _ _ st h => wpAny_pyIter_rangeiter st h
end L2
namespace L2
open PySem PySem.Spec PyProof.Rows
section
variable {X : Cx} {tg : Expr}
theorem zlE {pins : List (Addr × Obj)} {σ : St} {H : Hp} {s : Shared} {R : It→Hp→Prop} {E : Value→Shared→Prop} {lo hi : Int} {t u v : Tok} {tk : Nat} (I : Inv X pins σ H s) (h1 : -(2 ^ 62)≤lo) (h2 : lo < 2 ^ 62) (h3 : -(2 ^ 62)≤hi) (h4 : hi < 2 ^ 62)
    (q : R (Itr lo (hi - lo).toNat) H) : wpAny (model X.prog X.w) X.A (pyIter (.ref s.heap.objs.size)) (PIE X pins σ tg R) E { s with heap := s.heap.push { cls := .type "range",data := .fields #[.int lo t,.int hi u,.int 1 v] },toks := tk } := by
  refine wpAny_pyIter_range (IsRange.new ..) (small_one h1 h2 h3 h4) ?_
  have I1 : Inv X pins σ H { s with heap := s.heap.push { cls := .type "range",data := .fields #[.int lo t,.int hi u,.int 1 v] },toks := tk } := I.kept fun b o e => Heap.get?_push_of_some _ e
  refine ⟨(s.heap.push { cls := .type "range",data := .fields #[.int lo t,.int hi u,.int 1 v] }).objs.size,[(s.heap.push { cls := .type "range",data := .fields #[.int lo t,.int hi u,.int 1 v] }).objs.size],_,_,H,rfl,
    I1.kept (t' := tk) fun b o e => Heap.get?_push_of_some _ e,ziP _ lo (hi - lo).toNat,?_,fun b hb => ?_,q⟩
  · have e1 : lo + ((0 : Nat) : Int) * 1 = lo := by simp
    have e2 : (((hi - lo).toNat : Nat) : Int) - ((0 : Nat) : Int) = Builtin.Range.rangeSize lo hi 1 := by rw [rangeSize_one]; split <;> omega
    show IsRangeIter _ _ (lo + ((0 : Nat) : Int) * 1) ((((hi - lo).toNat : Nat) : Int) - ((0 : Nat) : Int)) 1
    rw [e1,e2]
    exact Heap.get?_push_size _ rfl
  · have e : b = (s.heap.push { cls := .type "range",data := .fields #[.int lo t,.int hi u,.int 1 v] }).objs.size := by simpa using hb
    subst e
    exact I1.fpOk (Nat.le_refl _) (I1.hok.fresh (Nat.le_refl _))
noncomputable def zqY (ta : TA) : TI := fun σ H R => ta σ H fun vs H1 => ∃ j : Int,vs = [.int j]∧-(2 ^ 62)≤j∧j < 2 ^ 62∧R (Itr 0 j.toNat) H1
theorem zjO {a : Expr} {ta : TA} {p pos : Pos} (hg : Gl X "range") (hm : X.mg "range" = none) (ha : PA X [a] ta) (hs : starEach [a] X.env = [(false,eval a X.env)] := by rfl) : PI X tg (.Call (.Name "range" p) [a] [] pos) (zqY ta) := by
  intro pins s σ H R I h
  refine Call_ (zfU I hg hm boot_range (PyProof.Rows.callWith_type1 (thn (ha pos pins s σ H _ I h) fun us s1 ⟨vs,H1,I1,r1,q1⟩ => ?_) hs rfl))
  obtain ⟨j,e,q1,q2,q⟩ := q1
  subst e
  cases r1 with
  | cons r rr =>
    cases rr
    obtain ⟨t,rfl⟩ := r
    exact call_range_1 (zlE I1 (by omega) (by omega) q1 q2 (by simpa using q))
noncomputable def tFor (wi : TI) (g : TG) (tb : TS) : TS := fun D σ H => wi σ H fun J H1 => ∃ W : Nat→Nat→St→Hp→Prop,(∃ m,W 0 m σ H1)∧∀ i m σ H,W i m σ H →
  (J.stop i H∧D.nx σ H)∨(J.go i H∧∃ N : St→Hp→Prop,(∀ σ' H',N σ' H'→∃ m',m' < m∧W (i + 1) m' σ' H')∧∀ x H',J.yld i H x H'→g x σ H' fun σ2 H2 => tb { D with nx := N,ct := N,bk := D.nx } σ2 H2)
noncomputable def zgX (fp : List Addr) (h : Heap) : List (Addr × Obj) := fp.filterMap fun b => (h.get? b).map fun o => (b,o)
theorem zdI {fp : List Addr} {h : Heap} {b : Addr} {o : Obj} (hb : b∈fp) (e : h.get? b = some o) : (b,o)∈zgX fp h := List.mem_filterMap.mpr ⟨b,hb,by rw [e]; rfl⟩
theorem zjZ {fp : List Addr} {h : Heap} {p : Addr × Obj} (hp : p∈zgX fp h) : p.1∈fp∧h.get? p.1 = some p.2 := by
  obtain ⟨b,hb,e⟩ := List.mem_filterMap.mp hp
  cases q : h.get? b with
  | none => rw [q] at e; cases e
  | some o =>
    rw [q] at e
    have e' : (b,o) = p := Option.some.inj e
    subst e'
    exact ⟨hb,q⟩
theorem Inv.pinned {pins : List (Addr × Obj)} {σ : St} {H : Hp} {s : Shared} {fp : List Addr} (I : Inv X pins σ H s) (hf : ∀ b∈fp,FpOk X pins H b) (ho : ∀ b∈fp,∃ o,s.heap.get? b = some o∧∀ v,o.data≠.cell v) : Inv X (pins++zgX fp s.heap) σ H s :=
  I.pins_of fun p hp => (List.mem_append.mp hp).elim (fun z => I.pin p (List.mem_append_right _ z)) fun z => by
    obtain ⟨hb,e⟩ := zjZ z
    obtain ⟨f0,f1,f2,_⟩ := hf p.1 hb
    obtain ⟨o,e',d⟩ := ho p.1 hb
    rw [e] at e'; cases e'
    exact ⟨e,f0,f1,f2,d⟩
theorem Inv.unpinned {pins pl : List (Addr × Obj)} {σ : St} {H : Hp} {s : Shared} (I : Inv X (pins++pl) σ H s) : Inv X pins σ H s := I.pins_of fun p hp => I.pin p (List.mem_append_right _ (List.mem_append_left _ hp))
theorem zjJ {iter : Expr} {body : List Stmt} {wi : TI} {g : TG} {tb : TS} {pos : Pos} (hp : PassesOwn (model X.prog X.w) X.A X.env X.xe) (hc : X.calm = true) (hi : PI X tg iter wi) (hg : PG X tg g) (hb : PSs X body tb)
    (hs : ∀ x,foldedSetIterable iter X.env x = pure x := by intro _; rfl) : PS X (.For tg iter body [] pos) (tFor wi g tb) := by
  intro pins s σ H D I h
  refine wpAny_For (thn (hi pins s σ H _ I h) fun v s1 h1 => thn h1 fun itv s2 h2 => ?_) hs
  obtain ⟨it,fp,tn,J,H2,e,I2,T,st2,f2,W,⟨m0,w0⟩,turn⟩ := h2
  subst e
  have stat : ∀ {H' : Hp},(∀ b∈fp,H' b = none)→∀ b∈fp,FpOk X pins H' b := fun hn b hb => ⟨hn b hb,(f2 b hb).2⟩
  refine codeAny_forLoop_any (fun n s' => ∃ i σ' H',Inv X pins σ' H' s'∧tn i s'.heap∧(∀ b∈fp,H' b = none)∧W i n σ' H') ?_ m0 ⟨0,σ,H2,I2,st2,fun b hb => (f2 b hb).1,w0⟩
  rintro n s3 ⟨i,σ3,H3,I3,st3,fr3,w3⟩
  rcases turn i n σ3 H3 w3 with ⟨stop,qn⟩ | ⟨go,N,hN,step⟩
  · refine wpAny_passesOwn hp (thn (T.done X rfl rfl rfl hc i pins s3 σ3 H3 X.xe I3 (stat fr3) st3 stop) fun r s4 ⟨hr,I4⟩ => ?_)
    subst hr
    exact wpAny_execs_nil ⟨σ3,H3,I4,qn⟩
  · refine wpAny_passesOwn hp (thn (T.item X rfl rfl rfl hc i pins s3 σ3 H3 X.xe I3 (stat fr3) st3 go) fun r s4 ⟨u,hr,h4⟩ => ?_)
    subst hr
    refine wpAny_passesOwn hp (thn h4 fun _ s5 ⟨x,H5,I5,r5,y5,st5,fr5⟩ => ?_)
    have I5' := I5.pinned (stat fr5) (T.obj _ _ st5)
    refine wpAny_passesOwn hp (thn (hg _ s5 σ3 H5 x u _ I5' r5 (step x H5 y5)) fun _ s6 ⟨σ6,H6,I6,q6⟩ => ?_)
    refine wpAny_passesOwn hp (thn (hb _ s6 σ6 H6 _ I6 q6) fun f s7 q7 => ?_)
    have again : ∀ {σ7 : St} {H7 : Hp},Inv X (pins++zgX fp s5.heap) σ7 H7 s7→N σ7 H7→∃ m,m < n∧∃ i σ' H',Inv X pins σ' H' s7∧tn i s7.heap∧(∀ b∈fp,H' b = none)∧W i m σ' H' := fun {σ7 H7} I7 n7 => by
      obtain ⟨m',hm,w7⟩ := hN σ7 H7 n7
      refine ⟨m',hm,i + 1,σ7,H7,I7.unpinned,T.keep _ _ _ st5 fun b hb o e => (I7.pin (b,o) (List.mem_append_right _ (List.mem_append_right _ (zdI hb e)))).1,fun b hb => ?_,w7⟩
      obtain ⟨o,e,d⟩ := T.obj _ _ st5 b hb
      exact (I7.pin (b,o) (List.mem_append_right _ (List.mem_append_right _ (zdI hb e)))).2.1
    cases f with
    | next => obtain ⟨σ7,H7,I7,n7⟩ := q7; exact again I7 n7
    | cont => obtain ⟨σ7,H7,I7,n7⟩ := q7; exact again I7 n7
    | brk => obtain ⟨σ7,H7,I7,q7⟩ := q7; exact ⟨σ7,H7,I7.unpinned,q7⟩
    | ret v => obtain ⟨x7,σ7,H7,I7,r7,q7⟩ := q7; exact ⟨x7,σ7,H7,I7.unpinned,r7,q7⟩
end
end L2
namespace L2
open PySem PySem.Spec PyProof.Rows
noncomputable abbrev R2 := V→V→Hp→VK→Prop
noncomputable def OpR (X : Cx) (f : Value→Value→Sem Value) (r : R2) : Prop :=
  ∀ (pins : List (Addr × Obj)) (s : Shared) (σ : St) (H : Hp) (x y : V) (v u : Value) (Q : VK),Inv X pins σ H s→RelV x v→RelV y u→r x y H Q →
    wpAny (model X.prog X.w) X.A (f v u) (EP X pins σ Q) X.xe s
noncomputable def UnR (X : Cx) (f : Value→Sem Value) (r : V→Hp→VK→Prop) : Prop :=
  ∀ (pins : List (Addr × Obj)) (s : Shared) (σ : St) (H : Hp) (x : V) (v : Value) (Q : VK),Inv X pins σ H s→RelV x v→r x H Q →
    wpAny (model X.prog X.w) X.A (f v) (EP X pins σ Q) X.xe s
noncomputable def zdk (X : Cx) (f : Value) (r : List V→Hp→VK→Prop) : Prop :=
  ∀ (pins : List (Addr × Obj)) (s : Shared) (σ : St) (H : Hp) (xs : List V) (us : List Value) (Q : VK),Inv X pins σ H s→Vals xs us→r xs H Q →
    wpAny (model X.prog X.w) X.A (call f us) (EP X pins σ Q) X.xe s
noncomputable def TruR (X : Cx) (r : V→Hp→(Bool→Hp→Prop)→Prop) : Prop :=
  ∀ (pins : List (Addr × Obj)) (s : Shared) (σ : St) (H : Hp) (x : V) (v : Value) (Q : Bool→Hp→Prop),Inv X pins σ H s→RelV x v→r x H Q →
    wpAny (model X.prog X.w) X.A (truthy v) (TP X pins σ Q) X.xe s
noncomputable def tOp (r : R2) (ta tb : TE) : TE := fun σ H Q => ta σ H fun x H1 => tb σ H1 fun y H2 => r x y H2 Q
noncomputable def tUn (r : V→Hp→VK→Prop) (ta : TE) : TE := fun σ H Q => ta σ H fun x H1 => r x H1 Q
noncomputable def rI (C : Int→Int→Prop) (g : Int→Int→V) : R2 := fun x y H Q => ∃ i j,x = .int i∧y = .int j∧C i j∧Q (g i j) H
noncomputable def rI0 (g : Int→Int→V) : R2 := fun x y H Q => ∃ i j,x = .int i∧y = .int j∧Q (g i j) H
noncomputable def rU (g : Int→V) : V→Hp→VK→Prop := fun x H Q => ∃ i,x = .int i∧Q (g i) H
section
variable {X : Cx} {a b c : Expr} {ta tb tc : TE} {pos : Pos}
theorem binT (ha : PE X a ta) (hb : PE X b tb) {pins : List (Addr × Obj)} {s : Shared} {σ : St} {H : Hp} {R : V→V→Hp→Prop} (I : Inv X pins σ H s)
    (h : ta σ H fun x H1 => tb σ H1 fun y H2 => R x y H2) {Q : Value→Shared→Prop} {f : Value→Value→Sem Value}
    (hf : ∀ v u s2 x y H2,Inv X pins σ H2 s2→RelV x v→RelV y u→R x y H2→wpAny (model X.prog X.w) X.A (f v u) Q X.xe s2) :
    wpAny (model X.prog X.w) X.A (eval a X.env) (fun v s₁ => wpAny (model X.prog X.w) X.A (eval b X.env) (fun u s₂ => wpAny (model X.prog X.w) X.A (f v u) Q X.xe s₂) X.xe s₁) X.xe s := by
  refine thn (ha pins s σ H _ I h) fun v s1 ⟨x,H1,I1,r1,q1⟩ => ?_
  refine thn (hb pins s1 σ H1 _ I1 q1) fun u s2 ⟨y,H2,I2,r2,q2⟩ => ?_
  exact hf v u s2 x y H2 I2 r1 r2 q2
theorem zqF {op : Operator} {r : R2} (ho : OpR X (binaryOp op) r) (ha : PE X a ta) (hb : PE X b tb) : PE X (.BinOp a op b pos) (tOp r ta tb) := by
  intro pins s σ H Q I h
  exact wpAny_BinOp (binT ha hb I h fun v u s2 x y H2 I2 rx ry q => ho pins s2 σ H2 x y v u Q I2 rx ry q)
theorem zqE {op : UnaryOp} {r : V→Hp→VK→Prop} (ho : UnR X (unaryOp op) r) (ha : PE X a ta) : PE X (.UnaryOp op a pos) (tUn r ta) := by
  intro pins s σ H Q I h
  exact UnaryOp_ (thn (ha pins s σ H _ I h) fun v s1 ⟨x,H1,I1,r1,q1⟩ => ho pins s1 σ H1 x v Q I1 r1 q1)
theorem opI {f : Value→Value→Sem Value} {C : Int→Int→Prop} {g : Int→Int→Int}
    (rule : ∀ (i j : Int) (t u : Tok) (s : Shared) (Q : Value→Shared→Prop) (E : Value→Shared→Prop),C i j→Q (.int (g i j) s.toks) { s with toks := s.toks + 1 }→wpAny (model X.prog X.w) X.A (f (.int i t) (.int j u)) Q E s) :
    OpR X f (rI C fun i j => .int (g i j)) := by
  intro pins s σ H x y v u Q I rx ry h
  obtain ⟨i,j,rfl,rfl,hc,q⟩ := h
  obtain ⟨t,rfl⟩ := rx
  obtain ⟨t',rfl⟩ := ry
  exact rule i j t t' s _ _ hc ⟨.int (g i j),H,I.tok _,⟨_,rfl⟩,q⟩
theorem opI0 {f : Value→Value→Sem Value} {g : Int→Int→Int}
    (rule : ∀ (i j : Int) (t u : Tok) (s : Shared) (Q : Value→Shared→Prop) (E : Value→Shared→Prop),Q (.int (g i j) s.toks) { s with toks := s.toks + 1 }→wpAny (model X.prog X.w) X.A (f (.int i t) (.int j u)) Q E s) :
    OpR X f (rI0 fun i j => .int (g i j)) := by
  intro pins s σ H x y v u Q I rx ry h
  obtain ⟨i,j,rfl,rfl,q⟩ := h
  obtain ⟨t,rfl⟩ := rx
  obtain ⟨t',rfl⟩ := ry
  exact rule i j t t' s _ _ ⟨.int (g i j),H,I.tok _,⟨_,rfl⟩,q⟩
theorem opB0 {f : Value→Value→Sem Value} {g : Int→Int→Bool}
    (rule : ∀ (i j : Int) (t u : Tok) (s : Shared) (Q : Value→Shared→Prop) (E : Value→Shared→Prop),Q (.bool (g i j)) s→wpAny (model X.prog X.w) X.A (f (.int i t) (.int j u)) Q E s) :
    OpR X f (rI0 fun i j => .bl (g i j)) := by
  intro pins s σ H x y v u Q I rx ry h
  obtain ⟨i,j,rfl,rfl,q⟩ := h
  obtain ⟨t,rfl⟩ := rx
  obtain ⟨t',rfl⟩ := ry
  exact rule i j t t' s _ _ ⟨.bl (g i j),H,I,rfl,q⟩
noncomputable def CDiv (i j : Int) : Prop := 0 < j∧j < 1073741824
noncomputable def CPow (i j : Int) : Prop := 0≤j∧j≤1000000∧i.natAbs < 2 ^ 64
noncomputable def CMul (i j : Int) : Prop := (-(2 ^ 64) < i∧i < 2 ^ 64)∨(-(2 ^ 64) < j∧j < 2 ^ 64)
theorem CMul.ok {i j : Int} (h : CMul i j) : IntMulOk i j := by
  rcases h with ⟨h1,h2⟩ | ⟨h1,h2⟩
  · exact .of_left (intBits_le_64 h1 h2)
  · exact .of_right (intBits_le_64 h1 h2)
theorem zmG : OpR X (binaryOp .Add) (rI0 fun i j => .int (i + j)) := opI0 fun _ _ _ _ _ _ _ q => add_int q
theorem zo7 : OpR X (binaryOp .Sub) (rI0 fun i j => .int (i - j)) := opI0 fun _ _ _ _ _ _ _ q => sub_int q
theorem zpa : OpR X (binaryOp .Mult) (rI CMul fun i j => .int (i * j)) := opI fun _ _ _ _ _ _ _ hc q => mul_int q hc.ok
theorem znB : OpR X (binaryOp .FloorDiv) (rI CDiv fun i j => .int (i / j)) := opI fun i j _ _ _ _ _ hc q => by
  have h1 : (0 : Int) < j := hc.1
  have h2 : j < 1073741824 := hc.2
  exact floordiv_int (by omega) (by rw [Int.fdiv_eq_ediv_of_nonneg i (by omega)]; exact q) (.inl (PyProof.noPylong_small (by omega)))
theorem zpb : OpR X (binaryOp .Mod) (rI (fun _ j => 0 < j) fun i j => .int (i % j)) := opI fun i j _ _ _ _ _ hc q => by
  have h1 : (0 : Int) < j := hc
  exact mod_int' (by omega) (by rw [Int.fmod_eq_emod_of_nonneg i (by omega)]; exact q)
theorem zo8 : OpR X (binaryOp .Pow) (rI CPow fun i j => .int (i ^ j.toNat)) := opI fun _ _ _ _ _ _ _ hc q => pow_int_small hc.1 hc.2.1 hc.2.2 q
theorem unI {f : Value→Sem Value} {g : Int→Int}
    (rule : ∀ (i : Int) (t : Tok) (s : Shared) (Q : Value→Shared→Prop) (E : Value→Shared→Prop),Q (.int (g i) s.toks) { s with toks := s.toks + 1 }→wpAny (model X.prog X.w) X.A (f (.int i t)) Q E s) :
    UnR X f (rU fun i => .int (g i)) := by
  intro pins s σ H x v Q I rx h
  obtain ⟨i,rfl,q⟩ := h
  obtain ⟨t,rfl⟩ := rx
  exact rule i t s _ _ ⟨.int (g i),H,I.tok _,⟨_,rfl⟩,q⟩
theorem zom : UnR X (unaryOp .USub) (rU fun i => .int (-i)) := unI fun _ _ _ _ _ q => neg_int q
end
noncomputable def scal : V→V→Bool
  | .non,.non => true | .non,.int _ => true | .int _,.non => true | .non,.bl _ => true | .bl _,.non => true | .non,.str _ => true | .str _,.non => true
  | .int _,.int _ => true | .bl _,.bl _ => true | .str _,.str _ => true | .byt _,.byt _ => true
  | .int _,.str _ => true | .str _,.int _ => true | .bl _,.str _ => true | .str _,.bl _ => true
  | _,_ => false
noncomputable def rEq : R2 := fun x y H Q => scal x y = true∧Q (.bl (decide (x = y))) H
noncomputable def rNe : R2 := fun x y H Q => scal x y = true∧Q (.bl (!decide (x = y))) H
theorem zh0 {i j : Int} : decide (V.int i = V.int j) = (i == j) := by
  rw [Bool.eq_iff_iff]
  simp
theorem zkO {i j : Bool} : decide (V.bl i = V.bl j) = (i == j) := by
  rw [Bool.eq_iff_iff]
  simp
theorem zhZ {i j : Str} : decide (V.str i = V.str j) = (i == j) := by
  rw [Bool.eq_iff_iff]
  simp
theorem zkN {i j : Array UInt8} : decide (V.byt i = V.byt j) = (i.toList == j.toList) := by
  rw [Bool.eq_iff_iff]
  cases i
  cases j
  simp
section
variable {X : Cx} {a b c : Expr} {ta tb tc : TE} {pos : Pos}
theorem zaA {pins : List (Addr × Obj)} {σ : St} {H : Hp} {s : Shared} {Q : VK} {k k' : Bool} (I : Inv X pins σ H s) (q : Q (.bl k) H) (e : k = k') : EP X pins σ Q (.bool k') s := by
  subst e
  exact ⟨.bl k,H,I,rfl,q⟩
theorem zpf : OpR X (compareOp .Eq) rEq := by
  intro pins s σ H x y v u Q I rx ry h
  obtain ⟨hs,q⟩ := h
  cases x with
  | non =>
    cases rx
    cases y with
    | non => cases ry; exact PySem.EqNone.eq_none_none (zaA I q (by simp))
    | bl j => cases ry; exact PySem.EqNone.eq_none_bool (zaA I q (by simp))
    | int j => obtain ⟨t',rfl⟩ := ry; exact PySem.EqNone.eq_none_int (zaA I q (by simp))
    | str j => obtain ⟨t',rfl⟩ := ry; exact PySem.EqNone.eq_none_str (zaA I q (by simp))
    | _ => exact absurd (show false = true from hs) Bool.false_ne_true
  | bl i =>
    cases rx
    cases y with
    | non => cases ry; exact PySem.EqNone.eq_bool_none (zaA I q (by simp))
    | bl j => cases ry; exact eq_bool (zaA I q zkO)
    | str j => obtain ⟨t',rfl⟩ := ry; exact PySem.EqMixed.eq_bool_str (zaA I q (by simp))
    | _ => exact absurd (show false = true from hs) Bool.false_ne_true
  | int i =>
    obtain ⟨t,rfl⟩ := rx
    cases y with
    | non => cases ry; exact PySem.EqNone.eq_int_none (zaA I q (by simp))
    | int j => obtain ⟨t',rfl⟩ := ry; exact eq_int (zaA I q zh0)
    | str j => obtain ⟨t',rfl⟩ := ry; exact PySem.EqMixed.eq_int_str (zaA I q (by simp))
    | _ => exact absurd (show false = true from hs) Bool.false_ne_true
  | str i =>
    obtain ⟨t,rfl⟩ := rx
    cases y with
    | non => cases ry; exact PySem.EqNone.eq_str_none (zaA I q (by simp))
    | bl j => cases ry; exact PySem.EqMixed.eq_str_bool (zaA I q (by simp))
    | int j => obtain ⟨t',rfl⟩ := ry; exact PySem.EqMixed.eq_str_int (zaA I q (by simp))
    | str j => obtain ⟨t',rfl⟩ := ry; exact eq_str (zaA I q zhZ)
    | _ => exact absurd (show false = true from hs) Bool.false_ne_true
  | byt i =>
    obtain ⟨t,rfl⟩ := rx
    cases y with
    | byt j => obtain ⟨t',rfl⟩ := ry; exact PySem.W.eq_bytes (zaA I q zkN)
    | _ => exact absurd (show false = true from hs) Bool.false_ne_true
  | _ => cases y <;> exact absurd (show false = true from hs) Bool.false_ne_true
theorem zo9 : OpR X (compareOp .NotEq) rNe := by
  intro pins s σ H x y v u Q I rx ry h
  obtain ⟨hs,q⟩ := h
  cases x with
  | non =>
    cases rx
    cases y with
    | non => cases ry; exact PySem.EqNone.ne_none_none (zaA I q (by simp))
    | bl j => cases ry; exact PySem.EqNone.ne_none_bool (zaA I q (by simp))
    | int j => obtain ⟨t',rfl⟩ := ry; exact PySem.EqNone.ne_none_int (zaA I q (by simp))
    | str j => obtain ⟨t',rfl⟩ := ry; exact PySem.EqNone.ne_none_str (zaA I q (by simp))
    | _ => exact absurd (show false = true from hs) Bool.false_ne_true
  | bl i =>
    cases rx
    cases y with
    | non => cases ry; exact PySem.EqNone.ne_bool_none (zaA I q (by simp))
    | bl j => cases ry; exact ne_bool (zaA I q (congrArg not zkO))
    | str j => obtain ⟨t',rfl⟩ := ry; exact PySem.EqMixed.ne_bool_str (zaA I q (by simp))
    | _ => exact absurd (show false = true from hs) Bool.false_ne_true
  | int i =>
    obtain ⟨t,rfl⟩ := rx
    cases y with
    | non => cases ry; exact PySem.EqNone.ne_int_none (zaA I q (by simp))
    | int j => obtain ⟨t',rfl⟩ := ry; exact ne_int (zaA I q (congrArg not zh0))
    | str j => obtain ⟨t',rfl⟩ := ry; exact PySem.EqMixed.ne_int_str (zaA I q (by simp))
    | _ => exact absurd (show false = true from hs) Bool.false_ne_true
  | str i =>
    obtain ⟨t,rfl⟩ := rx
    cases y with
    | non => cases ry; exact PySem.EqNone.ne_str_none (zaA I q (by simp))
    | bl j => cases ry; exact PySem.EqMixed.ne_str_bool (zaA I q (by simp))
    | int j => obtain ⟨t',rfl⟩ := ry; exact PySem.EqMixed.ne_str_int (zaA I q (by simp))
    | str j => obtain ⟨t',rfl⟩ := ry; exact ne_str (zaA I q (congrArg not zhZ))
    | _ => exact absurd (show false = true from hs) Bool.false_ne_true
  | byt i =>
    obtain ⟨t,rfl⟩ := rx
    cases y with
    | byt j => obtain ⟨t',rfl⟩ := ry; exact PySem.W.ne_bytes (zaA I q (congrArg not zkN))
    | _ => exact absurd (show false = true from hs) Bool.false_ne_true
  | _ => cases y <;> exact absurd (show false = true from hs) Bool.false_ne_true
theorem znA : OpR X (compareOp .Lt) (rI0 fun i j => .bl (decide (i < j))) := opB0 fun _ _ _ _ _ _ _ q => lt_int q
theorem zqJ : OpR X (compareOp .LtE) (rI0 fun i j => .bl (decide (i≤j))) := opB0 fun _ _ _ _ _ _ _ q => le_int q
theorem zqK : OpR X (compareOp .Gt) (rI0 fun i j => .bl (decide (j < i))) := opB0 fun _ _ _ _ _ _ _ q => gt_int q
theorem zjR : OpR X (compareOp .In) (fun x y H Q => ∃ i j,x = .str i∧y = .str j∧Q (.bl (!(Builtin.Str.occurrences j i 0 j.length 1).isEmpty)) H) := by
  intro pins s σ H x y v u Q I rx ry h
  obtain ⟨i,j,rfl,rfl,q⟩ := h
  obtain ⟨t,rfl⟩ := rx
  obtain ⟨t',rfl⟩ := ry
  exact in_str (zaA I q rfl)
theorem zmF : OpR X (compareOp .Is) (fun x y H Q => y = .non∧Q (.bl (decide (x = .non))) H) := by
  intro pins s σ H x y v u Q I rx ry h
  obtain ⟨rfl,q⟩ := h
  cases ry
  refine is_none_gen (zaA I q ?_)
  cases x <;> first
    | (cases rx; rfl)
    | (obtain ⟨t,rfl⟩ := rx; rfl)
theorem znx : OpR X (compareOp .IsNot) (fun x y H Q => y = .non∧Q (.bl (!decide (x = .non))) H) := by
  intro pins s σ H x y v u Q I rx ry h
  obtain ⟨rfl,q⟩ := h
  cases ry
  refine isnot_none_gen (zaA I q ?_)
  cases x <;> first
    | (cases rx; rfl)
    | (obtain ⟨t,rfl⟩ := rx; rfl)
theorem OpR.or {f : Value→Value→Sem Value} {r r' : R2} (h : OpR X f r) (h' : OpR X f r') : OpR X f (fun x y H Q => r x y H Q∨r' x y H Q) := by
  intro pins s σ H x y v u Q I rx ry q
  rcases q with q | q
  · exact h pins s σ H x y v u Q I rx ry q
  · exact h' pins s σ H x y v u Q I rx ry q
theorem zdY (b : Expr) {op : CmpOp} (h : op≠.In := by decide) (h2 : op≠.NotIn := by decide) : behindInMarks op b = false := by
  have e1 : (op == CmpOp.In) = false := by cases op <;> first | rfl | exact absurd rfl h
  have e2 : (op == CmpOp.NotIn) = false := by cases op <;> first | rfl | exact absurd rfl h2
  cases b <;> simp [behindInMarks,e1,e2]
theorem zns {op : CmpOp} {r : R2} (ho : OpR X (compareOp op) r) (ha : PE X a ta) (hb : PE X b tb) (hm : behindInMarks op b = false) : PE X (.Compare a [op] [b] pos) (tOp r ta tb) := by
  intro pins s σ H Q I h
  exact wpAny_Compare1 (binT ha hb I h fun v u s2 x y H2 I2 rx ry q => ho pins s2 σ H2 x y v u Q I2 rx ry q) hm
noncomputable def zqj (t : TE) : TT := fun σ H Q => t σ H fun x H' => ∃ k,x = .bl k∧Q k H'
theorem znk {op : CmpOp} {r : R2} (ho : OpR X (compareOp op) r) (ha : PE X a ta) (hb : PE X b tb) (hm : behindInMarks op b = false) : PT X (.Compare a [op] [b] pos) (zqj (tOp r ta tb)) := by
  intro pins s σ H Q I h
  refine wpAny_isTrue_Compare1 (thn (ha pins s σ H _ I h) fun v s1 ⟨x,H1,I1,r1,q1⟩ => thn (hb pins s1 σ H1 _ I1 q1) fun u s2 ⟨y,H2,I2,r2,q2⟩ =>
    thn (ho pins s2 σ H2 x y v u _ I2 r1 r2 q2) fun c s3 ⟨z,H3,I3,r3,k,e,q3⟩ => ?_) hm
  subst e
  cases r3
  exact wpAny_truthy_bool ⟨H3,I3,q3⟩
noncomputable def zmw (r r' : R2) (ta tb tc : TE) : TE := fun σ H Q => ta σ H fun x H1 => tb σ H1 fun y H2 => r x y H2 fun z H3 => ∃ k,z = .bl k ∧
  (if k = true then tc σ H3 fun w' H4 => r' y w' H4 Q else Q (.bl false) H3)
theorem zlQ {op op' : CmpOp} {r r' : R2} (ho : OpR X (compareOp op) r) (ho' : OpR X (compareOp op') r') (ha : PE X a ta) (hb : PE X b tb) (hc : PE X c tc)
    (hm : lastMarks [op,op'] [b,c] = false := by with_unfolding_all rfl) : PE X (.Compare a [op,op'] [b,c] pos) (zmw r r' ta tb tc) := by
  intro pins s σ H Q I h
  refine Compare_chain (thn (ha pins s σ H _ I h) fun v s1 ⟨x,H1,I1,r1,q1⟩ => chain_link (thn (hb pins s1 σ H1 _ I1 q1) fun u s2 ⟨y,H2,I2,r2,q2⟩ =>
    thn (ho pins s2 σ H2 x y v u _ I2 r1 r2 q2) fun d s3 ⟨z,H3,I3,r3,k,e,q3⟩ => ?_)) hm
  subst e
  cases r3
  refine wpAny_truthy_bool ?_
  cases k with
  | false => exact ite_ff ⟨.bl false,H3,I3,rfl,q3⟩
  | true => exact ite_tt (chain_last (thn (hc pins s3 σ H3 _ I3 q3) fun w' s4 ⟨z',H4,I4,r4,q4⟩ => ho' pins s4 σ H4 y z' u w' Q I4 r2 r4 q4))
noncomputable def TruV (K : PySem.W.Frag) (x : V) (H : Hp) (k : Bool) : Prop :=
  match x with
  | .non => k = false
  | .bl b => k = b
  | .int i => k = (i != 0)
  | .str y => y.length≤sizeLine∧k = ((y.length : Int) != 0)
  | .byt y => y.size≤sizeLine∧k = ((y.size : Int) != 0)
  | .ref p => (∃ xs,SqL K H p xs∧k = !xs.isEmpty)∨(∃ xs,SqT K H p xs∧k = !xs.isEmpty)∨∃ kvs,Rd H p (.dK kvs)∧k = !kvs.isEmpty
  | _ => False
theorem zi9 {κ : Type} {kvs : List (κ × V)} {vs : List (κ × Value)} (r : KV kvs vs) : (!vs.isEmpty) = !kvs.isEmpty := by
  cases r <;> rfl
theorem zfV {xs : List V} {its : List Value} (r : Vals xs its) : (!its.toArray.isEmpty) = !xs.isEmpty := by
  cases r <;> simp
theorem zfT : (sizeLine : Nat) < 2 ^ 63 := by rw [sizeLine_eq]; decide
theorem zos : TruR X (fun x H Q => ∃ k,TruV X.K x H k∧Q k H) := by
  intro pins s σ H x v Q I rx h
  obtain ⟨k,e,q⟩ := h
  have hl := zfT
  have hs : sizeLine = 16777216 := sizeLine_eq
  cases x with
  | non =>
    cases rx
    have e' : k = false := e
    subst e'
    exact truthy_none ⟨H,I,q⟩
  | bl b =>
    cases rx
    have e' : k = b := e
    subst e'
    exact wpAny_truthy_bool ⟨H,I,q⟩
  | int i =>
    obtain ⟨t,rfl⟩ := rx
    have e' : k = (i != 0) := e
    subst e'
    exact PySem.P.truthy_int ⟨H,I,q⟩
  | str y =>
    obtain ⟨t,rfl⟩ := rx
    obtain ⟨hy,e'⟩ : y.length≤sizeLine∧k = ((y.length : Int) != 0) := e
    subst e'
    exact PySem.P.truthy_str (by omega) ⟨H,I.tok _,q⟩
  | byt y =>
    obtain ⟨t,rfl⟩ := rx
    obtain ⟨hy,e'⟩ : y.size≤sizeLine∧k = ((y.size : Int) != 0) := e
    subst e'
    exact PySem.W.truthy_bytes (by omega) ⟨H,I.tok _,q⟩
  | ref p =>
    cases rx
    have e' : (∃ xs,SqL X.K H p xs∧k = !xs.isEmpty)∨(∃ xs,SqT X.K H p xs∧k = !xs.isEmpty)∨∃ kvs,Rd H p (.dK kvs)∧k = !kvs.isEmpty := e
    rcases e' with ⟨xs,hx,e'⟩ | ⟨xs,hx,e'⟩ | ⟨kvs,hx,e'⟩
    · subst e'
      obtain ⟨its,r,pl,hz⟩ := I.list hx
      have hlen := r.length
      exact wpAny_truthy_list pl.isList (by simp only [List.size_toArray]; omega) ⟨H,I.tok _,by rw [zfV r]; exact q⟩
    · subst e'
      obtain ⟨its,r,pl,hz⟩ := I.tuple hx
      have hlen := r.length
      exact truthy_tuple pl (by simp only [List.size_toArray]; omega) ⟨H,I.tok _,by rw [zfV r]; exact q⟩
    · subst e'
      obtain ⟨hz,hS,vs,r,m⟩ : kvs.length≤sizeLine∧(p == sysModules) = false∧∃ vs,KV kvs vs∧s.heap.DictOf (zbl X.prog X.w) p vs := hx.ok I.hok
      have hlen : kvs.length = vs.length := Paired.length r
      exact wpAny_truthy_dict hS m (by omega) ⟨H,I.tok _,by rw [zi9 r]; exact q⟩
  | _ => exact (show False from e).elim
theorem zlI (ha : PE X a ta) (he : ∀ whole,isTrue a X.env whole = (do let v ← whole; standAt a.pos; holding [v] (truthy v))) :
    PT X a (fun σ H Q => ta σ H fun x H' => ∃ k,TruV X.K x H' k∧Q k H') := by
  intro pins s σ H Q I h
  exact isTrue_plain (thn (ha pins s σ H _ I h) fun v s1 ⟨x,H1,I1,r1,q1⟩ => zos pins s1 σ H1 x v Q I1 r1 q1) (he _)
theorem zfR : OpR X (binaryOp .Add) (fun x y H Q => ∃ i j,x = .str i∧y = .str j∧i.length + j.length≤sizeLine∧Q (.str (i++j)) H) := by
  intro pins s σ H x y v u Q I rx ry h
  obtain ⟨i,j,rfl,rfl,hz,q⟩ := h
  obtain ⟨t,rfl⟩ := rx
  obtain ⟨t',rfl⟩ := ry
  exact add_str (fun t' tk => ⟨.str (i++j),H,I.tok _,⟨_,rfl⟩,q⟩) hz
theorem zea {x : V} {us : List Value} (r : Vals [x] us) : ∃ u,us = [u]∧RelV x u := by
  cases r with
  | cons r1 r2 => cases r2; exact ⟨_,rfl,r1⟩
theorem zol {x y : V} {us : List Value} (r : Vals [x,y] us) : ∃ u w',us = [u,w']∧RelV x u∧RelV y w' := by
  cases r with
  | cons r1 r2 =>
    cases r2 with
    | cons r3 r4 => cases r4; exact ⟨_,_,rfl,r1,r3⟩
noncomputable def LenV (K : PySem.W.Frag) (x : V) (H : Hp) (n : Nat) : Prop :=
  match x with
  | .str y => y.length≤sizeLine∧n = y.length
  | .byt y => y.size≤sizeLine∧n = y.size
  | .ref p => (∃ xs,SqL K H p xs∧n = xs.length)∨∃ xs,SqT K H p xs∧n = xs.length
  | _ => False
theorem zmj : zdk X (.builtin "len") (fun xs H Q => ∃ x n,xs = [x]∧LenV X.K x H n∧Q (.int n) H) := by
  intro pins s σ H xs us Q I r h
  obtain ⟨x,n,rfl,e,q⟩ := h
  obtain ⟨u,rfl,rx⟩ := zea r
  have hl := zfT
  have hs : sizeLine = 16777216 := sizeLine_eq
  cases x with
  | str y =>
    obtain ⟨t,rfl⟩ := rx
    obtain ⟨hy,e'⟩ : y.length≤sizeLine∧n = y.length := e
    subst e'
    exact len_str (by omega) ⟨.int _,H,I.tok _,⟨_,rfl⟩,q⟩
  | byt y =>
    obtain ⟨t,rfl⟩ := rx
    obtain ⟨hy,e'⟩ : y.size≤sizeLine∧n = y.size := e
    subst e'
    exact PySem.W.len_bytes (by omega) ⟨.int _,H,I.tok _,⟨_,rfl⟩,q⟩
  | ref p =>
    cases rx
    have e' : (∃ xs,SqL X.K H p xs∧n = xs.length)∨∃ xs,SqT X.K H p xs∧n = xs.length := e
    rcases e' with ⟨xs,hx,e'⟩ | ⟨xs,hx,e'⟩
    · subst e'
      obtain ⟨its,r',pl,hz⟩ := I.list hx
      have hlen := r'.length
      exact Calls.call_len_list pl.isList (by simp only [List.size_toArray]; omega) ⟨.int xs.length,H,I.tok _,⟨_,by simp only [List.size_toArray]; rw [hlen]⟩,q⟩
    · subst e'
      obtain ⟨its,r',pl,hz⟩ := I.tuple hx
      have hlen := r'.length
      exact len_tuple pl (by simp only [List.size_toArray]; omega) ⟨.int xs.length,H,I.tok _,⟨_,by simp only [List.size_toArray]; rw [hlen]⟩,q⟩
  | _ => exact (show False from e).elim
end
end L2
namespace L2
open PySem PySem.Spec PyProof.Rows
structure ObjM (h : Heap) (x dx C : Addr) (mA : Str→Option Value) : Prop where
  obj : h.get? x = some (PySem.W.instObj C dx)
  ns : h.Ns1 dx mA
  ne : dx≠x
section
variable {prog : Program} {w : World} {A : Around} {E : Value → Shared → Prop} {s : Shared} {K : PySem.W.Frag} {x dx C f : Addr} {mA : Str → Option Value} {name : Str} {v : Value}
end
theorem RelO.some_of {v : V} {o : Option Value} (r : RelO (some v) o) : ∃ u,o = some u∧RelV v u := by
  cases o with
  | none => exact (show False from r).elim
  | some u => exact ⟨u,rfl,r⟩
section
variable {P : Program} {w : World} {H H' : Hp} {h h' : Heap} {a C dx : Addr} {fs fs' : List (Str × V)}
end
structure Cls (K : PySem.W.Frag) (C : Addr) : Prop where
  pg : PySem.W.plainGet K C Str.empty = true
  hd : PySem.W.hasDictIn K C = true
  po : PySem.W.plainOver K C = true
  sa : PySem.W.findIn K (.ref C) "__setattr__" = some (some (.builtin "object.__setattr__"))
theorem Cls.get {K : PySem.W.Frag} {C : Addr} (c : Cls K C) (f : Str) : PySem.W.plainGet K C f = true := c.pg
structure Con (K : PySem.W.Frag) (C : Addr) (f : Str) (v : V) (u : Value) : Prop where
  at_ : PySem.W.findIn K (.ref C) f = some (some u)
  rel : RelV v u
  get : PySem.W.specialIn K u "__get__" = some none
  cp : PySem.W.copiedNames.contains f = false
structure Meth (K : PySem.W.Frag) (C : Addr) (m : Str) (f : Addr) : Prop where
  at_ : PySem.W.findIn K (.ref C) m = some (some (.ref f))
  fn : PySem.W.isFn K (.ref f) = true
  kp : PySem.W.keepIn K (.ref f) = true
section
variable {X : Cx} {pins : List (Addr × Obj)} {σ : St} {H : Hp} {s : Shared} {a C dx : Addr} {fs : List (Str × V)} {f : Str} {v : V} {A : Around} {E : Value → Shared → Prop}
end
section
variable {X : Cx} {o e value : Expr} {f : Str} {pos pos' tpos : Pos} {ta tv : TE}
end
section
variable {X : Cx} {pins : List (Addr × Obj)} {σ : St} {H : Hp} {s : Shared} {A : Around} {E : Value → Shared → Prop} {Q : Value → Shared → Prop} {c : Value} {b : Bool}
inductive TyOf (K : PySem.W.Frag) (H : Hp) : V→Value→Prop where
  | non : TyOf K H .non (.type "NoneType")
  | bl (x : Bool) : TyOf K H (.bl x) (.type "bool")
  | int (i : Int) : TyOf K H (.int i) (.type "int")
  | str (x : Str) : TyOf K H (.str x) (.type "str")
  | flt (x : UInt64) : TyOf K H (.flt x) (.type "float")
  | lst {a : Addr} {xs : List V} (e : H a = some (.lst xs)) : TyOf K H (.ref a) (.type "list")
  | frz {a : Addr} {o : Obj} {xs : List V} (e : H a = some (.frz o (.lst xs))) : TyOf K H (.ref a) (.type "list")
  | tup {a : Addr} {xs : List V} (e : H a = some (.tup xs)) : TyOf K H (.ref a) (.type "tuple")
  | dK {a : Addr} {kvs : List (Key × V)} (e : H a = some (.dK kvs)) : TyOf K H (.ref a) (.type "dict")
  | dT {a : Addr} {kvs : List (List Key × V)} (e : H a = some (.dT kvs)) : TyOf K H (.ref a) (.type "dict")
  | ins {a C dx : Addr} {fs : List (Str × V)} (e : H a = some (.ins C dx fs)) (cl : Cls K C) (ha : PySem.W.findIn K (.ref C) "__class__" = some (some (.builtin "object.__class__")))
      (hn : PySem.W.specialIn K (.builtin "object.__class__") "__get__" = some (some (.builtin "getset_descriptor.__get__"))) (htk : PySem.W.takesIn K (.builtin "object.__class__") = some true)
      (hm : PySem.W.mroIn K C (.type "object") = some true) : TyOf K H (.ref a) (.ref C)
end
end L2
namespace L2
open PySem PySem.Spec PyProof.Rows
structure Room (k : Nat) (A : Around) : Prop where
  hd : A.handled = none
  dp : A.depth + 3 * k + 5 < recursionLimit
  un : A.units + 16 * k + 200 < cLine
theorem Room.mono {j k : Nat} {A : Around} (r : Room k A) (h : j≤k) : Room j A := ⟨r.hd,by have := r.dp; omega,by have := r.un; omega⟩
theorem Room.deeper {k : Nat} {A : Around} (r : Room (k + 1) A) (env : Env) : Room k (A.deeper env) :=
  ⟨r.hd,by have := r.dp; show A.depth + 1 + 3 * k + 5 < _; omega,by have := r.un; show A.units + 3 + 16 * k + 200 < _; omega⟩
theorem Room.depth {k : Nat} {A : Around} (r : Room k A) : A.depth < recursionLimit := by have := r.dp; omega
theorem Room.units {k : Nat} {A : Around} (r : Room k A) : A.units + 64 < cLine := by have := r.un; omega
noncomputable def tNil : TA := fun _ H Q => Q [] H
noncomputable def zqo (ta : TE) (tr : TA) : TA := fun σ H Q => ta σ H fun x H1 => tr σ H1 fun xs H2 => Q (x::xs) H2
section
variable {X : Cx} {e : Expr} {es : List Expr} {te : TE} {t : TA} {pos : Pos}
theorem zdW : PA X [] tNil := fun _ _ _ _ H Q I h => Calls.spliced_nil ⟨[],H,I,.nil,h⟩
theorem zbJ (ha : PE X e te) (hr : PA X es t) (hs : starEach (e::es) X.env = (false,eval e X.env)::starEach es X.env := by rfl) : PA X (e::es) (zqo te t) := by
  intro pos pins s σ H Q I h
  rw [hs]
  show wpAny _ _ (spliced ((false,eval e X.env)::backTo pos (starEach es X.env))) _ _ s
  refine Calls.spliced_cons (thn (ha pins s σ H _ I h) fun u s1 ⟨x,H1,I1,r1,q1⟩ => ?_)
  exact thn (hr pos pins s1 σ H1 _ I1 q1) fun us s2 ⟨xs,H2,I2,r2,q2⟩ => ⟨x::xs,H2,I2,.cons r1 r2,q2⟩
noncomputable def tTup (t : TA) : TE := fun σ H Q => t σ H fun xs H1 => xs.length≤sizeLine∧∀ p,H1 p = none→Q (.ref p) (upd H1 p (.tup xs))
noncomputable def tLst (t : TA) : TE := fun σ H Q => t σ H fun xs H1 => xs.length≤sizeLine∧∀ p,H1 p = none→Q (.ref p) (upd H1 p (.lst xs))
theorem zoY {x1} (h : PA X es t) : PE X (.Tuple es x1 pos) (tTup t) := by
  intro pins s σ H Q I hq
  refine wpAny_Tuple_spliced (thn (h pos pins s σ H _ I hq) fun us s1 ⟨xs,H1,I1,r,z,q⟩ => ⟨by rw [← r.length]; exact z,?_⟩)
  have hf : H1 s1.heap.objs.size = none := I1.hok.fresh (Nat.le_refl _)
  refine ⟨.ref s1.heap.objs.size,upd H1 s1.heap.objs.size (.tup xs),I1.laid (t' := s1.toks) (fun b u e => Heap.get?_push_of_some _ e) (Nat.le_refl _) ?_,rfl,q _ hf⟩
  exact ⟨z,us,r,⟨_,Heap.get?_push_size _ rfl,rfl,_,rfl⟩,_,Heap.get?_push_size _ rfl,rfl⟩
theorem zo3 (h : PA X es t) : PE X (.List es pos) (tLst t) := by
  intro pins s σ H Q I hq
  refine wpAny_List_spliced (thn (h pos pins s σ H _ I hq) fun us s1 ⟨xs,H1,I1,r,z,q⟩ => ⟨by rw [← r.length]; exact z,?_⟩)
  have hf : H1 s1.heap.objs.size = none := I1.hok.fresh (Nat.le_refl _)
  refine ⟨.ref s1.heap.objs.size,upd H1 s1.heap.objs.size (.lst xs),I1.laid (t' := s1.toks) (fun b u e => Heap.get?_push_of_some _ e) (Nat.le_refl _) ?_,rfl,q _ hf⟩
  exact ⟨z,us,0,r,Heap.get?_push_size _ rfl⟩
end
noncomputable abbrev Sp := List V→Hp→VK→XK→Prop
noncomputable abbrev CXT := List Env→Hp→Shared→XK→Value→Shared→Prop
structure Env0 (P : Program) (w : World) (K : PySem.W.Frag) (mg : Str→Option Value) (base : Heap) (A : Around) (outer : List Env) (s : Shared) (H : Hp) : Prop where
  frames : A.frames = some outer
  mod : Mod K mg base
  bs : ∀ b o,base.get? b = some o→s.heap.get? b = some o∧H b = none
  bsz : base.objs.size≤s.heap.objs.size
  funs : s.heap.FunFrames base outer
  frf : ∀ b∈frs outer,H b = none
  hok : HOk P w H s.heap
  bare : AllBare s.gens
noncomputable def CE (outer : List Env) (P : Program) (w : World) (H : Hp) (s : Shared) (Q : VK) (u : Value) (s' : Shared) : Prop :=
  ∃ v H',s'.os = s.os∧AllBare s'.gens∧Un (frs outer) [] H H' s.heap s'.heap∧HOk P w H' s'.heap∧RelV v u∧Q v H'
noncomputable def CR (CX : CXT) (outer : List Env) (P : Program) (w : World) (H : Hp) (s : Shared) (Q : VK) (E : XK) (r : Result) (s' : Shared) : Prop :=
  match r with
  | .ok (.ret u) => CE outer P w H s Q u s'
  | .ok _ => False
  | .error e => CX outer H s E e s'
structure FnOk (P : Program) (w : World) (K : PySem.W.Frag) (mg : Str→Option Value) (base : Heap) (CX : CXT) (k : Nat) (f : Addr) (fd : FuncData) (ps : List Str) (sp : Sp) : Prop where
  len : ∀ vs H Q E,sp vs H Q E→vs.length = ps.length
  run : ∀ (A : Around) (outer : List Env) (s : Shared) (H : Hp) (args : Args) (us : List Value) (vs : List V) (Q : VK) (E : XK),Room k A→Env0 P w K mg base A outer s H→BindsTo s fd args (ps.zip us)→Vals vs us→sp vs H Q E →
    codeAny (model P w) A (.call (.ref f) args) (CR CX outer P w H s Q E) s
section
variable {X : Cx} {pins : List (Addr × Obj)} {σ : St} {H : Hp} {s s' : Shared}
theorem Inv.env0 (I : Inv X pins σ H s) : Env0 X.prog X.w X.K X.mg X.base X.A X.stack s H :=
  ⟨I.ok.frames,I.ok.mod,I.bs,Nat.le_trans I.ok.bsz I.sz,I.stack,I.stkFree,I.hok,I.bare⟩
theorem Inv.after {Q : VK} {u : Value} (I : Inv X pins σ H s) (h : CE X.stack X.prog X.w H s Q u s') : EP X pins σ Q u s' := by
  obtain ⟨v,H',os,bare,un,hok,r,q⟩ := h
  obtain ⟨hh,g,d,t,os'⟩ := s'
  obtain rfl : os' = s.os := os
  exact ⟨v,H',I.call (h' := hh) (g' := g) (d' := d) (t' := t) (ch := []) un hok bare (fun b z => absurd z (by simp)),r,q⟩
end
noncomputable def zqp (sp : Sp) (dvs : List V) (E : XK) (t : TA) : TE := fun σ H Q => t σ H fun vs H1 => sp (vs++dvs) H1 Q E
noncomputable def zh6 (K : PySem.W.Frag) (fd : FuncData) (ps : List Str) (ds : List Value) : Prop :=
  ∀ (s : Shared) (us : List Value),K.In s.heap→(us++ds).length = ps.length→BindsTo s fd ⟨us,[]⟩ (ps.zip (us++ds))
theorem zh6.all {K : PySem.W.Frag} {fd : FuncData} {ps : List Str} (h : ∀ us : List Value,us.length = ps.length→bindArgs fd ⟨us,[]⟩ = pure (ps.zip us)) : zh6 K fd ps [] := fun s us _ hl => by
  rw [List.append_nil] at hl ⊢
  exact .of_eq (h us hl)
noncomputable def zlf (CX : CXT) (X : Cx) (E : XK) : Prop := ∀ (pins : List (Addr × Obj)) (σ : St) (H : Hp) (s : Shared) (e : Value) (s' : Shared),Inv X pins σ H s→CX X.stack H s E e s'→X.xe e s'
section
variable {X : Cx} {CX : CXT} {k : Nat} {f C : Addr} {fd : FuncData} {ps : List Str} {sp : Sp} {dvs : List V} {ds : List Value} {E : XK} {x m : Str} {p pos apos : Pos} {e o : Expr} {es : List Expr} {ta : TE} {t : TA}
theorem zoI {pins : List (Addr × Obj)} {σ : St} {H : Hp} {s : Shared} {Q : VK} {us : List Value} {vs : List V} (F : FnOk X.prog X.w X.K X.mg X.base CX k f fd ps sp) (hr : Room k X.A) (hb : zh6 X.K fd ps ds) (hd : Vals dvs ds) (hx : zlf CX X E)
    (I : Inv X pins σ H s) (r : Vals vs us) (h : sp (vs++dvs) H Q E) : wpAny (model X.prog X.w) X.A (call (.ref f) us) (EP X pins σ Q) X.xe s := by
  have r2 : Vals (vs++dvs) (us++ds) := r.append hd
  have hl : (us++ds).length = ps.length := by rw [← r2.length]; exact F.len _ _ _ _ h
  refine wpAny_call (codeAny_mono (F.run X.A X.stack s H ⟨us,[]⟩ (us++ds) (vs++dvs) Q E hr I.env0 (hb s us I.kIn hl) r2 h) fun r s' hq => ?_)
  cases r with
  | error e => exact hx pins σ H s e s' I hq
  | ok fl =>
    cases fl with
    | ret u => exact I.after hq
    | next => exact False.elim hq
    | brk => exact False.elim hq
    | cont => exact False.elim hq
theorem znt (F : FnOk X.prog X.w X.K X.mg X.base CX k f fd ps sp) (hr : Room k X.A) (hg : Gl X x) (hm : X.mg x = some (.ref f)) (hk : PySem.W.keepIn X.K (.ref f) = true) (hb : zh6 X.K fd ps ds) (hd : Vals dvs ds) (hx : zlf CX X E)
    (ha : PA X (e::es) t) (hdb : (x == ("__debug__" : Str)) = false := by decide) (he : starEach (e::es) X.env = (false,eval e X.env)::starEach es X.env := by rfl) (hpl : (backTo pos (starEach es X.env)).any (·.1) = false := by rfl) :
    PE X (.Call (.Name x p) (e::es) [] pos) (zqp sp dvs E t) := by
  intro pins s σ H Q I h
  refine wpAny_Call_Name_kw (znQ I hg hm ?_ hdb)
  refine PySem.W.callWith_K (h₀ := X.base) I.ok.mod.kin hk (thn (ha pos pins s σ H _ I h) fun us s1 ⟨vs,H1,I1,r,q⟩ => ⟨I1.kIn,?_⟩) he hpl
  exact zoI F hr hb hd hx I1 r q
structure Mk (K : PySem.W.Frag) (C f : Addr) : Prop where
  makes : PySem.W.makesIn K C = true
  init : PySem.W.findIn K (.ref C) "__init__" = some (some (.ref f))
  fn : PySem.W.isFn K (.ref f) = true
  kp : PySem.W.keepIn K (.ref C) = true
end
section
variable {X : Cx} {CX : CXT} {k : Nat} {f C : Addr} {fd : FuncData} {ps ks : List Str} {sp : Sp} {E : XK} {x m : Str} {p pos apos kpos : Pos} {e o : Expr} {es : List Expr} {kws : List Keyword} {te ta : TE} {t tk : TA} {nm : Option Str}
structure KBinds (K : PySem.W.Frag) (fd : FuncData) (ps ks : List Str) (g : List Value→List Value→List Value) (gV : List V→List V→List V) : Prop where
  to : ∀ (s : Shared) (us ws : List Value),K.In s.heap→(g us ws).length = ps.length→BindsTo s fd ⟨us,ks.zip ws⟩ (ps.zip (g us ws))
  rel : ∀ {vs : List V} {us : List Value} {zs : List V} {ws : List Value},Vals vs us→Vals zs ws→Vals (gV vs zs) (g us ws)
variable {g : List Value → List Value → List Value} {gV : List V → List V → List V}
end
structure FnScope (N P : List Str) (sc : Scope) : Prop where
  kind : sc.kind = .function
  co : sc.isCoroutine = false
  gen : sc.isGenerator = false
  nd : N.Nodup
  pre : N.take P.length = P
  par : ∀ x∈P,sc.names.lookup x = some .local∨sc.names.lookup x = some .cell
  nofree : ∀ y∈sc.names,y.2≠.free
theorem zhr {kindOf : Str→Option NameKind} {x : Str} : ∀ {binds : List (Str × Value)} {m : Str→Option Value},(∀ v,(x,v)∉binds)→bindL kindOf binds m x = m x
  | [],_,_ => rfl
  | (n,v)::r,m,h => by
    unfold bindL
    rw [zhr fun w hw => h w (List.mem_cons_of_mem _ hw)]
    split
    · have : x≠n := by rintro rfl; exact h v List.mem_cons_self
      simp [this]
    · rfl
theorem zht {kindOf : Str→Option NameKind} {x : Str} : ∀ {binds : List (Str × Value)} {m : Str→Option Value},(∀ v,(x,v)∉binds)→bindC kindOf binds m x = m x
  | [],_,_ => rfl
  | (n,v)::r,m,h => by
    unfold bindC
    rw [zht fun w hw => h w (List.mem_cons_of_mem _ hw)]
    split
    · rfl
    · have : x≠n := by rintro rfl; exact h v List.mem_cons_self
      simp [this]
theorem zhs {kindOf : Str→Option NameKind} {x : Str} {v : Value} : ∀ {P : List Str} {vs : List Value} {i : Nat} {m : Str→Option Value},P.Nodup→P[i]? = some x→vs[i]? = some v→kindOf x = some .local →
    bindL kindOf (P.zip vs) m x = some v
  | [],_,_,_,_,h,_,_ => by simp at h
  | _::_,[],_,_,_,_,h,_ => by simp at h
  | p::P,w::vs,0,m,nd,h1,h2,hk => by
    simp at h1 h2; subst h1; subst h2
    show bindL kindOf ((p,w)::P.zip vs) m p = _
    unfold bindL
    rw [zhr fun v hv => (List.nodup_cons.mp nd).1 (List.of_mem_zip hv).1,if_pos hk]
    simp
  | p::P,w::vs,i + 1,m,nd,h1,h2,hk => by
    show bindL kindOf ((p,w)::P.zip vs) m x = _
    unfold bindL
    exact zhs (i := i) (List.nodup_cons.mp nd).2 (by simpa using h1) (by simpa using h2) hk
theorem zhu {kindOf : Str→Option NameKind} {x : Str} {v : Value} : ∀ {P : List Str} {vs : List Value} {i : Nat} {m : Str→Option Value},P.Nodup→P[i]? = some x→vs[i]? = some v→kindOf x≠some .local →
    bindC kindOf (P.zip vs) m x = some v
  | [],_,_,_,_,h,_,_ => by simp at h
  | _::_,[],_,_,_,_,h,_ => by simp at h
  | p::P,w::vs,0,m,nd,h1,h2,hk => by
    simp at h1 h2; subst h1; subst h2
    show bindC kindOf ((p,w)::P.zip vs) m p = _
    unfold bindC
    rw [zht fun v hv => (List.nodup_cons.mp nd).1 (List.of_mem_zip hv).1,if_neg hk]
    simp
  | p::P,w::vs,i + 1,m,nd,h1,h2,hk => by
    show bindC kindOf ((p,w)::P.zip vs) m x = _
    unfold bindC
    exact zhu (i := i) (List.nodup_cons.mp nd).2 (by simpa using h1) (by simpa using h2) hk
noncomputable def start (N : List Str) (vs : List V) : St := vs.map some++List.replicate (N.length - vs.length) none
noncomputable def cxOf (CX : CXT) (P : Program) (w : World) (K : PySem.W.Frag) (mg : Str→Option Value) (base : Heap) (N : List Str) (qual : Str) (scope : Scope) (f : Addr) (cd : Value) (A : Around) (outer : List Env) (s : Shared) (H : Hp) (E : XK) : Cx where
  prog := P
  w := w
  K := K
  mg := mg
  base := base
  A := A.deeper (envOfC qual scope s.heap.objs.size f cd)
  N := N
  s₀ := s
  H₀ := H
  env := envOfC qual scope s.heap.objs.size f cd
  outer := outer
  stack := envOfC qual scope s.heap.objs.size f cd::outer
  ex := []
  calm := true
  fn := fun _ => true
  pn := []
  xe := fun e s' => wpAny (model P w) (A.deeper (envOfC qual scope s.heap.objs.size f cd)) (leaving (envOfC qual scope s.heap.objs.size f cd) e) (fun _ s'' => CX outer H s E e s'') (fun e' s'' => CX outer H s E e' s'') s'
theorem ziF {sc : Scope} {n : Nat} {x : Str} (h : sc.names.lookup x = some .cell) : ∃ c,(cellsFrom n sc.names []).lookup x = some c := by
  have q := PySem.W.cellsFrom_some sc.names n [] (.inl h)
  exact Option.isSome_iff_exists.mp q
theorem zku {CX : CXT} {P : Program} {w : World} {K : PySem.W.Frag} {mg : Str→Option Value} {base : Heap} {N ps : List Str} {qual : Str} {scope : Scope} {f : Addr} {cd : Value} {A : Around} {outer : List Env} {s s1 : Shared} {H : Hp} {E : XK} {us : List Value} {vs : List V}
    (S : FnScope N ps scope) (hd : A.handled = none) (e0 : Env0 P w K mg base A outer s H) (hl : vs.length = ps.length) (r : Vals vs us)
    (x : InCallC s s.heap.objs.size (bindL (envOfC qual scope s.heap.objs.size f cd).kindOf (ps.zip us) fun _ => none) (cellsFrom (s.heap.objs.size + 1) scope.names []) (bindC (envOfC qual scope s.heap.objs.size f cd).kindOf (ps.zip us) fun _ => none) s1) :
    Inv (cxOf CX P w K mg base N qual scope f cd A outer s H E) [] (start N vs) H s1 := by
  have hpl : ps.length≤N.length := by have := congrArg List.length S.pre; rw [List.length_take] at this; omega
  obtain ⟨h1,tk,rfl,hk⟩ := x.done
  have noA : ∀ b : Addr,b∉(cxOf CX P w K mg base N qual scope f cd A outer s H E).ex := fun b z => absurd (show b∈([] : List Addr) from z) (by simp)
  refine ⟨⟨e0.mod,S.kind,rfl,rfl,Nat.le_refl _,fun y z c h1 h2 => ?_,fun y hy => ?_,fun y c _ h => ?_,fun _ => hd,Around.frames_deeper e0.frames,.inr ⟨rfl,rfl⟩,fun b z => absurd z (noA b),e0.bs,e0.bsz,fun b _ _ => noA b,fun b z => absurd z (noA b),e0.funs,e0.frf⟩,
    rfl,e0.bare,Un.kept hk,⟨_,x.toInCall.ns,fun i y v h1 h2 h3 => ?_⟩,fun y c h => ⟨_,x.cell y c h⟩,e0.hok.fresh (Nat.le_refl _),fun y c h => ?_,fun p hp => absurd (show p∈([] : List (Addr × Obj)) from hp) (by simp),e0.hok.kept hk,?_⟩
  · exact name_of_addr x.apart (PySem.mem_of_lookup h1) (PySem.mem_of_lookup h2)
  · have hy : scope.names.lookup y = some .cell∨scope.names.lookup y = some .free := hy
    rcases hy with hy | hy
    · exact ziF hy
    · exact absurd rfl (S.nofree _ (PySem.mem_of_lookup hy))
  · exact Nat.le_of_lt (x.above y c (PySem.mem_of_lookup h))
  · have hi : i < vs.length := by
      unfold start at h2
      by_cases hi : i < vs.length
      · exact hi
      · rw [List.getElem?_append_right (by simpa using hi)] at h2
        rw [List.getElem?_replicate] at h2
        split at h2 <;> cases h2
    have ha : vs[i]? = some v := by
      unfold start at h2
      rw [List.getElem?_append_left (by simpa using hi),List.getElem?_map] at h2
      cases e : vs[i]? with
      | none => rw [e] at h2; cases h2
      | some a => rw [e] at h2; cases h2; rfl
    obtain ⟨u,hu,rv⟩ := r.get ha
    have hp : ps[i]? = some y := by
      rw [← S.pre,List.getElem?_take_of_lt (by omega)]; exact h1
    have ndP : ps.Nodup := by rw [← S.pre]; exact S.nd.sublist (List.take_sublist _ _)
    refine ⟨u,rv,?_⟩
    rcases S.par y (List.mem_of_getElem? hp) with k | k
    · exact .inl ⟨k,zhs ndP hp hu k⟩
    · obtain ⟨c,e⟩ := ziF (n := s.heap.objs.size + 1) k
      refine .inr ⟨.inl k,c,e,?_⟩
      have q := x.cell y c e
      rw [zhu ndP hp hu (by show scope.names.lookup y≠_; rw [k]; decide)] at q
      exact q
  · exact e0.hok.fresh (Nat.le_of_lt (x.above y c (PySem.mem_of_lookup h)))
  · unfold start
    show _ = N.length
    rw [List.length_append,List.length_map,List.length_replicate]
    omega
theorem zq1 {CX : CXT} {P : Program} {w : World} {K : PySem.W.Frag} {mg : Str→Option Value} {base : Heap} {k : Nat} {f : Addr} {name qual : Str} {params : Arguments} {body : List Stmt} {scope : Scope} {dV kV doc pm cdv ct oc : Value} {an od : Option Addr}
    {osl : Array (Option Value)} {N ps : List Str} {sp : Sp} (lk : K.lookup f = some ⟨oc,od,.func (PySem.W.fnOf name qual params body scope dV kV doc pm an cdv ct),osl⟩) (hcd : PySem.W.codeIn K cdv qual = true) (S : FnScope N ps scope)
    (len : ∀ vs H Q E,sp vs H Q E→vs.length = ps.length)
    (hbody : ∀ (A : Around) (outer : List Env) (s : Shared) (H : Hp) (vs : List V) (Q : VK) (E : XK),Room k (A.deeper (envOfC qual scope s.heap.objs.size f cdv))→sp vs H Q E →
      ∃ t,PSs (cxOf CX P w K mg base N qual scope f cdv A outer s H E) body t∧t { nx := fun _ H' => Q .non H',rt := Q } (start N vs) H) :
    FnOk P w K mg base CX (k + 1) f (PySem.W.fnOf name qual params body scope dV kV doc pm an cdv ct) ps sp := by
  refine ⟨len,fun A outer s H args us vs Q E hr e0 hb r hsp => ?_⟩
  have hl := len _ _ _ _ hsp
  have KX : K.In s.heap := e0.mod.kin.keeps fun b o e => (e0.bs b o e).1
  have lim : s.heap.NoLimit := e0.mod.nolimit.keeps fun b o e => (e0.bs b o e).1
  have hkind : ∀ y∈ps.zip us,scope.names.lookup y.1 = some .local∨(scope.names.lookup y.1 = some .cell∧((cellsFrom (s.heap.objs.size + 1) scope.names []).lookup y.1).isSome = true) := fun ⟨n,v⟩ hy => by
    rcases S.par n (List.of_mem_zip hy).1 with q | q
    · exact .inl q
    · exact .inr ⟨q,PySem.W.cellsFrom_some _ _ _ (.inl q)⟩
  refine codeAny_call_function hr.depth (KX _ _ lk) rfl S.co S.gen rfl (PySem.W.codeRec_of KX hcd) (hb _ _ _ _ ?_)
  refine wpAny_newFunctionEnv_cells S.kind hkind fun env he s1 x => ?_
  subst he
  refine ⟨lim.keeps x.toInCall.keep,codeAny_func ?_⟩
  obtain ⟨t,ht,hq⟩ := hbody A outer s H vs Q E (hr.deeper _) hsp
  have I : Inv (cxOf CX P w K mg base N qual scope f cdv A outer s H E) [] (start N vs) H s1 := zku S hr.hd e0 hl r x
  refine wpAny_mono (ht [] s1 (start N vs) H _ I hq) (fun fl s' hs => ?_) fun e s' hs => hs
  have fin : ∀ {σ' : St} {H' : Hp} {v : V} {u : Value},Inv (cxOf CX P w K mg base N qual scope f cdv A outer s H E) [] σ' H' s'→RelV v u→Q v H'→CE outer P w H s Q u s' :=
    fun {σ' H' v u} J rv q => ⟨v,H',J.os,J.bare,J.base,J.hok,rv,q⟩
  cases fl with
  | ret u =>
    obtain ⟨v,σ',H',J,rv,q⟩ := hs
    exact fin J rv q
  | next =>
    obtain ⟨σ',H',J,q⟩ := hs
    exact fin (v := V.non) (u := Value.none) J rfl q
  | brk =>
    obtain ⟨_,_,_,q⟩ := hs
    exact False.elim q
  | cont =>
    obtain ⟨_,_,_,q⟩ := hs
    exact False.elim q
end L2
namespace L2
open PySem PySem.Spec PyProof.Rows
section
variable {X : Cx} {x : Str} {p pos : Pos} {e : Expr} {es : List Expr} {t : TA} {id T : String} {r : List V → Hp → VK → Prop}
noncomputable def tCB (r : List V→Hp→VK→Prop) (t : TA) : TE := fun σ H Q => t σ H fun vs H1 => r vs H1 Q
theorem zej (hc : zdk X (.builtin id) r) (hg : Gl X x) (hm : X.mg x = none) (hv : bootBuiltins x = some (.builtin id)) (ha : PA X (e::es) t) (hn : x≠"__name__" := by decide) (hdb : (x == ("__debug__" : Str)) = false := by decide)
    (he : starEach (e::es) X.env = (false,eval e X.env)::starEach es X.env := by rfl) (hpl : (backTo pos (starEach es X.env)).any (·.1) = false := by rfl) : PE X (.Call (.Name x p) (e::es) [] pos) (tCB r t) := by
  intro pins s σ H Q I h
  refine wpAny_Call_Name_kw (zfU I hg hm hv ?_ hn hdb)
  exact PyProof.Rows.callWith_builtin1 (thn (ha pos pins s σ H _ I h) fun us s1 ⟨vs,H1,I1,r1,q1⟩ => hc pins s1 σ H1 vs us Q I1 r1 q1) he hpl
theorem zcY (hc : zdk X (.type T) r) (hg : Gl X x) (hm : X.mg x = none) (hv : bootBuiltins x = some (.type T)) (ha : PA X (e::es) t) (hn : x≠"__name__" := by decide) (hdb : (x == ("__debug__" : Str)) = false := by decide)
    (he : starEach (e::es) X.env = (false,eval e X.env)::starEach es X.env := by rfl) (hpl : (backTo pos (starEach es X.env)).any (·.1) = false := by rfl) : PE X (.Call (.Name x p) (e::es) [] pos) (tCB r t) := by
  intro pins s σ H Q I h
  refine wpAny_Call_Name_kw (zfU I hg hm hv ?_ hn hdb)
  exact PyProof.Rows.callWith_type1 (thn (ha pos pins s σ H _ I h) fun us s1 ⟨vs,H1,I1,r1,q1⟩ => hc pins s1 σ H1 vs us Q I1 r1 q1) he hpl
end
end L2
namespace HT
open PySem PyProof.Rows
noncomputable def lexLt : List Int→List Int→Bool
  | [],[] => false
  | [],_::_ => true
  | _::_,[] => false
  | x::xs,y::ys => if x = y then lexLt xs ys else decide (x < y)
theorem lexLt_cons (x y : Int) (xs ys : List Int) : lexLt (x::xs) (y::ys) = if x = y then lexLt xs ys else decide (x < y) := rfl
theorem lexLt_nil_nil : lexLt [] [] = false := rfl
theorem lexLt_nil_cons (y : Int) (ys : List Int) : lexLt [] (y::ys) = true := rfl
theorem lexLt_cons_nil (x : Int) (xs : List Int) : lexLt (x::xs) [] = false := rfl
theorem eqAt_int (A : Around) (s : Shared) (a : Int) (t : Tok) (c : Int) (u : Tok) : ∃ e,SeqAt.EqAt A s (.int a t) (.int c u) e∧(e = true↔a = c) :=
  ⟨(a == c),SeqAt.EqAt.int_int a t c u,by simp⟩
theorem rcLt_int (A : Around) (s : Shared) (a : Int) (t : Tok) (c : Int) (u : Tok) (prog : Program) (w : World) (E : Value→Shared→Prop) (Q : Value→Shared→Prop) (h : Q (.bool (decide (a < c))) s) :
    wpAny (model prog w) A (richCompare .Lt (.int a t) (.int c u)) Q E s :=
  (PyProof.Rows.lt_int h : wpAny (model prog w) A (compareOp .Lt (.int a t) (.int c u)) Q E s)
section
open PySem.SeqAt
open PySem.AutoSeq1 (wpAny_loadPart')
open PySem.MeetsSeq PySem.MeetsSeq2 PySem.MeetsSeq3
end
section
variable {prog : Program} {w : World} {A : Around} {E : Value → Shared → Prop} {s : Shared}
theorem cat_tup {t b : Addr} {vs ws : List Value} {Q : Value→Shared→Prop} (ht : IsTup s.heap t vs.toArray) (hb : IsTup s.heap b ws.toArray) (hv : vs≠[])
    (h1 : ws = []→Q (.ref t) s) (h2 : ws≠[]→Q (.ref s.heap.objs.size) { s with heap := s.heap.push { cls := .type "tuple",data := .seq (vs++ws).toArray } })
    (hsz : vs.length + ws.length≤sizeLine) : wpAny (model prog w) A (binaryOp .Add (.ref t) (.ref b)) Q E s := by
  obtain ⟨⟨cls,dd,data,sl⟩,ho,hc,n,hd⟩ := id ht
  obtain ⟨⟨cls2,dd2,data2,sl2⟩,ho2,hc2,n2,hd2⟩ := id hb
  simp only at hc hd hc2 hd2
  subst hc hd hc2 hd2
  have e : vs.toArray++ws.toArray = (vs++ws).toArray := by simp
  by_cases hw : ws = []
  · exact concat_meets ⟨_,ho,rfl⟩ ⟨_,ho2,rfl⟩ noFill_tuple_add seq_tuple_add PySem.F.slot_tuple_add PySem.F.entry_tuple_add (PySem.F.args_tuple_add_2 _ _)
      (tuple_addW1 t b vs.toArray ws.toArray n n2 dd dd2 sl sl2 (by simpa using hv) (by simp [hw])) ⟨ho,ho2,h1 hw⟩
  · refine concat_meets ⟨_,ho,rfl⟩ ⟨_,ho2,rfl⟩ noFill_tuple_add seq_tuple_add PySem.F.slot_tuple_add PySem.F.entry_tuple_add (PySem.F.args_tuple_add_2 _ _)
      (tuple_addW2 t b vs.toArray ws.toArray n n2 dd dd2 sl sl2 (by simpa using hv) (by simpa using hw) (by rw [List.size_toArray,List.size_toArray]; exact hsz)) ⟨ho,ho2,?_⟩
    rw [e]
    exact h2 hw
noncomputable def sIx (n d : Nat) : Option Int→Nat
  | none => d
  | some v => if v < 0 then (v + (n : Int)).toNat else min v.toNat n
theorem sIx_none (n d : Nat) : sIx n d none = d := rfl
theorem sIx_nat (n d k : Nat) : sIx n d (some (k : Int)) = min k n := by
  show (if (k : Int) < 0 then ((k : Int) + (n : Int)).toNat else min (k : Int).toNat n) = min k n
  rw [if_neg (by omega),Int.toNat_natCast]
theorem zoH (n d : Nat) (hd : d≤n) (o : Option Int) : sIx n d o≤n := by
  cases o with
  | none => exact hd
  | some v =>
    show (if v < 0 then (v + (n : Int)).toNat else min v.toNat n)≤n
    by_cases hv : v < 0
    · rw [if_pos hv]; omega
    · rw [if_neg hv]; exact Nat.min_le_right _ _
theorem zkY (v : Int) (n d : Nat) : (if v < 0 then max (v + (n : Int)) 0 else min v (n : Int)) = ((sIx n d (some v) : Nat) : Int) := by
  show (if v < 0 then max (v + (n : Int)) 0 else min v (n : Int)) = (((if v < 0 then (v + (n : Int)).toNat else min v.toNat n) : Nat) : Int)
  by_cases hv : v < 0
  · simp only [if_pos hv]; omega
  · simp only [if_neg hv]; omega
theorem zjg (lo hi : Option Int) (n : Nat) : Builtin.Slice.sliceAdjust lo hi 1 (n : Int) = (((sIx n 0 lo : Nat) : Int),((sIx n n hi : Nat) : Int)) := by
  have h1 : ¬ ((1 : Int) < 0) := by omega
  unfold Builtin.Slice.sliceAdjust
  simp only [h1,if_false]
  refine Prod.ext ?_ ?_
  · cases lo with
    | none => rfl
    | some v => exact zkY v n 0
  · cases hi with
    | none => rfl
    | some v => exact zkY v n n
theorem zi2 (i j : Nat) : Builtin.Slice.slicePlaces (i : Int) (j : Int) 1 = j - i := by
  unfold Builtin.Slice.slicePlaces
  have h1 : (1 : Int) > 0 := by omega
  simp only [h1,if_true,Int.ediv_one]
  split <;> omega
theorem zfM {v : Value} {o : Option Int} {Q : Option Int→Shared→Prop} (p : IsPart v o) (h : Q o s) : wpAny (model prog w) A (Builtin.Slice.slicePartIndex v) Q E s := by
  cases p with
  | none => exact slicePart_none h
  | int i t => exact slicePart_int h
theorem sliceApplied_gen {sl : Addr} {vl vu : Value} {lo hi : Option Int} {n : Nat} {Q : Int × Int × Nat→Shared→Prop} (hs : s.heap.IsSliceOf sl vl vu .none) (pl : IsPart vl lo) (pu : IsPart vu hi)
    (h : Q (((sIx n 0 lo : Nat) : Int),1,sIx n n hi - sIx n 0 lo) s) : wpAny (model prog w) A (Builtin.Slice.sliceApplied (.ref sl) (pure (n : Int))) Q E s := by
  obtain ⟨os,hos,hcs,hds⟩ := id hs
  unfold Builtin.Slice.sliceApplied Builtin.Slice.sliceFields
  refine wpAny_bind (wpAny_bind (wpAny_field hos hds (x := vl) rfl (wpAny_bind (wpAny_field hos hds (x := vu) rfl (wpAny_bind (wpAny_field hos hds (x := .none) rfl (wpAny_pure ?_)))))))
  refine wpAny_bind (slicePart_none ?_)
  show wpAny _ _ (if ((1 : Int) == 0) = true then _ else _) _ _ s
  rw [if_neg (by decide)]
  refine wpAny_bind (zfM pl (wpAny_bind (zfM pu (wpAny_bind (wpAny_pure ?_)))))
  show wpAny _ _ (match Builtin.Slice.sliceAdjust lo hi 1 (n : Int) with | (lo,hi) => pure (lo,(1 : Int),Builtin.Slice.slicePlaces lo hi 1)) _ _ s
  rw [zjg lo hi n]
  show wpAny _ _ (pure (((sIx n 0 lo : Nat) : Int),(1 : Int),Builtin.Slice.slicePlaces ((sIx n 0 lo : Nat) : Int) ((sIx n n hi : Nat) : Int) 1)) _ _ s
  rw [zi2]
  exact wpAny_pure h
theorem zlL (xs : Array Value) (i k : Nat) : ((List.range k).filterMap fun (m : Nat) => xs[((i : Int) + (m : Int) * 1).toNat]?).toArray = ((xs.toList.drop i).take k).toArray := by
  have e : (fun (m : Nat) => xs[((i : Int) + (m : Int) * 1).toNat]?) = fun m => xs[i + m]? := by
    funext m
    have : ((i : Int) + (m : Int) * 1).toNat = i + m := by omega
    rw [this]
  rw [e]
  have := pick_run xs i k
  rw [List.filterMap_map] at this
  have e2 : ((fun x => xs[x]?) ∘ fun x => i + x) = fun m => xs[i + m]? := rfl
  rw [e2] at this
  rw [this]
theorem getItem_tuple_cut {t sl : Addr} {items : Array Value} {vl vu : Value} {lo hi : Option Int} {Q : Value→Shared→Prop} (ht : IsTup s.heap t items) (hs : s.heap.IsSliceOf sl vl vu .none) (pl : IsPart vl lo) (pu : IsPart vu hi)
    (hw : ¬ (sIx items.size 0 lo = 0∧sIx items.size items.size hi = items.size))
    (h : Q (.ref s.heap.objs.size) { s with heap := s.heap.push { cls := .type "tuple",data := .seq ((items.toList.drop (sIx items.size 0 lo)).take (sIx items.size items.size hi - sIx items.size 0 lo)).toArray } })
    (hsz : items.size≤sizeLine) : wpAny (model prog w) A (getItem (.ref t) (.ref sl)) Q E s := by
  have htake : sizeOk (.seq ((items.toList.drop (sIx items.size 0 lo)).take (sIx items.size items.size hi - sIx items.size 0 lo)).toArray) := by
    show ((items.toList.drop (sIx items.size 0 lo)).take (sIx items.size items.size hi - sIx items.size 0 lo)).toArray.size≤sizeLine
    rw [List.size_toArray,List.length_take,List.length_drop,Array.length_toList]
    omega
  have hj : sIx items.size items.size hi≤items.size := zoH _ _ (Nat.le_refl _) hi
  obtain ⟨os,hos,hcs,hds⟩ := id hs
  have hTs : s.TypeIs (.ref sl) "slice" := ⟨os,hos,hcs⟩
  unfold getItem
  try with_reducible refine wpAny_holding ?_
  first | refine wpAny_bind (wpAny_pure ?_) | skip
  refine wpAny_bind (wpAny_sequenceKey ht.typeIs (by decide) ?_)
  refine wpAny_bind (wpAny_callSpecial?_slot (name := Str.ofString "__getitem__") ht.typeIs PyProof.Rows.slot_tuple_getitem
    (wpAny_call_entry PyProof.Rows.slot_tuple_getitem ht.typeIs entry_tuple_getitem ?_ (args_tuple_getitem _ _)))
  show wpAny _ _ (Builtin.Tuple.tupleItemsOf (.ref t) >>= _) _ _ s
  refine wpAny_bind (tupleItemsOf_ ht ?_)
  refine wpAny_bind (wpAny_typeOf hTs ?_)
  rw [if_pos (by decide)]
  refine wpAny_bind (sliceApplied_gen hs pl pu ?_)
  have hno : ¬ ((((sIx items.size 0 lo : Nat) : Int) == 0 && (1 : Int) == 1 && (sIx items.size items.size hi - sIx items.size 0 lo) == items.size) = true) := by
    intro q
    rw [Bool.and_eq_true,Bool.and_eq_true] at q
    have q1 : ((sIx items.size 0 lo : Nat) : Int) = 0 := eq_of_beq q.1.1
    have q2 : sIx items.size items.size hi - sIx items.size 0 lo = items.size := eq_of_beq q.2
    exact hw ⟨by omega,by omega⟩
  show wpAny _ _ (if (((sIx items.size 0 lo : Nat) : Int) == 0 && (1 : Int) == 1 && (sIx items.size items.size hi - sIx items.size 0 lo) == items.size) = true then _ else _) _ _ s
  rw [if_neg hno,zlL]
  first
    | exact wpAny_bind (m := Builtin.Tuple.tupleExact _) (wpAny_newObj_type (wpAny_pure ⟨_,rfl,wpAny_pure h⟩) htake)
    | exact wpAny_bind (m := Builtin.Tuple.tupleExact _) (wpAny_newObj_type (wpAny_bind (wpAny_pure (wpAny_pure ⟨_,rfl,wpAny_pure h⟩))) htake)
    | exact wpAny_bind (wpAny_bind (m := Builtin.Tuple.tupleExact _) (wpAny_newObj_type (wpAny_pure (wpAny_pure ⟨_,rfl,wpAny_pure h⟩)) htake))
    | exact wpAny_bind (wpAny_bind (m := Builtin.Tuple.tupleExact _) (wpAny_newObj_type (wpAny_pure ⟨_,rfl,wpAny_pure h⟩) htake))
end
end HT
namespace L2
open PySem PySem.Spec PyProof.Rows
noncomputable abbrev TO := St→Hp→(Option Int→Hp→Prop)→Prop
noncomputable def PO (X : Cx) (e : Option Expr) (t : TO) : Prop :=
  ∀ (pins : List (Addr × Obj)) (s : Shared) (σ : St) (H : Hp) (Q : Option Int→Hp→Prop),Inv X pins σ H s→t σ H Q →
    wpAny (model X.prog X.w) X.A (evalPart e X.env) (fun u s' => ∃ o H',Inv X pins σ H' s'∧IsPart u o∧Q o H') X.xe s
noncomputable def zm2 : TO := fun _ H Q => Q none H
noncomputable def zqk (t : TE) : TO := fun σ H Q => t σ H fun x H1 => ∃ i,x = .int i∧Q (some i) H1
theorem zex {ns : List Int} : ∀ {us : List Value},Vals (ns.map V.int) us→IntsAre us ns := by
  induction ns with
  | nil => intro us r; rw [List.map_nil] at r; cases r; exact .nil
  | cons n ns ih =>
    intro us r
    rw [List.map_cons] at r
    cases r with
    | cons r1 r2 =>
      obtain ⟨t,e⟩ := r1
      subst e
      exact .cons n t (ih r2)
section
variable {X : Cx} {e : Expr} {te : TE} {lo hi : Option Expr} {tl th : TO} {pos p2 : Pos}
theorem zno : PO X none zm2 := by
  intro pins s σ H Q I h
  rw [evalPart_none]
  exact wpAny_pure ⟨none,H,I,.none,h⟩
theorem znn (h : PE X e te) : PO X (some e) (zqk te) := by
  intro pins s σ H Q I hw
  rw [evalPart_some]
  refine thn (h pins s σ H _ I hw) fun u s1 ⟨x,H1,I1,r1,q1⟩ => ?_
  obtain ⟨i,rfl,q⟩ := q1
  obtain ⟨t,rfl⟩ := r1
  exact ⟨some i,H1,I1,.int i t,q⟩
noncomputable def SlR (X : Cx) (r : V→Option Int→Option Int→Hp→VK→Prop) : Prop :=
  ∀ (pins : List (Addr × Obj)) (s : Shared) (σ : St) (H : Hp) (x : V) (v vl vu : Value) (lo hi : Option Int) (sl : Addr) (Q : VK),Inv X pins σ H s→RelV x v→s.heap.IsSliceOf sl vl vu .none→IsPart vl lo→IsPart vu hi→r x lo hi H Q →
    ∃ T id,typeLookup (.type T) "__getitem__" = pure (some (.builtin id))∧s.TypeIs v T∧wpAny (model X.prog X.w) X.A (getItem v (.ref sl)) (EP X pins σ Q) X.xe s
theorem SlR.or {r r' : V→Option Int→Option Int→Hp→VK→Prop} (h : SlR X r) (h' : SlR X r') : SlR X (fun x lo hi H Q => r x lo hi H Q∨r' x lo hi H Q) := by
  intro pins s σ H x v vl vu lo hi sl Q I rx hs pl pu q
  rcases q with q | q
  · exact h pins s σ H x v vl vu lo hi sl Q I rx hs pl pu q
  · exact h' pins s σ H x v vl vu lo hi sl Q I rx hs pl pu q
noncomputable def tSl (r : V→Option Int→Option Int→Hp→VK→Prop) (te : TE) (tl th : TO) : TE := fun σ H Q => te σ H fun x H1 => tl σ H1 fun l H2 => th σ H2 fun u H3 => r x l u H3 Q
theorem zlN {r : V→Option Int→Option Int→Hp→VK→Prop} (hr : SlR X r) (he : PE X e te) (hl : PO X lo tl) (hu : PO X hi th) : PE X (.Subscript e (.Slice lo hi none p2) pos) (tSl r te tl th) := by
  intro pins s σ H Q I h
  refine Subscript_ (thn (he pins s σ H _ I h) fun v s1 ⟨x,H1,I1,r1,q1⟩ => ?_)
  refine wpAny_Slice (thn (hl pins s1 σ H1 _ I1 q1) fun vl s2 ⟨l,H2,I2,pl,q2⟩ => thn (hu pins s2 σ H2 _ I2 q2) fun vu s3 ⟨u,H3,I3,pu,q3⟩ => ?_)
  rw [evalPart_none]
  refine wpAny_pure ?_
  have I4 : Inv X pins σ H3 { s3 with heap := s3.heap.push { cls := .type "slice",data := .fields #[vl,vu,.none] } } := I3.kept (t' := s3.toks) fun b ob q => Heap.get?_push_of_some _ q
  obtain ⟨T,id,hT,ht,hg⟩ := hr pins { s3 with heap := s3.heap.push { cls := .type "slice",data := .fields #[vl,vu,.none] } } σ H3 x v vl vu l u s3.heap.objs.size Q I4 r1 (Heap.IsSliceOf.new ..) pl pu q3
  show wpAny (model X.prog X.w) X.A (subscriptTail e (.Slice lo hi none p2) v (.ref s3.heap.objs.size)) (EP X pins σ Q) X.xe { s3 with heap := s3.heap.push { cls := .type "slice",data := .fields #[vl,vu,.none] } }
  exact tail_any (ops := [.ref s3.heap.objs.size,v]) ht hT hg (by with_unfolding_all rfl)
noncomputable def cutV (xs : List V) (lo hi : Option Int) : List V := (xs.drop (HT.sIx xs.length 0 lo)).take (HT.sIx xs.length xs.length hi - HT.sIx xs.length 0 lo)
theorem zfr (xs : List V) (lo hi : Option Int) : (cutV xs lo hi).length≤xs.length := by
  unfold cutV
  rw [List.length_take,List.length_drop]
  omega
noncomputable def rSlT (K : PySem.W.Frag) : V→Option Int→Option Int→Hp→VK→Prop := fun x lo hi H Q => ∃ a xs,x = .ref a∧SqT K H a xs ∧
  ¬ (HT.sIx xs.length 0 lo = 0∧HT.sIx xs.length xs.length hi = xs.length)∧∀ p,H p = none→Q (.ref p) (upd H p (.tup (cutV xs lo hi)))
theorem zoz : SlR X (rSlT X.K) := by
  intro pins s σ H x v vl vu lo hi sl Q I rx hs pl pu h
  obtain ⟨a,xs,rfl,hx,hw,q⟩ := h
  cases rx
  obtain ⟨its,r,ht,hz⟩ := I.tuple hx
  have hlen : its.toArray.size = xs.length := by rw [List.size_toArray]; exact r.length.symm
  refine ⟨"tuple",_,PyProof.Rows.slot_tuple_getitem.lookup,ht.typeIs,?_⟩
  refine HT.getItem_tuple_cut ht hs pl pu (by rw [hlen]; exact hw) ?_ (by rw [hlen]; exact hz)
  rw [hlen]
  refine ⟨.ref s.heap.objs.size,_,I.laid (t' := s.toks) (o := .tup (cutV xs lo hi)) (fun b ob q => Heap.get?_push_of_some _ q) (Nat.le_refl _) ?_,rfl,q _ (I.hok.fresh (Nat.le_refl _))⟩
  exact ⟨Nat.le_trans (zfr xs lo hi) hz,_,(r.drop (HT.sIx xs.length 0 lo)).take (HT.sIx xs.length xs.length hi - HT.sIx xs.length 0 lo),IsTup.new _ _,_,Heap.get?_push_size _ rfl,rfl⟩
noncomputable def znh (K : PySem.W.Frag) : R2 := fun x y H Q => ∃ a b xs ys,x = .ref a∧y = .ref b∧SqT K H a xs∧SqT K H b ys∧xs≠[]∧xs.length + ys.length≤sizeLine ∧
  (ys = []→Q (.ref a) H)∧(ys≠[]→∀ p,H p = none→Q (.ref p) (upd H p (.tup (xs++ys))))
theorem Vals.nil_iff {xs : List V} {us : List Value} (r : Vals xs us) : us = []↔xs = [] := by
  cases r with
  | nil => simp
  | cons _ _ => simp
theorem zjT : OpR X (binaryOp .Add) (znh X.K) := by
  intro pins s σ H x y v u Q I rx ry h
  obtain ⟨a,b,xs,ys,rfl,rfl,ha,hb,hx,hz,q1,q2⟩ := h
  cases rx
  cases ry
  obtain ⟨its,r1,p1,_⟩ := I.tuple ha
  obtain ⟨its2,r2,p2,_⟩ := I.tuple hb
  refine HT.cat_tup p1 p2 (fun z => hx (r1.nil_iff.mp z)) (fun z => ⟨.ref a,H,I,rfl,q1 (r2.nil_iff.mp z)⟩) (fun z => ?_) (by rw [← r1.length,← r2.length]; exact hz)
  refine ⟨.ref s.heap.objs.size,_,I.laid (t' := s.toks) (o := .tup (xs++ys)) (fun b ob q => Heap.get?_push_of_some _ q) (Nat.le_refl _) ?_,rfl,q2 (fun w => z (r2.nil_iff.mpr w)) _ (I.hok.fresh (Nat.le_refl _))⟩
  exact ⟨by rw [List.length_append]; exact hz,_,r1.append r2,IsTup.new _ _,_,Heap.get?_push_size _ rfl,rfl⟩
end
end L2
namespace L2
open PySem PySem.Spec PyProof.Rows
noncomputable def ixN (n : Nat) (i : Int) : Option Nat := if 0≤i then (if i < n then some i.toNat else none) else if -(n : Int)≤i then some (i + n).toNat else none
noncomputable def atI {α : Type} (xs : List α) (i : Int) : Option α := (ixN xs.length i).bind fun j => xs[j]?
theorem zko {n : Nat} {i : Int} {j : Nat} (h : ixN n i = some j) : seqIndex? i n = some j∧j < n∧-(n : Int)≤i∧i < n := by
  unfold ixN at h
  by_cases h0 : 0≤i
  · rw [if_pos h0] at h
    by_cases h1 : i < n
    · rw [if_pos h1] at h
      have e : i.toNat = j := Option.some.inj h
      exact ⟨by rw [seqIndex_of h0 h1,e],by omega,by omega,h1⟩
    · rw [if_neg h1] at h; cases h
  · rw [if_neg h0] at h
    by_cases h1 : -(n : Int)≤i
    · rw [if_pos h1] at h
      have e : (i + n).toNat = j := Option.some.inj h
      exact ⟨by rw [seqIndex_neg (by omega) h1,e],by omega,h1,by omega⟩
    · rw [if_neg h1] at h; cases h
theorem zh3 {α : Type} {xs : List α} {i : Int} {v : α} (h : atI xs i = some v) : ∃ j,seqIndex? i xs.length = some j∧xs[j]? = some v∧j < xs.length∧-(xs.length : Int)≤i∧i < xs.length := by
  unfold atI at h
  cases e : ixN xs.length i with
  | none => rw [e] at h; cases h
  | some j =>
    rw [e] at h
    obtain ⟨h1,h2,h3,h4⟩ := zko e
    exact ⟨j,h1,h,h2,h3,h4⟩
noncomputable def zle (b : Expr) : Prop := ∀ o i,subscripted b false o i = operate [o,i] (getItem o i)
noncomputable def IxR (X : Cx) (r : R2) : Prop :=
  ∀ (value slice : Expr) (pins : List (Addr × Obj)) (s : Shared) (σ : St) (H : Hp) (x y : V) (v u : Value) (Q : VK),Inv X pins σ H s→RelV x v→RelV y u→r x y H Q →
    subscripted slice false v u = operate [v,u] (getItem v u)→wpAny (model X.prog X.w) X.A (subscriptTail value slice v u) (EP X pins σ Q) X.xe s
noncomputable def MtR (X : Cx) (id : String) (r : V→List V→Hp→VK→Prop) : Prop :=
  ∀ (pins : List (Addr × Obj)) (s : Shared) (σ : St) (H : Hp) (x : V) (xs : List V) (v : Value) (us : List Value) (Q : VK),Inv X pins σ H s→RelV x v→Vals xs us→r x xs H Q →
    wpAny (model X.prog X.w) X.A (call (.builtin id) (v::us)) (EP X pins σ Q) X.xe s
section
variable {X : Cx} {a b : Expr} {ta tb : TE} {pos : Pos}
theorem IxR.or {r r' : R2} (h : IxR X r) (h' : IxR X r') : IxR X (fun x y H Q => r x y H Q∨r' x y H Q) := by
  intro value slice pins s σ H x y v u Q I rx ry q hs
  rcases q with q | q
  · exact h value slice pins s σ H x y v u Q I rx ry q hs
  · exact h' value slice pins s σ H x y v u Q I rx ry q hs
theorem zqG {r : R2} (hr : IxR X r) (ha : PE X a ta) (hb : PE X b tb) (hs : zle b) : PE X (.Subscript a b pos) (tOp r ta tb) := by
  intro pins s σ H Q I h
  exact Subscript_ (binT ha hb I h fun v u s2 x y H2 I2 rx ry q => hr a b pins s2 σ H2 x y v u Q I2 rx ry q (hs _ _))
noncomputable def rIxL (K : PySem.W.Frag) : R2 := fun x y H Q => ∃ p xs i v,x = .ref p∧y = .int i∧SqL K H p xs∧atI xs i = some v∧Q v H
noncomputable def rIxT (K : PySem.W.Frag) : R2 := fun x y H Q => ∃ p xs i v,x = .ref p∧y = .int i∧SqT K H p xs∧atI xs i = some v∧Q v H
noncomputable def rIxS : R2 := fun x y H Q => ∃ z i c,x = .str z∧y = .int i∧z.length≤sizeLine∧atI z.cps.toList i = some c∧Q (.str ⟨#[c]⟩) H
theorem znV : IxR X (rIxL X.K) := by
  intro value slice pins s σ H x y v u Q I rx ry h hs
  obtain ⟨p,xs,i,z,rfl,rfl,hq,he,q⟩ := h
  cases rx
  obtain ⟨t,rfl⟩ := ry
  obtain ⟨its,r,pl,hz⟩ := I.list hq
  obtain ⟨j,h1,h2,h3,h4,h5⟩ := zh3 he
  obtain ⟨w,ew,rw'⟩ := r.get h2
  have hl := r.length
  have hn := zfT
  have fin : EP X pins σ Q w s := ⟨z,H,I,rw',q⟩
  by_cases h0 : 0≤i
  · have hj : i.toNat = j := by
      rw [seqIndex_of h0 h5] at h1
      exact Option.some.inj h1
    exact item_listR pl.isList h0 (by omega) (by rw [hj]; simpa using ew) fin hs
  · have hj : (i + (its.toArray.size : Int)).toNat = j := by
      rw [seqIndex_neg (by omega) h4] at h1
      rw [List.size_toArray,← hl]
      exact Option.some.inj h1
    exact subscriptTail_builtinR (x := w) pl.isList.typeIs slot_list_getitem.lookup
      (wpAny_getItem_list_neg (Q := fun r s' => r = w∧EP X pins σ Q r s') pl.isList (by omega) (by rw [List.size_toArray] <;> omega) (by omega) (by rw [hj]; simpa using ew) ⟨rfl,fin⟩) hs
theorem zpC : IxR X (rIxT X.K) := by
  intro value slice pins s σ H x y v u Q I rx ry h hs
  obtain ⟨p,xs,i,z,rfl,rfl,hq,he,q⟩ := h
  cases rx
  obtain ⟨t,rfl⟩ := ry
  obtain ⟨its,r,pl,hz⟩ := I.tuple hq
  obtain ⟨j,h1,h2,h3,h4,h5⟩ := zh3 he
  obtain ⟨w,ew,rw'⟩ := r.get h2
  have hl := r.length
  have hn := zfT
  have fin : EP X pins σ Q w s := ⟨z,H,I,rw',q⟩
  exact subscriptTail_builtinR (x := w) pl.typeIs slot_tuple_getitem.lookup
    (getItem_tuple (j := j) (Q := fun r s' => r = w∧EP X pins σ Q r s') pl (by omega) (by omega) (by rw [List.size_toArray,← hl]; exact h1) (by simpa using ew) ⟨rfl,fin⟩) hs
theorem zpD : IxR X rIxS := by
  intro value slice pins s σ H x y v u Q I rx ry h hs
  obtain ⟨z,i,c,rfl,rfl,hz,he,q⟩ := h
  obtain ⟨t,rfl⟩ := rx
  obtain ⟨t',rfl⟩ := ry
  obtain ⟨j,h1,h2,h3,h4,h5⟩ := zh3 he
  have hl : z.cps.toList.length = z.length := by simp [Str.length]
  rw [hl] at h1 h4 h5
  have hn := zfT
  exact tail_any (typeIs_str s z t) slot_str_getitem.lookup (getItem_str (c := c) (by
    have e1 : decide (i < -(2 ^ 63 : Int)) = false := decide_eq_false (by omega)
    have e2 : decide (i ≥ 2 ^ 63) = false := decide_eq_false (by omega)
    rw [e1,e2,Bool.or_false]) (by rw [h1]; simpa using h2) ⟨.str ⟨#[c]⟩,H,I.tok _,⟨_,rfl⟩,q⟩) hs
noncomputable def rIx (K : PySem.W.Frag) : R2 := fun x y H Q => rIxL K x y H Q∨rIxT K x y H Q∨rIxS x y H Q
theorem zpE : IxR X (rIx X.K) := znV.or (zpC.or zpD)
theorem zi4 (its : List Value) (n j : Nat) (u : Value) : Obj.mapSeq (·.setIfInBounds j u) { cls := .type "list",data := .seq its.toArray n } = { cls := .type "list",data := .seq (its.set j u).toArray n } := by
  simp [Obj.mapSeq]
theorem Inv.lst {pins : List (Addr × Obj)} {σ : St} {H : Hp} {s : Shared} {p : Addr} {xs : List V} (I : Inv X pins σ H s) (h : H p = some (.lst xs)) :
    ∃ (its : List Value) (n : Nat),Vals xs its∧s.heap.get? p = some { cls := .type "list",data := .seq its.toArray n }∧xs.length≤sizeLine := by
  obtain ⟨z,its,n,r,e⟩ := I.hok p _ h
  exact ⟨its,n,r,e,z⟩
theorem Inv.lstUpd {pins : List (Addr × Obj)} {σ : St} {H : Hp} {s : Shared} {p : Addr} {xs ys : List V} {its its' : List Value} {n n' : Nat} {f : Obj→Obj} (I : Inv X pins σ H s) (h : H p = some (.lst xs))
    (ho : s.heap.get? p = some { cls := .type "list",data := .seq its.toArray n }) (hf : f { cls := .type "list",data := .seq its.toArray n } = { cls := .type "list",data := .seq its'.toArray n' }) (r : Vals ys its') (hz : ys.length≤sizeLine) (t : Nat) :
    Inv X pins σ (upd H p (.lst ys)) { s with heap := s.heap.update p f,toks := t } := by
  have e : (s.heap.update p f).get? p = some { cls := .type "list",data := .seq its'.toArray n' } := by
    rw [Heap.get?_update_self f ho (by rw [hf] <;> rfl),hf]
  refine I.write (x := p) (e := p) (by rw [h]; trivial) (.inl rfl) (fun b u hb q => (Heap.get?_update_other _ _ (Ne.symm hb)).trans q) ⟨_,e⟩ ?_
  exact ⟨hz,its',n',r,e⟩
noncomputable def zoL : V→V→V→Hp→(Hp→Prop)→Prop := fun o i v H Q => ∃ p xs k j,o = .ref p∧i = .int k∧H p = some (.lst xs)∧ixN xs.length k = some j∧Q (upd H p (.lst (xs.set j v)))
theorem zlt : PSet X zoL := by
  intro pins s σ H o i v ov iv u Q I ro ri rv h
  obtain ⟨p,xs,k,j,rfl,rfl,hp,hj,q⟩ := h
  cases ro
  obtain ⟨t,rfl⟩ := ri
  obtain ⟨its,n,r,ho,hz⟩ := I.lst hp
  obtain ⟨h1,h2,h3,h4⟩ := zko hj
  have hl := r.length
  have hn := zfT
  have I' : Inv X pins σ (upd H p (.lst (xs.set j v))) { s with heap := s.heap.update p (Obj.mapSeq (·.setIfInBounds j u)) } :=
    I.lstUpd hp ho (zi4 its n j u) (r.set rv j) (by rw [List.length_set]; exact hz) s.toks
  by_cases h0 : 0≤k
  · have hk : k.toNat = j := by
      rw [seqIndex_of h0 h4] at h1
      exact Option.some.inj h1
    exact PySem.W.ki_setAt ho h0 (by omega) (by rw [List.size_toArray,← hl]; exact h4) (by rw [hk]; exact ⟨_,I',q⟩)
  · have hk : (k + (its.toArray.size : Int)).toNat = j := by
      rw [seqIndex_neg (by omega) h3] at h1
      rw [List.size_toArray,← hl]
      exact Option.some.inj h1
    exact PySem.W.ki_setBack ho (by omega) (by rw [List.size_toArray,← hl]; exact h3) (by omega) (by rw [hk]; exact ⟨_,I',q⟩)
theorem zgM (lo hi : Option Int) (n : Nat) : (sliceBounds lo hi none n).1 = ((HT.sIx n 0 lo : Nat) : Int)∧(sliceBounds lo hi none n).2.1 = ((HT.sIx n n hi : Nat) : Int)∧(sliceBounds lo hi none n).2.2 = 1 := by
  refine ⟨?_,?_,rfl⟩
  · cases lo with
    | none => simp [sliceBounds,HT.sIx]
    | some i =>
      simp only [sliceBounds,HT.sIx,Option.getD_none,show (1 : Int) > 0 by decide,if_true]
      by_cases h : i < 0
      · simp only [h,if_true] <;> omega
      · simp only [h,if_false] <;> omega
  · cases hi with
    | none => simp [sliceBounds,HT.sIx]
    | some i =>
      simp only [sliceBounds,HT.sIx,Option.getD_none,show (1 : Int) > 0 by decide,if_true]
      by_cases h : i < 0
      · simp only [h,if_true] <;> omega
      · simp only [h,if_false] <;> omega
theorem zf6 (its : List Value) (lo hi : Option Int) : slicePick its.toArray lo hi none = ((its.drop (HT.sIx its.length 0 lo)).take (HT.sIx its.length its.length hi - HT.sIx its.length 0 lo)).toArray := by
  obtain ⟨h1,h2,h3⟩ := zgM lo hi its.toArray.size
  unfold slicePick
  rw [h1,h2,h3]
  simp only [sliceRange_one,pick_run,List.size_toArray] <;> rfl
noncomputable def rSlL (K : PySem.W.Frag) : V→Option Int→Option Int→Hp→VK→Prop := fun x lo hi H Q => ∃ a xs,x = .ref a∧SqL K H a xs∧∀ p,H p = none→Q (.ref p) (upd H p (.lst (cutV xs lo hi)))
theorem zm4 : SlR X (rSlL X.K) := by
  intro pins s σ H x v vl vu lo hi sl Q I rx hs pl pu h
  obtain ⟨a,xs,rfl,hx,q⟩ := h
  cases rx
  obtain ⟨its,r,ht,hz⟩ := I.list hx
  have hlen := r.length
  refine ⟨"list",_,slot_list_getitem.lookup,ht.isList.typeIs,?_⟩
  refine wpAny_getItem_list_slice ht.isList hs pl pu .none (by simp) ?_ (by rw [List.size_toArray] <;> omega)
  rw [zf6,← hlen]
  refine ⟨.ref s.heap.objs.size,_,I.laid (t' := s.toks) (o := .lst (cutV xs lo hi)) (fun b ob q => Heap.get?_push_of_some _ q) (Nat.le_refl _) ?_,rfl,q _ (I.hok.fresh (Nat.le_refl _))⟩
  exact ⟨Nat.le_trans (zfr xs lo hi) hz,_,0,(r.drop (HT.sIx xs.length 0 lo)).take (HT.sIx xs.length xs.length hi - HT.sIx xs.length 0 lo),Heap.get?_push_size _ rfl⟩
noncomputable def zdv : V→Bool
  | .non => true
  | .bl _ => true
  | .int _ => true
  | .str _ => true
  | _ => false
noncomputable def eqV : V→V→Bool
  | .non,.non => true
  | .bl a,.bl b => a == b
  | .bl a,.int b => (if a then 1 else 0) == b
  | .int a,.bl b => a == (if b then 1 else 0)
  | .int a,.int b => a == b
  | .str a,.str b => a == b
  | _,_ => false
theorem zp2 {A : Around} {s : Shared} {y x : V} {u v : Value} (ry : RelV y u) (rx : RelV x v) (fy : zdv y = true) (fx : zdv x = true) : SeqAt.EqAt A s u v (eqV y x) := by
  cases y with
  | non =>
    cases ry
    cases x with
    | non => cases rx; exact SeqAt.EqAt.same _
    | bl b => cases rx; exact SeqAt.EqAt.none_bool b
    | int b => obtain ⟨t,rfl⟩ := rx; exact SeqAt.EqAt.none_int b t
    | str b => obtain ⟨t,rfl⟩ := rx; exact SeqAt.EqAt.none_str b t
    | _ => exact absurd (show false = true from fx) Bool.false_ne_true
  | bl a =>
    cases ry
    cases x with
    | non => cases rx; exact SeqAt.EqAt.bool_none a
    | bl b => cases rx; exact SeqAt.EqAt.bool_bool a b
    | int b => obtain ⟨t,rfl⟩ := rx; exact SeqAt.EqAt.bool_int a b t
    | str b => obtain ⟨t,rfl⟩ := rx; exact SeqAt.EqAt.bool_str a b t
    | _ => exact absurd (show false = true from fx) Bool.false_ne_true
  | int a =>
    obtain ⟨t',rfl⟩ := ry
    cases x with
    | non => cases rx; exact SeqAt.EqAt.int_none a t'
    | bl b => cases rx; exact SeqAt.EqAt.int_bool a t' b
    | int b => obtain ⟨t,rfl⟩ := rx; exact SeqAt.EqAt.int_int a t' b t
    | str b => obtain ⟨t,rfl⟩ := rx; exact SeqAt.EqAt.int_str a t' b t
    | _ => exact absurd (show false = true from fx) Bool.false_ne_true
  | str a =>
    obtain ⟨t',rfl⟩ := ry
    cases x with
    | non => cases rx; exact SeqAt.EqAt.str_none a t'
    | bl b => cases rx; exact SeqAt.EqAt.str_bool a t' b
    | int b => obtain ⟨t,rfl⟩ := rx; exact SeqAt.EqAt.str_int a t' b t
    | str b => obtain ⟨t,rfl⟩ := rx; exact SeqAt.EqAt.str_str a t' b t
    | _ => exact absurd (show false = true from fx) Bool.false_ne_true
  | _ => exact absurd (show false = true from fy) Bool.false_ne_true
noncomputable def eqU (x : V) (u : Value) : Bool := match u with
  | .none => eqV .non x
  | .bool b => eqV (.bl b) x
  | .int i _ => eqV (.int i) x
  | .str z _ => eqV (.str z) x
  | _ => false
theorem ziB {x y : V} {u : Value} (r : RelV y u) (f : zdv y = true) : eqU x u = eqV y x := by
  cases y with
  | non => cases r; rfl
  | bl b => cases r; rfl
  | int i => obtain ⟨t,rfl⟩ := r; rfl
  | str z => obtain ⟨t,rfl⟩ := r; rfl
  | _ => exact absurd (show false = true from f) Bool.false_ne_true
theorem zfu {x : V} : ∀ {xs : List V} {us : List Value},Vals xs us→xs.all zdv = true→us.any (eqU x) = xs.any fun y => eqV y x
  | _,_,.nil,_ => rfl
  | y::xs,u::us,.cons r t,f => by
    rw [List.all_cons,Bool.and_eq_true] at f
    rw [List.any_cons,List.any_cons,ziB r f.1,zfu t f.2]
theorem zda {A : Around} {s : Shared} {x : V} {v : Value} (rx : RelV x v) (fx : zdv x = true) : ∀ {xs : List V} {us : List Value},Vals xs us→xs.all zdv = true→∀ u∈us,SeqAt.EqAt A s u v (eqU x u)
  | _,_,.nil,_ => fun u hu => by cases hu
  | y::xs,u::us,.cons r t,f => fun u' hu => by
    rw [List.all_cons,Bool.and_eq_true] at f
    rcases List.mem_cons.mp hu with rfl | hu
    · rw [ziB r f.1]; exact zp2 r rx f.1 fx
    · exact zda rx fx t f.2 u' hu
noncomputable def inV (x : V) (xs : List V) : Bool := xs.any fun y => eqV y x
noncomputable def rIn (K : PySem.W.Frag) (neg : Bool) : R2 := fun x y H Q => ∃ p xs,y = .ref p∧(SqL K H p xs∨SqT K H p xs)∧zdv x = true∧xs.all zdv = true∧Q (.bl (if neg then !inV x xs else inV x xs)) H
theorem zjS : OpR X (compareOp .In) (rIn X.K false) := by
  intro pins s σ H x y v u Q I rx ry h
  obtain ⟨p,xs,rfl,hq,fx,fs,q⟩ := h
  cases ry
  rcases hq with hq | hq
  · obtain ⟨its,r,pl,hz⟩ := I.list hq
    refine SeqAt.in_listAt (eqU x) pl.isList (fun w hw => zda rx fx r fs w (by simpa using hw)) ⟨.bl _,H,I,rfl,?_⟩
    rw [show its.toArray.any (eqU x) = its.any (eqU x) by simp,zfu r fs]
    exact q
  · obtain ⟨its,r,pl,hz⟩ := I.tuple hq
    refine SeqAt.in_tupleAt (eqU x) pl (fun w hw => zda rx fx r fs w (by simpa using hw)) ⟨.bl _,H,I,rfl,?_⟩
    rw [show its.toArray.any (eqU x) = its.any (eqU x) by simp,zfu r fs]
    exact q
theorem zg0 : OpR X (compareOp .NotIn) (rIn X.K true) := by
  intro pins s σ H x y v u Q I rx ry h
  obtain ⟨p,xs,rfl,hq,fx,fs,q⟩ := h
  cases ry
  rcases hq with hq | hq
  · obtain ⟨its,r,pl,hz⟩ := I.list hq
    refine SeqAt.notIn_listAt (eqU x) pl.isList (fun w hw => zda rx fx r fs w (by simpa using hw)) ⟨.bl _,H,I,rfl,?_⟩
    rw [show its.toArray.any (eqU x) = its.any (eqU x) by simp,zfu r fs]
    exact q
  · obtain ⟨its,r,pl,hz⟩ := I.tuple hq
    refine SeqAt.notIn_tupleAt (eqU x) pl (fun w hw => zda rx fx r fs w (by simpa using hw)) ⟨.bl _,H,I,rfl,?_⟩
    rw [show its.toArray.any (eqU x) = its.any (eqU x) by simp,zfu r fs]
    exact q
theorem zgZ : OpR X (compareOp .NotIn) (fun x y H Q => ∃ i j,x = .str i∧y = .str j∧Q (.bl (!(!(Builtin.Str.occurrences j i 0 j.length 1).isEmpty))) H) := by
  intro pins s σ H x y v u Q I rx ry h
  obtain ⟨i,j,rfl,rfl,q⟩ := h
  obtain ⟨t,rfl⟩ := rx
  obtain ⟨t',rfl⟩ := ry
  exact notIn_str ⟨.bl _,H,I,rfl,q⟩
theorem zdk.or {f : Value} {r r' : List V→Hp→VK→Prop} (h : zdk X f r) (h' : zdk X f r') : zdk X f (fun xs H Q => r xs H Q∨r' xs H Q) := by
  intro pins s σ H xs us Q I rs q
  rcases q with q | q
  · exact h pins s σ H xs us Q I rs q
  · exact h' pins s σ H xs us Q I rs q
theorem zhq : zdk X (.type "list") (fun xs H Q => ∃ p ys,xs = [.ref p]∧(SqL X.K H p ys∨SqT X.K H p ys)∧∀ l,H l = none→Q (.ref l) (upd H l (.lst ys))) := by
  intro pins s σ H xs us Q I r h
  obtain ⟨p,ys,rfl,hq,q⟩ := h
  obtain ⟨u,rfl,rx⟩ := zea r
  cases rx
  have fin : ∀ (its : List Value),Vals ys its→ys.length≤sizeLine→∀ (h' : Heap) (c' : Nat),(∀ b o',s.heap.get? b = some o'→h'.get? b = some o') →
      h'.get? s.heap.objs.size = some { cls := .type "list",dict := none,data := .seq its.toArray c',slots := #[] }→EP X pins σ Q (.ref s.heap.objs.size) { s with heap := h' } := fun its r' hz h' c' kp e =>
    ⟨.ref s.heap.objs.size,_,I.laid (t' := s.toks) kp (Nat.le_refl _) (show zaZ X.prog X.w _ h' _ (.lst ys) from ⟨hz,its,c',r',e⟩),rfl,q _ (I.hok.fresh (Nat.le_refl _))⟩
  rcases hq with hq | hq
  · obtain ⟨its,r',pl,hz⟩ := I.list hq
    have hlen := r'.length
    obtain ⟨o,ho,hc,n,hd⟩ := pl.isList
    exact call_list_seq p (.inl rfl) ho hc hd (fun h' c' kp e => fin its r' hz h' c' kp e) (by simp only [List.size_toArray] <;> omega)
  · obtain ⟨its,r',pl,hz⟩ := I.tuple hq
    have hlen := r'.length
    obtain ⟨o,ho,hc,n,hd⟩ := pl
    exact call_list_seq p (.inr rfl) ho hc hd (fun h' c' kp e => fin its r' hz h' c' kp e) (by simp only [List.size_toArray] <;> omega)
theorem zgs : zdk X (.type "tuple") (fun xs H Q => ∃ p ys,xs = [.ref p]∧((SqL X.K H p ys∧∀ l,H l = none→Q (.ref l) (upd H l (.tup ys)))∨(SqT X.K H p ys∧Q (.ref p) H))) := by
  intro pins s σ H xs us Q I r h
  obtain ⟨p,ys,rfl,h⟩ := h
  obtain ⟨u,rfl,rx⟩ := zea r
  cases rx
  rcases h with ⟨hq,q⟩ | ⟨hq,q⟩
  · obtain ⟨its,r',pl,hz⟩ := I.list hq
    have hlen := r'.length
    refine call_tuple_list pl.isList (fun h' kp => ?_) (by simp only [List.size_toArray] <;> omega)
    have I1 : Inv X pins σ H { s with heap := h' } := I.kept (t' := s.toks) kp
    have I2 : Inv X pins σ (upd H h'.objs.size (.tup ys)) { s with heap := h'.push { cls := .type "tuple",data := .seq its.toArray } } :=
      I1.laid (t' := s.toks) (fun b o e => Heap.get?_push_of_some _ e) (Nat.le_refl _) (show zaZ X.prog X.w _ _ _ (.tup ys) from ⟨hz,its,r',IsTup.new _ _,_,Heap.get?_push_size _ rfl,rfl⟩)
    exact ⟨.ref h'.objs.size,_,I2,rfl,q _ (I1.hok.fresh (Nat.le_refl _))⟩
  · obtain ⟨its,r',pl,hz⟩ := I.tuple hq
    exact call_tuple_same pl ⟨.ref p,H,I,rfl,q⟩
noncomputable def tyV (K : PySem.W.Frag) (T : String) (x : V) (H : Hp) : Prop := match x with
  | .str _ => T = "str"
  | .int _ => T = "int"
  | .ref p => (T = "list"∧∃ xs,SqL K H p xs)∨(T = "tuple"∧((∃ o,K.lookup p = some o∧o.cls = .type "tuple"∧o.dict = none)∨∃ xs,Rd H p (.tup xs))) ∨
      (T = "dict"∧((∃ kvs,Rd H p (.dK kvs))∨∃ kvs,H p = some (.dT kvs)))∨(T = "set"∧∃ S n,H p = some (.set S n))
  | _ => False
theorem zoo {pins : List (Addr × Obj)} {σ : St} {H : Hp} {s : Shared} {T : String} {x : V} {v : Value} (I : Inv X pins σ H s) (r : RelV x v) (ty : tyV X.K T x H) :
    s.TypeIs v T∧∀ a,v = .ref a→∃ ob,s.heap.get? a = some ob∧ob.dict = none := by
  cases x with
  | str z =>
    obtain ⟨t,rfl⟩ := r
    cases (show T = "str" from ty)
    exact ⟨typeIs_str s z t,fun _ e => nomatch e⟩
  | int i =>
    obtain ⟨t,rfl⟩ := r
    cases (show T = "int" from ty)
    exact ⟨typeIs_int s i t,fun _ e => nomatch e⟩
  | ref p =>
    cases r
    rcases ty with ⟨rfl,xs,hq⟩ | ⟨rfl,⟨o,hk,hc,hd⟩ | ⟨xs,hq⟩⟩ | ⟨rfl,hk⟩ | ⟨rfl,S,n,hk⟩
    · obtain ⟨its,_,pl,_⟩ := I.list hq
      refine ⟨pl.isList.typeIs,fun a e => ?_⟩
      cases e
      obtain ⟨o,n,e,c,hd,_⟩ := pl
      exact ⟨o,e,hd⟩
    · refine ⟨⟨o,I.kIn p o hk,hc⟩,fun a e => ?_⟩
      cases e
      exact ⟨o,I.kIn _ o hk,hd⟩
    · obtain ⟨_,its,_,⟨o,ho,hc,_⟩,o2,ho2,hd2⟩ := hq.ok I.hok
      refine ⟨⟨o,ho,hc⟩,fun a e => ?_⟩
      cases e
      exact ⟨o2,ho2,hd2⟩
    · have z : ∃ o,s.heap.get? p = some o∧o.ExactDict := by
        rcases hk with ⟨kvs,hk⟩ | ⟨kvs,hk⟩
        · obtain ⟨_,_,_,_,o,_,_,e,ex,_⟩ := (show zaZ X.prog X.w H s.heap p (.dK kvs) from hk.ok I.hok)
          exact ⟨o,e,ex⟩
        · obtain ⟨_,_,_,_,o,_,_,e,ex,_⟩ := I.hok p _ hk
          exact ⟨o,e,ex⟩
      obtain ⟨o,e,ex⟩ := z
      refine ⟨⟨o,e,ex.1⟩,fun a e2 => ?_⟩
      cases e2
      exact ⟨o,e,ex.2.1⟩
    · obtain ⟨o,_,_,_,e,ex,_⟩ := I.hok p _ hk
      refine ⟨⟨o,e,ex.1⟩,fun a e2 => ?_⟩
      cases e2
      exact ⟨o,e,ex.2.1⟩
  | _ => exact False.elim ty
noncomputable def tBM (K : PySem.W.Frag) (T : String) (r : V→List V→Hp→VK→Prop) (to : TE) (t : TA) : TE := fun σ H Q => to σ H fun x H1 => tyV K T x H1∧t σ H1 fun xs H2 => r x xs H2 Q
variable {o e : Expr} {es : List Expr} {to : TE} {t : TA} {name : Str} {apos cpos : Pos} {T id : String} {r : V → List V → Hp → VK → Prop}
theorem zo5 (pa : PlainAttrs T) (slot : Slot T name id) (hty : typeOf (.builtin id) = pure (.type "method_descriptor")) (hm : MtR X id r) (ho : PE X o to) (ha : PA X (e::es) t)
    (hbase : attributeBase o name X.env (eval o X.env) = eval o X.env := by rfl)
    (hfew : ((backTo cpos (starEach (e::es) X.env)).all (fun x => !x.1) && (backToKw cpos (keywordEach [] X.env)).all (fun x => x.1.isSome)
      && decide ((e::es).length + ([] : List Keyword).length + (if ([] : List Keyword).isEmpty then 0 else 1) < 30)) = true := by rfl)
    (hline : (apos.endLine == cpos.line) = true := by rfl) (hs : starEach (e::es) X.env = (false,eval e X.env)::starEach es X.env := by rfl) (hplain : (backTo cpos (starEach es X.env)).any (·.1) = false := by rfl) :
    PE X (.Call (.Attribute o name apos) (e::es) [] cpos) (tBM X.K T r to t) := by
  intro pins s σ H Q I h
  refine wpAny_Call_method_late hbase hfew hline rfl (thn (ho pins s σ H _ I h) fun v s1 ⟨x,H1,I1,r1,ty,q1⟩ => ?_)
  obtain ⟨h1,h2⟩ := zoo I1 r1 ty
  refine ⟨T,id,pa,slot,hty,h1,h2,?_⟩
  have hA := ha cpos pins s1 σ H1 _ I1 q1
  rw [hs] at hA ⊢
  refine Calls.callWith_builtin (by show (false || (backTo cpos (starEach es X.env)).any (·.1)) = false; rw [hplain] <;> rfl) (Calls.evalArgs_plain ?_)
  exact thn hA fun us s2 ⟨vs,H2,I2,r2,q2⟩ => hm pins s2 σ H2 x vs v us Q I2 r1 r2 q2
end
end L2
namespace L2
open PySem PySem.Spec PyProof.Rows
noncomputable def MtM (X : Cx) (id : String) (r : V→List V→Hp→VK→Prop) : Prop :=
  ∀ (pins : List (Addr × Obj)) (s : Shared) (σ : St) (H : Hp) (x : V) (xs : List V) (v : Value) (us : List Value) (Q : VK),Inv X pins σ H s→RelV x v→Vals xs us→r x xs H Q →
    wpAny (model X.prog X.w) X.A (call (.builtin id) (v::us)) (EP X pins σ Q) X.xe s
theorem Vals.one : ∀ {x : V} {us : List Value},Vals [x] us→∃ u,us = [u]∧RelV x u
  | _,_,.cons r .nil => ⟨_,rfl,r⟩
theorem Vals.two : ∀ {x y : V} {us : List Value},Vals [x,y] us→∃ u v,us = [u,v]∧RelV x u∧RelV y v
  | _,_,_,.cons r (.cons q .nil) => ⟨_,_,rfl,r,q⟩
theorem Vals.zero : ∀ {us : List Value},Vals [] us→us = []
  | _,.nil => rfl
theorem Vals.eraseIdx : ∀ {xs : List V} {us : List Value} (i : Nat),Vals xs us→Vals (xs.eraseIdx i) (us.eraseIdx i)
  | _,_,_,.nil => .nil
  | _,_,0,.cons _ t => t
  | _,_,i + 1,.cons r t => .cons r (Vals.eraseIdx i t)
section
variable {X : Cx} {pins : List (Addr × Obj)} {σ : St} {H : Hp} {s : Shared} {l b : Addr} {xs ys zs : List V}
theorem Inv.lset {its its' : List Value} {n : Nat} {f : Array Value→Array Value} {t' : Nat} (I : Inv X pins σ H s) (hH : H l = some (.lst xs))
    (e : s.heap.get? l = some { cls := .type "list",data := .seq its.toArray n }) (hf : f its.toArray = its'.toArray) (hv : Vals ys its') (hz : ys.length≤sizeLine) :
    Inv X pins σ (upd H l (.lst ys)) { s with heap := s.heap.update l (Obj.mapSeq f),toks := t' } := by
  have q := PySem.IsL.update e f
  rw [hf] at q
  refine I.write (x := l) (e := l) (by rw [hH]; exact trivial) (.inl rfl) (fun b' u hb hu => (Heap.get?_update_other s.heap (Obj.mapSeq f) (Ne.symm hb)).trans hu) ⟨_,q⟩ ?_
  exact ⟨hz,its',_,hv,q⟩
theorem Inv.lnew {its : List Value} {t' : Nat} (I : Inv X pins σ H s) (hv : Vals ys its) (hz : ys.length≤sizeLine) :
    Inv X pins σ (upd H s.heap.objs.size (.lst ys)) { s with heap := s.heap.push { cls := .type "list",data := .seq its.toArray },toks := t' } :=
  I.laid (fun _ _ q => Heap.get?_push_of_some _ q) (Nat.le_refl _) ⟨hz,its,0,hv,Heap.get?_push_size _ rfl⟩
theorem Inv.fresh (I : Inv X pins σ H s) : H s.heap.objs.size = none := I.hok.fresh (Nat.le_refl _)
theorem Inv.lstM (I : Inv X pins σ H s) (hH : H l = some (.lst xs)) : xs.length≤sizeLine∧∃ (its : List Value) (n : Nat),Vals xs its∧xs.length = its.length∧s.heap.get? l = some { cls := .type "list",data := .seq its.toArray n } := by
  obtain ⟨z,its,n,r,e⟩ := I.hok l _ hH
  exact ⟨z,its,n,r,r.length,e⟩
end
section
variable {X : Cx}
noncomputable def zjH : V→List V→Hp→VK→Prop := fun x vs H Q => ∃ l xs y,x = .ref l∧vs = [y]∧H l = some (.lst xs)∧xs.length < sizeLine∧Q .non (upd H l (.lst (xs++[y])))
theorem zdz : MtM X "list.append" zjH := by
  intro pins s σ H x vs v us Q I rx rv h
  obtain ⟨l,xs,y,rfl,rfl,hH,hz,q⟩ := h
  cases rx
  obtain ⟨u,rfl,ru⟩ := rv.one
  obtain ⟨z,its,n,r,hl,e⟩ := I.lstM hH
  refine call_meets F.slot_list_append ⟨_,e,rfl⟩ F.entry_list_append (F.args_list_append_2 _ _) (PySem.list_append l its.toArray n u (by rw [List.size_toArray]; omega)) ⟨e,?_⟩
  refine ⟨.non,_,I.lset (its' := its++[u]) hH e (by simp) (r.append (.cons ru .nil)) ?_,rfl,q⟩
  rw [List.length_append,List.length_singleton]
  omega
end
section
variable {prog : Program} {w : World} {A : Around} {E : Value → Shared → Prop} {s : Shared}
end
section
variable {X : Cx}
end
end L2
namespace L2
open PySem PySem.Spec PyProof.Rows
section
variable {κ : Type} [DecidableEq κ]
noncomputable def valV (kvs : List (κ × V)) (k : κ) : Option V := (kvs.find? fun kv => decide (kv.1 = k)).map (·.2)
noncomputable def putK (kvs : List (κ × V)) (k : κ) (v : V) : List (κ × V) :=
  if (kvs.any fun kv => decide (kv.1 = k)) = true then kvs.map (fun kv => if kv.1 = k then (kv.1,v) else kv) else kvs++[(k,v)]
theorem zeZ {p : κ × V} {r : List (κ × V)} {k : κ} (e : p.1 = k) : valV (p::r) k = some p.2 := by simp [valV,List.find?_cons,e]
theorem zeb {p : κ × V} {r : List (κ × V)} {k : κ} (e : ¬ p.1 = k) : valV (p::r) k = valV r k := by simp [valV,List.find?_cons,e]
theorem zh8 (k : κ) : ∀ kvs : List (κ × V),(kvs.any fun kv => decide (kv.1 = k)) = (valV kvs k).isSome
  | [] => rfl
  | p::r => by
    rw [List.any_cons]
    by_cases e : p.1 = k
    · simp only [zeZ e,decide_eq_true e,Bool.true_or,Option.isSome_some]
    · rw [zeb e,decide_eq_false e,Bool.false_or]; exact zh8 k r
theorem zfk (kvs : List (κ × V)) (k : κ) (v : V) : (putK kvs k v).length≤kvs.length + 1 := by
  unfold putK
  split
  · rw [List.length_map]; omega
  · rw [List.length_append,List.length_cons,List.length_nil]; omega
theorem RelO.isSome_eq {o : Option V} {u : Option Value} (r : RelO o u) : o.isSome = u.isSome := by
  cases o with
  | none => cases u with
    | none => rfl
    | some _ => exact (show False from r).elim
  | some _ => cases u with
    | none => exact (show False from r).elim
    | some _ => rfl
theorem RelO.getD {o : Option V} {u : Option Value} {d : V} {d' : Value} (r : RelO o u) (rd : RelV d d') : RelV (o.getD d) (u.getD d') := by
  cases o with
  | none => cases u with
    | none => exact rd
    | some _ => exact (show False from r).elim
  | some _ => cases u with
    | none => exact (show False from r).elim
    | some _ => exact r
theorem KV.val {kvs : List (κ × V)} {vs : List (κ × Value)} (r : KV kvs vs) (k : κ) : RelO (valV kvs k) (valueAt vs k) := by
  unfold KV at r
  induction r with
  | nil => exact True.intro
  | @cons p q ps qs h t ih =>
    obtain ⟨h1,h2⟩ := h
    by_cases e : p.1 = k
    · have e' : q.1 = k := h1.symm.trans e
      have b : valueAt (q::qs) k = some q.2 := by simp [valueAt,List.find?_cons,e']
      rw [zeZ e,b]; exact h2
    · have e' : ¬ q.1 = k := fun z => e (h1.trans z)
      have b : valueAt (q::qs) k = valueAt qs k := by simp [valueAt,List.find?_cons,e']
      rw [zeb e,b]; exact ih
theorem KV.any {kvs : List (κ × V)} {vs : List (κ × Value)} (r : KV kvs vs) (k : κ) : (kvs.any fun kv => decide (kv.1 = k)) = vs.any fun kv => decide (kv.1 = k) := by
  unfold KV at r
  induction r with
  | nil => rfl
  | cons h t ih => rw [List.any_cons,List.any_cons,ih,h.1]
theorem KV.repl {kvs : List (κ × V)} {vs : List (κ × Value)} (r : KV kvs vs) (k : κ) {y : V} {u : Value} (ry : RelV y u) :
    KV (kvs.map fun kv => if kv.1 = k then (kv.1,y) else kv) (vs.map fun kv => if kv.1 = k then (kv.1,u) else kv) := by
  unfold KV at r ⊢
  induction r with
  | nil => exact .nil
  | @cons p q ps qs h t ih =>
    rw [List.map_cons,List.map_cons]
    refine .cons ?_ ih
    obtain ⟨h1,h2⟩ := h
    by_cases e : p.1 = k
    · rw [if_pos e,if_pos (h1.symm.trans e)]; exact ⟨h1,ry⟩
    · rw [if_neg e,if_neg (fun z => e (h1.trans z))]; exact ⟨h1,h2⟩
theorem KV.put {kvs : List (κ × V)} {vs : List (κ × Value)} (r : KV kvs vs) (k : κ) {y : V} {u : Value} (ry : RelV y u) : KV (putK kvs k y) (stored vs k u) := by
  unfold putK stored
  rw [r.any k]
  by_cases e : (vs.any fun kv => decide (kv.1 = k)) = true
  · rw [if_pos e,if_pos e]; exact r.repl k ry
  · rw [if_neg e,if_neg e]; exact Paired.snoc r ⟨rfl,ry⟩
theorem KV.length {kvs : List (κ × V)} {vs : List (κ × Value)} (r : KV kvs vs) : kvs.length = vs.length := Paired.length r
end
theorem zkn {P : Program} {w : World} {k : Key} {u : Value} (r : RelV (kV k) u) : (zbl P w).is k u = true := by
  cases k with
  | inl i => obtain ⟨t,e⟩ := (show ∃ t,u = Value.int i t from r); subst e; exact zhO P w i t
  | inr x => obtain ⟨t,e⟩ := (show ∃ t,u = Value.str x t from r); subst e; exact zhN P w x t
theorem zhd {P : Program} {w : World} : ∀ {ks : List Key} {us : List Value},Vals (ks.map kV) us→ItemsAre (zbl P w) ks us
  | [],_,r => by rw [List.map_nil] at r; cases r; exact .nil
  | k::ks,_,r => by
    rw [List.map_cons] at r
    cases r with
    | cons h t => exact .cons (zkn h) (zhd t)
noncomputable abbrev KT (H : Hp) : List (List Key × V)→List (List Key × Addr × Value)→Prop := Paired fun p q => p.1 = q.1∧H q.2.1 = some (.tup (p.1.map kV))∧RelV p.2 q.2.2
theorem KT.val {H : Hp} {kvs : List (List Key × V)} {xs : List (List Key × Addr × Value)} (r : KT H kvs xs) (k : List Key) : RelO (valV kvs k) ((atKey xs k).map (·.2)) := by
  induction r with
  | nil => exact True.intro
  | @cons p q ps qs h t ih =>
    obtain ⟨h1,_,h2⟩ := h
    by_cases e : p.1 = k
    · have e' : q.1 = k := h1.symm.trans e
      have b : atKey (q::qs) k = some q.2 := by simp [atKey,List.find?_cons,e']
      rw [zeZ e,b]; exact h2
    · have e' : ¬ q.1 = k := fun z => e (h1.trans z)
      have b : atKey (q::qs) k = atKey qs k := by simp [atKey,List.find?_cons,e']
      rw [zeb e,b]; exact ih
theorem KT.repl {H : Hp} {kvs : List (List Key × V)} {xs : List (List Key × Addr × Value)} (r : KT H kvs xs) (k : List Key) {y : V} {u : Value} (ry : RelV y u) :
    KT H (kvs.map fun kv => if kv.1 = k then (kv.1,y) else kv) (xs.map (putAt k u)) := by
  induction r with
  | nil => exact .nil
  | @cons p q ps qs h t ih =>
    rw [List.map_cons,List.map_cons]
    refine .cons ?_ ih
    obtain ⟨h1,h2,h3⟩ := h
    unfold putAt
    by_cases e : p.1 = k
    · rw [if_pos e,if_pos (h1.symm.trans e)]; exact ⟨h1,h2,ry⟩
    · rw [if_neg e,if_neg (fun z => e (h1.trans z))]; exact ⟨h1,h2,h3⟩
theorem KT.put {H : Hp} {kvs : List (List Key × V)} {xs : List (List Key × Addr × Value)} (r : KT H kvs xs) (k : List Key) {b : Addr} {y : V} {u : Value} (hb : H b = some (.tup (k.map kV))) (ry : RelV y u) :
    KT H (putK kvs k y) (storedH xs k b u) := by
  have e : (kvs.any fun kv => decide (kv.1 = k)) = (atKey xs k).isSome := by
    rw [zh8,(r.val k).isSome_eq,Option.isSome_map]
  unfold putK storedH
  rw [e]
  by_cases q : (atKey xs k).isSome = true
  · rw [if_pos q,if_pos q]; exact r.repl k ry
  · rw [if_neg q,if_neg q]; exact Paired.snoc r ⟨rfl,hb,ry⟩
theorem KT.keeps {H H' : Hp} {kvs : List (List Key × V)} {xs : List (List Key × Addr × Value)} (r : KT H kvs xs) (ht : ∀ b ys,H b = some (.tup ys)→H' b = some (.tup ys)) : KT H' kvs xs :=
  Paired.mapP r fun _ _ z => ⟨z.1,ht _ _ z.2.1,z.2.2⟩
section
variable {P : Program} {w : World} {H : Hp} {h : Heap} {a : Addr}
theorem zoK {u : HO} (ok : HOk P w H h) (e : Rd H a u) : zaZ P w H h a u := e.ok ok
theorem zjc {kvs : List (Key × V)} (ok : HOk P w H h) (e : Rd H a (.dK kvs)) : kvs.length≤sizeLine∧(a == sysModules) = false∧∃ vs,KV kvs vs∧h.DictOf (zbl P w) a vs :=
  show zaZ P w H h a (.dK kvs) from zoK ok e
theorem zq7 {kvs : List (Key × V)} (ok : HOk P w H h) (e : H a = some (.dK kvs)) : kvs.length≤sizeLine∧(a == sysModules) = false∧∃ vs,KV kvs vs∧h.DictOf (zbl P w) a vs := zjc ok (.inl e)
theorem zhb {ks : List Key} (ok : HOk P w H h) (e : H a = some (.tup (ks.map kV))) : (tupleKind (zbl P w)).is h ks a := by
  obtain ⟨_,its,r,⟨o,h1,h2,n,h3⟩,_⟩ := (show zaZ P w H h a (.tup (ks.map kV)) from ok a _ e)
  exact ⟨o,its.toArray,n,h1,h2,h3,by simpa using zhd r⟩
theorem zkL {kvs : List (List Key × V)} (ok : HOk P w H h) (e : Rd H a (.dT kvs)) : kvs.length≤sizeLine∧(a == sysModules) = false ∧
    ∃ xs,KT H kvs xs∧h.DictOfH (tupleKind (zbl P w)) a xs := by
  obtain ⟨z,y,xs,r,o,es,ep,h1,h2,h3,h4,h5⟩ := (show zaZ P w H h a (.dT kvs) from zoK ok e)
  refine ⟨z,y,xs,r,o,es,ep,h1,h2,h3,h4,fun x hx => ?_,h5⟩
  have all : ∀ {l : List (List Key × V)} {m : List (List Key × Addr × Value)},KT H l m→∀ x∈m,(tupleKind (zbl P w)).is h x.1 x.2.1 := by
    intro l m q
    induction q with
    | nil => intro x hx; exact nomatch hx
    | @cons p q ps qs hq t ih =>
      intro x hx
      rcases List.mem_cons.mp hx with e | hx
      · subst e
        exact zhb ok (by rw [← hq.1]; exact hq.2.1)
      · exact ih x hx
  exact all r x hx
theorem zq6 {kvs : List (List Key × V)} (ok : HOk P w H h) (e : H a = some (.dT kvs)) : kvs.length≤sizeLine∧(a == sysModules) = false ∧
    ∃ xs,KT H kvs xs∧h.DictOfH (tupleKind (zbl P w)) a xs := zkL ok (.inl e)
end
noncomputable def DGet (H : Hp) (a : Addr) (y : V) (r : Option V) : Prop :=
  (∃ kvs k,Rd H a (.dK kvs)∧y = kV k∧r = valV kvs k)∨∃ kvs k b,Rd H a (.dT kvs)∧y = .ref b∧H b = some (.tup (k.map kV))∧r = valV kvs k
noncomputable def DPut (H : Hp) (a : Addr) (y v : V) (H' : Hp) : Prop :=
  (∃ kvs k,H a = some (.dK kvs)∧y = kV k∧kvs.length < sizeLine∧H' = upd H a (.dK (putK kvs k v))) ∨
  ∃ kvs k b,H a = some (.dT kvs)∧y = .ref b∧H b = some (.tup (k.map kV))∧kvs.length < sizeLine∧H' = upd H a (.dT (putK kvs k v))
theorem DGet.k {H : Hp} {a : Addr} {kvs : List (Key × V)} {k : Key} (e : H a = some (.dK kvs)) : DGet H a (kV k) (valV kvs k) := .inl ⟨kvs,k,.inl e,rfl,rfl⟩
theorem DGet.t {H : Hp} {a b : Addr} {kvs : List (List Key × V)} {k : List Key} (e : H a = some (.dT kvs)) (eb : H b = some (.tup (k.map kV))) : DGet H a (.ref b) (valV kvs k) := .inr ⟨kvs,k,b,.inl e,rfl,eb,rfl⟩
theorem DPut.k {H : Hp} {a : Addr} {kvs : List (Key × V)} {k : Key} {v : V} (e : H a = some (.dK kvs)) (hl : kvs.length < sizeLine) : DPut H a (kV k) v (upd H a (.dK (putK kvs k v))) := .inl ⟨kvs,k,e,rfl,hl,rfl⟩
theorem DPut.t {H : Hp} {a b : Addr} {kvs : List (List Key × V)} {k : List Key} {v : V} (e : H a = some (.dT kvs)) (eb : H b = some (.tup (k.map kV))) (hl : kvs.length < sizeLine) :
    DPut H a (.ref b) v (upd H a (.dT (putK kvs k v))) := .inr ⟨kvs,k,b,e,rfl,eb,hl,rfl⟩
section
variable {X : Cx} {pins : List (Addr × Obj)} {σ : St} {H : Hp} {s : Shared} {a : Addr} {y v : V} {u r : Value} {o : Option V} {A : Around} {E : Value → Shared → Prop}
theorem Inv.big (I : Inv X pins σ H s) : sysModules < s.heap.objs.size := by
  have h : mainGlobals < s.heap.objs.size := (I.mod.glob.keeps I.bk).lt
  exact Nat.lt_trans (by decide) h
theorem zkR {Q : Value→Shared→Prop} (hu : A.units + 1 < cLine) (I : Inv X pins σ H s) (g : DGet H a y (some v)) (ry : RelV y u) (h : ∀ w' s',Inv X pins σ H s'→RelV v w'→Q w' s') :
    wpAny (model X.prog X.w) A (getItem (.ref a) u) Q E s := by
  rcases g with ⟨kvs,k,e,ey,l⟩ | ⟨kvs,k,b,e,ey,eb,l⟩
  · subst ey
    obtain ⟨z,hd,vs,rel,dd⟩ := zjc I.hok e
    obtain ⟨w',hw,rw'⟩ := RelO.some_of (v := v) (o := valueAt vs k) (by rw [l]; exact rel.val k)
    exact wpAny_getItem_of (zkn ry) dd.mapOf hw (h w' _ (I.tok _) rw')
  · subst ey
    cases (show u = Value.ref b from ry)
    obtain ⟨z,hd,xs,rel,dd⟩ := zkL I.hok e
    obtain ⟨w',hw,rw'⟩ := RelO.some_of (v := v) (o := (atKey xs k).map (·.2)) (by rw [l]; exact rel.val k)
    obtain ⟨p,hp,hp2⟩ := Option.map_eq_some_iff.mp hw
    refine wpAny_getItem_heap (tupleKind_room_in1 hu) (zhb I.hok eb) dd hp ?_
    rw [hp2]
    exact h w' _ (I.tok _) rw'
theorem d_in {Q : Value→Shared→Prop} (hu : A.units + 1 < cLine) (I : Inv X pins σ H s) (g : DGet H a y o) (ry : RelV y u) (h : ∀ s',Inv X pins σ H s'→Q (.bool o.isSome) s') :
    wpAny (model X.prog X.w) A (compareOp .In u (.ref a)) Q E s := by
  rcases g with ⟨kvs,k,e,ey,l⟩ | ⟨kvs,k,b,e,ey,eb,l⟩
  · subst ey
    obtain ⟨z,hd,vs,rel,dd⟩ := zjc I.hok e
    refine wpAny_in_of (zkn ry) hd dd.mapOf ?_
    rw [← (rel.val k).isSome_eq,← l]
    exact h _ (I.tok _)
  · subst ey
    cases (show u = Value.ref b from ry)
    obtain ⟨z,hd,xs,rel,dd⟩ := zkL I.hok e
    refine wpAny_in_heap (tupleKind_room_in1 hu) (zhb I.hok eb) hd dd ?_
    have q := (rel.val k).isSome_eq
    rw [Option.isSome_map] at q
    rw [← q,← l]
    exact h _ (I.tok _)
theorem zn7 {Q : Value→Shared→Prop} (hu : A.units + 1 < cLine) (I : Inv X pins σ H s) (g : DGet H a y o) (ry : RelV y u) (h : ∀ s',Inv X pins σ H s'→Q (.bool (!o.isSome)) s') :
    wpAny (model X.prog X.w) A (compareOp .NotIn u (.ref a)) Q E s := by
  rcases g with ⟨kvs,k,e,ey,l⟩ | ⟨kvs,k,b,e,ey,eb,l⟩
  · subst ey
    obtain ⟨z,hd,vs,rel,dd⟩ := zjc I.hok e
    refine wpAny_notIn_of (zkn ry) hd dd.mapOf ?_
    rw [← (rel.val k).isSome_eq,← l]
    exact h _ (I.tok _)
  · subst ey
    cases (show u = Value.ref b from ry)
    obtain ⟨z,hd,xs,rel,dd⟩ := zkL I.hok e
    refine wpAny_notIn_heap (tupleKind_room_in1 hu) (zhb I.hok eb) hd dd ?_
    have q := (rel.val k).isSome_eq
    rw [Option.isSome_map] at q
    rw [← q,← l]
    exact h _ (I.tok _)
theorem zkP {h' : Heap} {t' : Nat} {ob : HO} (I : Inv X pins σ H s) (mu : Mut (H a)) (hs : Heap.SameBut a s.heap h') (he : ∃ q,h'.get? a = some q) (new : zaZ X.prog X.w (upd H a ob) h' a ob) :
    Inv X pins σ (upd H a ob) { s with heap := h',toks := t' } :=
  I.write (x := a) (e := a) mu (.inl rfl) (fun b q hb z => (hs.2 b hb).trans z) he new
theorem zp5 {P : Program} {w : World} {H' : Hp} {h' : Heap} {kvs : List (Key × V)} {vs : List (Key × Value)} (z : kvs.length≤sizeLine) (hd : (a == sysModules) = false) (rel : KV kvs vs) (dd : h'.DictOf (zbl P w) a vs) :
    zaZ P w H' h' a (.dK kvs) := ⟨z,hd,vs,rel,dd⟩
theorem zkQ {H' : Hp} {Q : Unit→Shared→Prop} (hu : A.units + 1 < cLine) (I : Inv X pins σ H s) (g : DPut H a y v H') (ry : RelV y u) (rv : RelV v r) (h : ∀ s',Inv X pins σ H' s'→Q () s') :
    wpAny (model X.prog X.w) A (setItem (.ref a) u r) Q E s := by
  rcases g with ⟨kvs,k,e,ey,l,eH⟩ | ⟨kvs,k,b,e,ey,eb,l,eH⟩
  · subst ey eH
    obtain ⟨z,hd,vs,rel,dd⟩ := zq7 I.hok e
    have hz : vs.length≤sizeLine := by rw [← rel.length]; exact z
    have hl : (putK kvs k v).length≤sizeLine := by have := zfk kvs k v; omega
    refine wpAny_setItem_pairs (hsz := hz) (zkn ry) dd fun h' dd' hs => h _ ?_
    have he : ∃ q,h'.get? a = some q := let ⟨q,_,_,hq,_⟩ := dd'; ⟨q,hq⟩
    exact zkP I (by rw [e]; exact True.intro) hs he (zp5 hl hd (rel.put k rv) dd')
  · subst ey eH
    cases (show u = Value.ref b from ry)
    obtain ⟨z,hd,xs,rel,dd⟩ := zq6 I.hok e
    have hz : xs.length≤sizeLine := by rw [← Paired.length rel]; exact z
    have hl : (putK kvs k v).length≤sizeLine := by have := zfk kvs k v; omega
    refine wpAny_setItem_heap (hsz := hz) (tupleKind_room_in1 hu) (zhb I.hok eb) dd fun h' dd' hs => h _ ?_
    obtain ⟨q,es,ep,hq,h2,h3,h4,_,h5⟩ := dd'
    refine zkP I (by rw [e]; exact True.intro) hs ⟨q,hq⟩ ⟨hl,hd,_,(rel.put k eb rv).keeps fun c ys ec => ?_,q,es,ep,hq,h2,h3,h4,h5⟩
    rw [zat (zqN ec e (fun z => nomatch z))]
    exact ec
end
section
variable {X : Cx} {pins : List (Addr × Obj)} {σ : St} {H : Hp} {s : Shared} {a : Addr} {kvs : List (Key × V)} {k : Key} {u : Value} {A : Around} {E : Value → Shared → Prop}
theorem zq8 {Q : Value→Shared→Prop} (I : Inv X pins σ H s) (e : Rd H a (.dK kvs)) (h : ∀ t s',Inv X pins σ H s'→Q (.int kvs.length t) s') : wpAny (model X.prog X.w) A (call (.builtin "len") [.ref a]) Q E s := by
  obtain ⟨z,hd,vs,rel,dd⟩ := zjc I.hok e
  refine call_len_dict hd dd (by rw [← rel.length]; rw [sizeLine_eq] at z; omega) ?_
  rw [← rel.length]
  exact h _ _ (I.tok _)
end
theorem zhY {X : Cx} {pins : List (Addr × Obj)} {σ : St} {H : Hp} {s : Shared} {a : Addr} {y : V} {o : Option V} (I : Inv X pins σ H s) (g : DGet H a y o) : s.TypeIs (.ref a) "dict" := by
  rcases g with ⟨kvs,k,e,_,_⟩ | ⟨kvs,k,b,e,_,_,_⟩
  · obtain ⟨_,_,vs,_,dd⟩ := zjc I.hok e
    exact dd.typeIs
  · obtain ⟨_,_,xs,_,dd⟩ := zkL I.hok e
    exact dd.typeIs
section
variable {X : Cx} {o i e value : Expr} {pos pos' tpos : Pos} {td ty tv : TE}
end
theorem zmd {P : Program} {w : World} {H : Hp} (h : Heap) (hb : sysModules < h.objs.size) : zaZ P w H (h.push { cls := .type "dict",data := .dict #[] }) h.objs.size (.dK []) :=
  ⟨Nat.zero_le _,beq_eq_false_iff_ne.mpr (Ne.symm (Nat.ne_of_lt hb)),[],.nil,Heap.DictOf.new h⟩
noncomputable def zov : TE := fun _ H Q => ∀ p,H p = none→Q (.ref p) (upd H p (.dK []))
section
variable {X : Cx} {pos : Pos}
theorem zlP : PE X (.Dict [] [] pos) zov := fun pins s σ H Q I h =>
  wpAny_Dict_empty ⟨.ref s.heap.objs.size,_,I.laid (a := s.heap.objs.size) (o := .dK []) (t' := s.toks) (fun _ _ q => Heap.get?_push_of_some _ q) (Nat.le_refl _) (zmd s.heap I.big),rfl,h _ (I.hok.fresh (Nat.le_refl _))⟩
end
structure M1 (X : Cx) (o : Expr) (m : Str) (apos : Pos) (e : Expr) (cpos : Pos) : Prop where
  base : attributeBase o m X.env (eval o X.env) = eval o X.env
  few : ((backTo cpos (starEach [e] X.env)).all (fun x => !x.1) && (backToKw cpos (keywordEach [] X.env)).all (fun x => x.1.isSome)
    && decide (([e] : List Expr).length + ([] : List Keyword).length + (if ([] : List Keyword).isEmpty then 0 else 1) < 30)) = true
  line : (apos.endLine == cpos.line) = true
  trees : backTo cpos (starEach [e] X.env) = [(false,eval e X.env)]
structure M2 (X : Cx) (o : Expr) (m : Str) (apos : Pos) (e f : Expr) (cpos : Pos) : Prop where
  base : attributeBase o m X.env (eval o X.env) = eval o X.env
  few : ((backTo cpos (starEach [e,f] X.env)).all (fun x => !x.1) && (backToKw cpos (keywordEach [] X.env)).all (fun x => x.1.isSome)
    && decide (([e,f] : List Expr).length + ([] : List Keyword).length + (if ([] : List Keyword).isEmpty then 0 else 1) < 30)) = true
  line : (apos.endLine == cpos.line) = true
  trees : backTo cpos (starEach [e,f] X.env) = [(false,eval e X.env),(false,eval f X.env)]
section
variable {X : Cx} {pins : List (Addr × Obj)} {σ : St} {H : Hp} {s : Shared} {a : Addr} {y d : V} {u r : Value} {o : Option V} {A : Around} {E : Value → Shared → Prop}
end
section
variable {X : Cx} {o e f : Expr} {apos cpos : Pos} {td ty tx : TE}
end
section
variable {X : Cx} {pins : List (Addr × Obj)} {σ : St} {H : Hp} {s : Shared} {a : Addr} {kvs : List (Key × V)} {A : Around} {E : Value → Shared → Prop}
end
section
variable {X : Cx} {pins : List (Addr × Obj)} {σ : St} {H : Hp} {s : Shared} {a : Addr} {y : V} {u : Value} {A : Around} {E : Value → Shared → Prop}
end
end L2
namespace Att
open PySem PySem.W PySem.Calls PyProof.Rows
theorem zfm {P : Params} {h : Heap} : ∀ (ns : List Int) (vs : List Value),WellAll P h vs (ns.map WData.int)→IntsAre vs ns := by
  intro ns
  induction ns with
  | nil =>
    intro vs w
    rw [List.map_nil] at w
    cases w
    exact .nil
  | cons n ns ih =>
    intro vs w
    rw [List.map_cons] at w
    cases w with
    | cons a b =>
      cases a
      exact .cons _ _ (ih _ b)
theorem zjw {l : OpenLaw} {n : Nat} (hn : l.most = some n) {P : Params} {h : Heap} {args : List WData} {vals : List Value}
    (hpre : l.row.toRowW.claim.pre args = true) (hwl : WellAll P h vals args) :
    ∃ a vs ns,vals = [Value.ref a]∧args = [WData.list (ns.map WData.int)]∧h.get? a = some { cls := .type "list",data := .seq vs.toArray }∧IntsAre vs ns∧ns.length≤n := by
  have hsh : WShape.hasAll [] args [.list .int] = true := (pre_splitW hpre).1
  have hc : l.pre.holds [] { args := args } = true := (pre_splitW hpre).2
  obtain ⟨d,r,rfl,h1,h2⟩ := hasAllW_cons hsh
  obtain rfl := hasAllW_nil h2
  obtain ⟨xs,rfl,h3⟩ := hasW_list h1
  obtain ⟨ns,rfl⟩ := items_int h3
  have hlen : ns.length≤n := by
    unfold OpenLaw.pre at hc
    have h4 : (WTm.not (.lt (.lit (.int (n : Int))) (.len (.arg 0)))).holds [] { args := [.list (ns.map .int)] } = true := by
      have h4 := (holds_andW hc).1
      rw [hn] at h4
      exact h4
    have h5 := condW_of h4 (w_not (w_lt w_lit (w_len_list (w_arg rfl))))
    rw [List.length_map] at h5
    refine Nat.le_of_not_lt fun q => ?_
    have q' : (n : Int) < ((ns.length : Nat) : Int) := by omega
    first
      | (rw [decide_eq_true q'] at h5; exact absurd h5 (by decide))
      | (simp at h5; omega)
  cases hwl with
  | cons w1 w2 =>
    cases w2
    cases w1 with
    | list ho hall => exact ⟨_,_,ns,rfl,rfl,ho,zfm ns _ hall,hlen⟩
theorem zjK (l : OpenLaw) (args : List WData) : l.row.toRowW.claim.post args (.bool true) args = true :=
  postW_of (r := l.row.toRowW) (X := (true == true))
    (show WShape.has [] (.bool true) .bool = true by first | rfl | decide | simp [WShape.has,WShape.arms,WShape.armsAll])
    (show (WTm.eq .res (.lit (.bool true))).value [] { args := args,res := some (.bool true),after := args } = some (.bool (true == true)) from w_eq_bool (w_res rfl) w_lit) rfl
theorem attach_call {l : OpenLaw} {n : Nat} {q : Program} {loose : List Str} {XP : (Str→Option Value)→Heap→Prop} {YP : World→Heap→Prop} {d : DefRec}
    (hn : l.most = some n) (hdf : d.params.defaults = [])
    (call : ∀ (w : World) (s₀ s₁ : Shared) (mg mb : Str→Option Value) (fa : Addr) (o : Obj) (pm cd doc : Value) (a : Addr) (vs : List Value) (ns : List Int),
      Ground q loose [] XP w s₀ mg mb s₁.heap→YP w s₁.heap →
      s₁.heap.get? fa = some o→o.data = .func (docDef d.name d.params d.body d.scope pm cd doc)→s₁.heap.CodeRec cd d.name→mg d.name = some (.ref fa) →
      s₁.heap.get? a = some { cls := .type "list",data := .seq vs.toArray }→IntsAre vs ns→ns.length≤n→s₁.gens = #[] →
      codeAny (model l.prog w) callerA (.call (.ref fa) ⟨[.ref a],[]⟩) (fun r s' => r = .ok (.ret (.bool true))∧OldK s₁.heap s'.heap∧s'.os = s₁.os∧AllBare s'.gens) s₁) :
    WalkO q loose XP YP l.row.toRowW d [] (fun f vs => PySem.call f vs) := by
  intro w s₀ s₁ mg mb G Y fa o pm cd doc dV kV ho hd hcd hD hmg hg args vals as hpre hlay hrd hwl hlo
  obtain rfl : dV = .none := Dflts.none hD hdf
  obtain rfl : kV = .none := Dflts.noKw hD
  obtain ⟨a,vs,ns,rfl,rfl,hobj,hints,hlen⟩ := zjw hn hpre hwl
  refine enter_call (codeAny_mono (call w s₀ s₁ mg mb fa o pm cd doc a vs ns G Y ho (fd_plain hd) hcd hmg hobj hints hlen hg) fun r s' hq => ?_)
  obtain ⟨rfl,h2,h3,h4⟩ := hq
  exact ⟨.inl ⟨.bool true,.bool true,[],rfl,fun _ => rfl,.bool true,zjK l _,fun _ => ⟨List.Pairwise.nil,fun _ hm => (nomatch hm)⟩⟩,h2,h3,h4⟩
section
variable {prog : Program} {w : World} {A : Around} {E : Value → Shared → Prop} {s : Shared} {K : Frag}
end
end Att
namespace L2
open PySem PySem.Spec PyProof.Rows
theorem zgE : ∀ {vs : List Value} {ns : List Int},IntsAre vs ns→Vals (ns.map V.int) vs
  | _,_,.nil => .nil
  | _,_,.cons n t h => .cons ⟨t,rfl⟩ (zgE h)
noncomputable def Only (H : Hp) : Prop := ∀ b,H b = none∨∃ o xs,H b = some (.frz o (.lst xs))
theorem zlZ {P : Program} {w : World} {K : PySem.W.Frag} {mg mb : Str→Option Value} {CX : CXT} {k : Nat} {fa a : Addr} {fd : FuncData} {x : Str} {sp : Sp} {s₁ : Shared} {vs : List Value} {ns : List Int}
    (KX : K.In s₁.heap) (hns : s₁.heap.Ns mainGlobals mg) (hb : s₁.heap.Ns builtinsNs mb) (hbb : ∀ x : Str,x≠"__name__"→mb x = bootBuiltins x) (hlim : s₁.heap.NoLimit) (hg : s₁.gens = #[])
    (ha : s₁.heap.get? a = some { cls := .type "list",data := .seq vs.toArray }) (hi : IntsAre vs ns) (hl : ns.length≤sizeLine) (hr : Room k callerA)
    (F : ∀ base : Heap,K.In base→base.Ns mainGlobals mg→FnOk P w K mg base CX k fa fd [x] sp) (hbind : ∀ (s : Shared) (u : Value),BindsTo s fd ⟨[u],[]⟩ [(x,u)])
    (hsp : ∀ H : Hp,Only H→SqL K H a (ns.map V.int)→sp [.ref a] H (fun v _ => v = .bl true) fun _ _ _ => False)
    (hCX : ∀ H e s',CX [] H s₁ (fun _ _ _ => False) e s'→False) :
    codeAny (model P w) callerA (.call (.ref fa) ⟨[.ref a],[]⟩) (fun r s' => r = .ok (.ret (.bool true))∧OldK s₁.heap s'.heap∧s'.os = s₁.os∧AllBare s'.gens) s₁ := by
  have rv := zgE hi
  have lenV := hi.length
  have core : ∀ H : Hp,Only H→SqL K H a (ns.map V.int)→HOk P w H s₁.heap→(∀ b,H b≠none→b = a)→(H a≠none→K.lookup a = none) →
      codeAny (model P w) callerA (.call (.ref fa) ⟨[.ref a],[]⟩) (fun r s' => r = .ok (.ret (.bool true))∧OldK s₁.heap s'.heap∧s'.os = s₁.os∧AllBare s'.gens) s₁ := by
    intro H hO hS hok hA hK
    have base_of : ∀ {b : Addr} {o : Obj},s₁.heap.get? b = some o→H b = none→(hidT s₁.heap H).get? b = some o := fun e n => zl5 e n
    have noA : ∀ {b : Addr} {o : Obj} {es : Array DictEntry} {ep : Nat},s₁.heap.get? b = some o→o.data = .dict es ep→H b = none := fun {b o es ep} e d => by
      cases q : H b with
      | none => rfl
      | some u =>
        have e' : b = a := hA b (by rw [q]; simp)
        subst e'
        rw [ha] at e; cases e
        have d' : Data.seq vs.toArray _ = Data.dict es ep := d
        cases d'
    have nsK : ∀ {b : Addr} {m : Str→Option Value},s₁.heap.Ns b m→(hidT s₁.heap H).Ns b m := fun {b m} ⟨o,es,ep,e,d,r⟩ => ⟨o,es,ep,base_of e (noA e d),d,r⟩
    have hKb : K.In (hidT s₁.heap H) := fun b o e => base_of (KX b o e) (by
      cases q : H b with
      | none => rfl
      | some u =>
        have e' : b = a := hA b (by rw [q]; simp)
        subst e'
        rw [hK (by rw [q]; simp)] at e; cases e)
    have hM : Mod K mg (hidT s₁.heap H) := ⟨hKb,nsK hns,⟨mb,nsK hb,hbb⟩,let ⟨mc,h1,h2⟩ := hlim; ⟨mc,nsK h1,h2⟩⟩
    have e0 : Env0 P w K mg (hidT s₁.heap H) callerA [] s₁ H := ⟨rfl,hM,fun b o e => znH e,Nat.le_of_eq (zkz _ _),trivial,fun b hb => absurd (show b∈([] : List Addr) from hb) (by simp),hok,.of_eq hg⟩
    refine codeAny_mono ((F _ hKb (nsK hns)).run callerA [] s₁ H ⟨[.ref a],[]⟩ [.ref a] [.ref a] _ _ hr e0 (hbind s₁ (.ref a)) (.cons rfl .nil) (hsp H hO hS)) fun r s' h => ?_
    cases r with
    | error e => exact (hCX H e s' h).elim
    | ok fl =>
      cases fl with
      | next => exact False.elim h
      | brk => exact False.elim h
      | cont => exact False.elim h
      | ret u =>
        obtain ⟨v,H',os,bare,un,hok',r',q⟩ := h
        have q' : v = .bl true := q
        subst q'
        obtain rfl : u = Value.bool true := r'
        refine ⟨rfl,OldK.of_keep fun b o e => ?_,os,bare⟩
        cases q : H b with
        | none => exact un.keep b o e q (by intro z; exact absurd (show b∈([] : List Addr) from z) (by simp)) (by simp)
        | some u =>
          rcases hO b with z | ⟨ob,xs,z⟩
          · rw [q] at z; cases z
          · have z2 := un.frzs b ob _ z
            obtain ⟨e1,_⟩ := hok b _ z
            obtain ⟨e2,_⟩ := hok' b _ z2
            rw [e] at e1; cases e1
            exact e2
  cases hk : K.lookup a with
  | some o =>
    have e := KX a o hk
    rw [ha] at e
    cases e
    refine core (fun _ => none) (fun _ => .inl rfl) (.inr ⟨_,vs.toArray,_,hk,rfl,rfl,rfl,by rw [List.size_toArray,lenV]; exact hl,by simpa using rv⟩) (fun b u z => by have z' : (none : Option HO) = some u := z; cases z') (fun b z => absurd rfl z) fun z => absurd rfl z
  | none =>
    refine core (fun b => if b = a then some (.frz { cls := .type "list",data := .seq vs.toArray } (.lst (ns.map V.int))) else none) (fun b => ?_) (.inl (.inr ⟨{ cls := .type "list",data := .seq vs.toArray },if_pos rfl⟩)) (fun b u z => ?_) (fun b z => ?_) fun _ => hk
    · by_cases hb : b = a
      · exact .inr ⟨_,_,if_pos hb⟩
      · exact .inl (if_neg hb)
    · by_cases hb : b = a
      · have z' := (if_pos hb).symm.trans z
        cases z'
        subst hb
        exact ⟨ha,by rw [List.length_map]; exact hl,vs,_,rv,ha⟩
      · have z' := (if_neg hb).symm.trans z
        cases z'
    · by_cases hb : b = a
      · exact hb
      · exact absurd (if_neg hb) z
end L2
namespace L2
open PySem PySem.Spec PyProof.Rows
noncomputable abbrev KOf {K : PySem.W.Frag} {h : Heap} (_ : K.In h) : PySem.W.Frag := K
theorem walk_of {l : PySem.W.OpenLaw} {n k : Nat} {q : Program} {loose : List Str} {XP : (Str→Option Value)→Heap→Prop} {YP : World→Heap→Prop} {d : DefRec} {K : Params→PySem.W.Frag} {CX : World→CXT} {sp : World→Sp} {x : Str}
    (hn : l.most = some n) (hn2 : n≤sizeLine) (hdf : d.params.defaults = []) (hr : Room k callerA)
    (hY : ∀ (w : World) (h : Heap),YP w h→(K w.params).In h)
    (F : ∀ (w : World) (mg : Str→Option Value) (fa : Addr) (h : Heap),(K w.params).In h→h.Ns mainGlobals mg→mg d.name = some (.ref fa) →
      ∃ fd : FuncData,(∀ (s : Shared) (u : Value),BindsTo s fd ⟨[u],[]⟩ [(x,u)]) ∧
        ∀ base : Heap,(K w.params).In base→base.Ns mainGlobals mg→FnOk l.prog w (K w.params) mg base (CX w) k fa fd [x] (sp w))
    (hsp : ∀ (w : World) (H : Hp) (a : Addr) (ns : List Int),ns.length≤n→Only H→SqL (K w.params) H a (ns.map V.int)→sp w [.ref a] H (fun v _ => v = .bl true) fun _ _ _ => False)
    (hCX : ∀ (w : World) (H : Hp) (s : Shared) (e : Value) (s' : Shared),CX w [] H s (fun _ _ _ => False) e s'→False) :
    PySem.W.WalkO q loose XP YP l.row.toRowW d [] (fun f vs => PySem.call f vs) := by
  refine Att.attach_call hn hdf fun w s₀ s₁ mg mb fa o pm cd doc a vs ns G Y ho hd hcd hmg hobj hints hlen hg => ?_
  have KX := hY w _ Y
  obtain ⟨fd,hb,hF⟩ := F w mg fa _ KX G.T.g hmg
  exact zlZ KX G.T.g G.T.b G.T.builtins G.T.nolimit hg hobj hints (Nat.le_trans hlen hn2) hr hF hb (fun H hO hS => hsp w H a ns hlen hO hS) fun H e s' => hCX w H s₁ e s'
end L2
namespace L2
open PySem PySem.Spec PyProof.Rows
noncomputable def zdB (s : Stmt) : Arguments := match s with
  | .FunctionDef _ a _ _ _ _ _ _ _ _ => a
  | _ => { posonlyargs := [],args := [],vararg := none,kwonlyargs := [],kw_defaults := [],kwarg := none,defaults := [] }
noncomputable def zcw (s : Stmt) : List Stmt := match s with
  | .FunctionDef _ _ b _ _ _ _ _ _ _ => b
  | _ => []
noncomputable def zac (s : Stmt) : Scope := match s with
  | .FunctionDef _ _ _ _ _ _ sc _ _ _ => sc
  | _ => { kind := .function,names := [],isGenerator := false,isCoroutine := false }
noncomputable abbrev CX0 : CXT := fun _ _ _ _ _ _ => False
noncomputable abbrev E0 : XK := fun _ _ _ => False
theorem zqI {X : Cx} : zlf CX0 X E0 := fun _ _ _ _ _ _ _ h => h.elim
structure Fun (K : PySem.W.Frag) (x qual : Str) (st : Stmt) (f : Addr) (fd : FuncData) : Prop where
  ex : ∃ (oc : Value) (od : Option Addr) (kV doc pm : Value) (an : Option Addr) (cdv ct : Value) (osl : Array (Option Value)),
    fd = PySem.W.fnOf x qual (zdB st) (zcw st) (zac st) .none kV doc pm an cdv ct∧K.lookup f = some ⟨oc,od,.func fd,osl⟩∧PySem.W.codeIn K cdv qual = true
  kp : PySem.W.keepIn K (.ref f) = true
section
variable {P : Program} {w : World} {K : PySem.W.Frag} {mg : Str → Option Value} {base : Heap}
theorem Fun.ok {x qual : Str} {st : Stmt} {f : Addr} {fd : FuncData} {N ps : List Str} {k : Nat} {sp : Sp} (F : Fun K x qual st f fd) (S : FnScope N ps (zac st)) (len : ∀ vs H Q E,sp vs H Q E→vs.length = ps.length)
    (hbody : ∀ (cdv : Value) (A : Around) (outer : List Env) (s : Shared) (H : Hp) (vs : List V) (Q : VK) (E : XK),Room k (A.deeper (envOfC qual (zac st) s.heap.objs.size f cdv))→sp vs H Q E →
      ∃ t,PSs (cxOf CX0 P w K mg base N qual (zac st) f cdv A outer s H E).nox (zcw st) t∧t { nx := fun _ H' => Q .non H',rt := Q } (start N vs) H) : FnOk P w K mg base CX0 (k + 1) f fd ps sp := by
  obtain ⟨oc,od,kV,doc,pm,an,cdv,ct,osl,rfl,lk,hcd⟩ := F.ex
  refine zq1 lk hcd S len fun A outer s H vs Q E hr hsp => ?_
  obtain ⟨t,h,q⟩ := hbody cdv A outer s H vs Q E hr hsp
  exact ⟨t,h.nox,q⟩
theorem Fun.binds {x qual : Str} {st : Stmt} {f : Addr} {fd : FuncData} {ps : List Str} (F : Fun K x qual st f fd)
    (h : ∀ (kV doc pm : Value) (an : Option Addr) (cdv ct : Value) (us : List Value),us.length = ps.length→bindArgs (PySem.W.fnOf x qual (zdB st) (zcw st) (zac st) .none kV doc pm an cdv ct) ⟨us,[]⟩ = pure (ps.zip us)) : zh6 K fd ps [] := by
  obtain ⟨oc,od,kV,doc,pm,an,cdv,ct,osl,rfl,lk,hcd⟩ := F.ex
  exact .all (h kV doc pm an cdv ct)
theorem zpU {x qual : Str} {st : Stmt} {f : Addr} {oc : Value} {od an : Option Addr} {osl : Array (Option Value)} {kV doc pm cdv ct : Value} (l : K.lookup f = some ⟨oc,od,.func (PySem.W.fnOf x qual (zdB st) (zcw st) (zac st) .none kV doc pm an cdv ct),osl⟩)
    (c : PySem.W.codeIn K cdv qual = true) (k : PySem.W.keepIn K (.ref f) = true) : Fun K x qual st f (PySem.W.fnOf x qual (zdB st) (zcw st) (zac st) .none kV doc pm an cdv ct) := ⟨⟨oc,od,kV,doc,pm,an,cdv,ct,osl,rfl,l,c⟩,k⟩
end
theorem zbI {A : Around} {k : Nat} (hr : Room k A) : A.units + 1 < cLine := Nat.lt_of_le_of_lt (Nat.add_le_add_left (by decide : 1≤64) _) hr.units
section
variable {X : Cx}
theorem zk3 : zdk X (.builtin "len") (fun xs H Q => ∃ a kvs,xs = [V.ref a]∧Rd H a (.dK kvs)∧Q (.int kvs.length) H) := by
  intro pins s σ H xs us Q I r h
  obtain ⟨a,kvs,rfl,ha,q⟩ := h
  obtain ⟨u,rfl,ru⟩ := zea r
  cases ru
  exact zq8 I ha fun t s' I' => ⟨.int kvs.length,H,I',⟨t,rfl⟩,q⟩
end
noncomputable def Same (H H' : Hp) : Prop := ∀ b o,H b = some o→H' b = some o
theorem Same.trans {H H1 H2 : Hp} (a : Same H H1) (b : Same H1 H2) : Same H H2 := fun c o h => b c o (a c o h)
theorem Same.free {H H' : Hp} (e : Same H H') {l : Addr} (h : H' l = Option.none) : H l = Option.none := by
  cases q : H l with
  | none => rfl
  | some o =>
    rw [e l o q] at h
    cases h
theorem Same.seq {K : PySem.W.Frag} {H H' : Hp} {a : Addr} {xs : List V} (e : Same H H') (h : SqL K H a xs) : SqL K H' a xs := by
  rcases h with (h | ⟨o,h⟩) | h
  · exact .inl (.inl (e _ _ h))
  · exact .inl (.inr ⟨o,e _ _ h⟩)
  · exact .inr h
section
variable {κ : Type} [DecidableEq κ]
end
end L2
end
section
namespace DL
open PySem
open PySem.SeqAt
open PySem.AutoSeq1 (wpAny_loadPart')
open PySem.MeetsSeq PySem.MeetsSeq2 PySem.MeetsSeq3
noncomputable def zkp (items : Array Value) (x : Value) : Nat→Option Fin × Unit→Sem (ForInStep (Option Fin × Unit)) := fun i _ => match items[i]? with
  | some y => do
    let c ← eqBool y x
    if c = true then do
        let r ← retInt i
        pure (ForInStep.done (some r,()))
      else pure (ForInStep.yield (none,()))
  | _ => pure (ForInStep.yield (none,()))
theorem znU {prog : Program} {w : World} {A : Around} {E : Value→Shared→Prop} {s : Shared} {items : Array Value} {x : Value} {e : Value→Bool} {j : Nat} (hj : j < items.size) (hit : e items[j] = true) (he : ∀ y,y∈items→EqAt A s y x (e y))
    {Q : Option Fin × Unit→Shared→Prop} (hq : Q (some (.done (.ret (.int j s.toks))),()) { s with toks := s.toks + 1 }) :
    ∀ (k i : Nat),j = i + k→(∀ m (hm : m < items.size),i≤m→m < j→e items[m] = false)→wpAny (model prog w) A (forIn (List.range' i (items.size - i)) (none,()) (zkp items x)) Q E s := by
  intro k
  induction k with
  | zero =>
    intro i hk _
    obtain rfl : j = i := by omega
    obtain ⟨r,hr⟩ : ∃ r,items.size - j = r + 1 := ⟨items.size - j - 1,by omega⟩
    rw [hr,List.range'_succ,List.forIn_cons]
    refine wpAny_bind ?_
    unfold zkp
    rw [show items[j]? = some items[j] by simp [hj]]
    refine wpAny_bind (he _ (Array.getElem_mem hj) prog w _ _ ?_)
    rw [hit,if_pos rfl]
    refine wpAny_bind (m := retInt j) ?_
    unfold retInt
    wp_walk
    exact hq
  | succ k ih =>
    intro i hk hno
    have hi : i < items.size := by omega
    obtain ⟨r,hr⟩ : ∃ r,items.size - i = r + 1 := ⟨items.size - i - 1,by omega⟩
    rw [hr,List.range'_succ,List.forIn_cons]
    refine wpAny_bind ?_
    unfold zkp
    rw [show items[i]? = some items[i] by simp [hi]]
    refine wpAny_bind (he _ (Array.getElem_mem hi) prog w _ _ ?_)
    rw [hno i hi (Nat.le_refl _) (by omega),if_neg Bool.false_ne_true]
    refine wpAny_pure ?_
    have := ih (i + 1) (by omega) (fun m hm h1 h2 => hno m hm (by omega) h2)
    rw [show items.size - (i + 1) = r by omega] at this
    exact this
theorem zf5 (l : Addr) (items : Array Value) (n : Nat) (dd : Option Addr) (sl : Array (Option Value)) (x : Value) (e : Value→Bool) (j : Nat) (hj : j < items.size)
    (hit : e items[j] = true) (hno : ∀ m (hm : m < items.size),m < j→e items[m] = false) :
    Meets (Builtin.«tuple.index» ⟨[.ref l,x],[]⟩)
      (fun A R s => s.heap.get? l = some { cls := .type "tuple",dict := dd,data := .seq items n,slots := sl }∧(∀ y,y∈items→EqAt A.in1 s y x (e y))∧R (.ok (.ret (.int j s.toks))) { s with toks := s.toks + 1 }) := by
  intro prog w A R s h
  obtain ⟨hp,g,d,tk,os⟩ := s; obtain ⟨hl,he,h⟩ := h
  unfold Builtin.«tuple.index»
  simp only [Std.Legacy.Range.forIn_eq_forIn_range']
  generalize hF : @forIn Sem (List Nat) Nat _ (Option Fin × Unit) = F
  wp_walk using wpAny_loadPart' hl
  subst hF
  rw [show ([:min items.size items.size] : Std.Legacy.Range).size = items.size - 0 by simp [Std.Legacy.Range.size]]
  refine znU hj hit he ?_ j 0 (by omega) (fun m hm _ h2 => hno m hm h2)
  exact wpAny_pure h
end DL
end
section
namespace DL
open PySem PyProof.Rows
theorem zhD : isSubtype (.type "tuple") (.type "set") = pure false := by rw [isSubtype_type]; kernel_rfl
theorem zgG : isSubtype (.type "tuple") (.type "frozenset") = pure false := by rw [isSubtype_type]; kernel_rfl
section
variable {prog : Program} {w : World} {A : Around} {E : Value → Shared → Prop} {s : Shared}
noncomputable abbrev set0 (led : Bool) : Obj := { cls := .type "set",dict := none,data := .set #[] 0 (.fresh 0 0 led) }
noncomputable def zld (prog : Program) (w : World) (s : Shared) (ns : List Int) (n : Nat) (h' : Heap) : Prop :=
  h'.SetOf (intKind prog w) s.heap.objs.size (fun k => (firstMet (fun i => ns.getD i 0) n).any (· == k)) (firstMet (fun i => ns.getD i 0) n).length∧∀ b o,b < s.heap.objs.size→s.heap.get? b = some o→h'.get? b = some o
set_option maxHeartbeats 3200000 in
theorem zhf {t : Addr} {items : Array Value} {ns : List Int} {led : Bool} {R : Result→Shared→Prop} (hh : A.handled = none) (ht : s.heap.IsTuple t items) (hi : IntsAre items.toList ns) (hb : items.size + 1 < scanBound)
    (hR : ∀ h' tk,zld prog w s ns items.size h'→R (.ok (.ret .none)) { s with heap := h',toks := tk }) :
    wpAny (model prog w) A.in1 (Builtin.«set.__init__» ⟨[.ref s.heap.objs.size,.ref t],[]⟩) (fun fin s' => match fin with | .done f => R (.ok f) s' | .again c' => c'.quiet = true∧codeAny (model prog w) A c' R s') (fun e s' => R (.error e) s') { s with heap := s.heap.push (set0 led) } := by
  obtain ⟨⟨ocls,odict,odata,oslots⟩,hol,hcl,nl,hdl⟩ := ht
  simp only at hcl hdl
  subst hcl; subst hdl
  have hol1 := Heap.get?_push_of_some (set0 led) hol
  have g1 := zhD
  have g2 := zgG
  have g3 : (Value.type "tuple" == Value.type "dict") = false := by decide
  have hT1 : (s.heap.push (set0 led)).IsTuple t items := ⟨_,hol1,rfl,nl,rfl⟩
  have hS : (s.heap.push (set0 led)).get? s.heap.objs.size = some (set0 led) := Heap.get?_push_size _ rfl
  unfold Builtin.«set.__init__» noKeywords Builtin.Frozenset.updateFrom
  generalize hPI : pyIter = PI
  wp_walk
  subst hPI
  refine wpAny_pyIter_tuple hT1 (wpAny_bind (wpAny_runValue ?_))
  have ltT : t < s.heap.objs.size := Heap.lt_size hol
  have z1 : (s.heap.push (set0 led)).objs.size = s.heap.objs.size + 1 := Heap.size_push ..
  have neI : t≠(s.heap.push (set0 led)).objs.size := by rw [z1]; exact Nat.ne_of_lt (Nat.lt_succ_of_lt ltT)
  have hout : s.heap.objs.size∉[(s.heap.push (set0 led)).objs.size,t] := by
    rw [z1]
    simp only [List.mem_cons,List.not_mem_nil,or_false,not_or]
    exact ⟨Nat.ne_of_lt (Nat.lt_succ_self _),Nat.ne_of_gt ltT⟩
  have hval : ∀ (i : Nat) (v : Value),items[i]? = some v→∃ tk,v = .int ((fun i => ns.getD i 0) i) tk := fun i v hv => IntsAre.int_at hi i v (by rw [Array.getElem?_toList]; exact hv)
  refine codeAny_set_update_loopS ((Walks.tuple (A := A.in1.in1) hh _ t neI items).toS) s.heap.objs.size hout (fun i => ns.getD i 0) hval hb (items.size - 0) 0 _ (by omega) (Nat.zero_le _) ⟨⟨_,Heap.get?_push_size _ rfl,rfl,rfl⟩,hT1.push _⟩ ?_ fun s' hm hS' => ?_
  · exact SetOf_congr ((setObjOf_fresh (knd := intKind prog w) led).setOf (Heap.get?_push_of_some _ hS) (by unfold scanBound; omega)) (fun _ => rfl) rfl
  · obtain ⟨h',g',d',tk',os'⟩ := s'
    obtain rfl : g' = s.gens := hm.gens
    obtain rfl : d' = s.drawn := hm.drawn
    obtain rfl : os' = s.os := hm.os
    show wpAny _ _ _ _ _ _
    refine wpAny_pure ?_
    show wpAny _ _ (ret Value.none) _ _ _
    refine wpAny_pure (hR h' tk' ⟨hS',fun b o hb2 e => ?_⟩)
    refine hm.heap b o ?_ (Heap.get?_push_of_some _ (Heap.get?_push_of_some _ e))
    rw [z1]
    simp only [List.mem_cons,List.not_mem_nil,or_false,not_or]
    exact ⟨Nat.ne_of_lt hb2,Nat.ne_of_lt (Nat.lt_succ_of_lt hb2)⟩
set_option maxHeartbeats 3200000 in
theorem zhp {t : Addr} {items : Array Value} {ns : List Int} {Q : Value→Shared→Prop} (hh : A.handled = none) (ht : s.heap.IsTuple t items) (hi : IntsAre items.toList ns) (hb : items.size + 1 < scanBound)
    (h : ∀ h' tk,zld prog w s ns items.size h'→Q (.ref s.heap.objs.size) { s with heap := h',toks := tk }) : wpAny (model prog w) A (call (.type "set") [.ref t]) Q E s := by
  obtain ⟨c,tl,hmro⟩ := F.called_set.mro
  have a1 := F.called_set.made
  have a2 := F.called_set.sub
  refine wpAny_call (codeAny_of_tree ?_)
  show wpAny _ _ (callAny (.type "set") _) _ _ _
  refine wpAny_pure ⟨Code.quiet_builtin _ (by decide +kernel),codeAny_builtin F.entry_type_call ?_⟩
  rw [Around.under_plain (weight_type_call_type "set" [.ref t] []) rfl]
  have a3 := F.called_set.notType
  have a4 := F.called_set.canCreate
  have a5 := F.typeCall_set_1 (.ref t)
  repeat (any_goals (first | assumption | wp_step))
  refine codeAny_mono (code_set_new_1 (.ref t) (E := E) (Q₁ := fun obj s₁ => ∃ led : Bool,obj = .ref s.heap.objs.size∧s₁ = { s with heap := s.heap.push (set0 led) }) fun led => ⟨led,rfl,rfl⟩) fun r s₁ hr => ?_
  cases r with
  | error e => exact hr
  | ok fl =>
    cases fl with
    | ret obj =>
      obtain ⟨led,rfl,rfl⟩ := hr
      have hT : Shared.TypeIs { s with heap := s.heap.push (set0 led) } (.ref s.heap.objs.size) "set" := ⟨_,Heap.get?_push_size _ rfl,rfl⟩
      have b1 := F.called_set.init.lookup
      have b2 := F.called_set.init.bind (.ref s.heap.objs.size)
      repeat (any_goals (first | assumption | wp_step))
      refine codeAny_mono (codeAny_call_builtin (R := wants (fun r s₂ => r = .none∧∃ h' tk,s₂ = { s with heap := h',toks := tk }∧zld prog w s ns items.size h') E) F.called_set.init.plain F.entry_set_init (check_set_init_1 hT ?_)) fun r₂ s₂ hr₂ => ?_
      · refine zhf (A := A.in1) (led := led) hh ht hi hb fun h2 tk he => ?_
        exact ⟨rfl,h2,tk,rfl,he⟩
      · cases r₂ with
        | error e => exact hr₂
        | ok fl₂ =>
          cases fl₂ with
          | ret r =>
            obtain ⟨rfl,h',tk,rfl,he⟩ := hr₂
            repeat (any_goals (first | assumption | wp_step))
            exact h _ _ he
          | _ => exact hr₂.elim
    | _ => exact hr.elim
end
end DL
end
section
namespace DL
open PySem PyProof.Rows PySem.W
noncomputable def zhc {α : Type} (c : Nat→Nat→Bool) : KasT α→α
  | .ret a => a
  | .ask i j k => zhc c (k (c i j))
inductive Asks (n : Nat) {α : Type} (P : α→Prop) : KasT α→Prop where
  | ret {a : α} : P a→Asks n P (.ret a)
  | ask {i j : Nat} {k : Bool→KasT α} : i < n→j < n→(∀ b,Asks n P (k b))→Asks n P (.ask i j k)
theorem Asks.bind {n : Nat} {α β : Type} {P : α→Prop} {P' : β→Prop} {t : KasT α} {f : α→KasT β} (h : Asks n P t) (hf : ∀ a,P a→Asks n P' (f a)) : Asks n P' (t.bind f) := by
  induction h with
  | ret h => exact hf _ h
  | ask h1 h2 _ ih => exact .ask h1 h2 ih
theorem Asks.run {n : Nat} {α : Type} {P : α→Prop} {t : KasT α} (h : Asks n P t) (c : Nat→Nat→Bool) : P (zhc c t) := by
  induction h with
  | ret h => exact h
  | ask _ _ _ ih => exact ih _
theorem zkm {n : Nat} {α : Type} {P : α→Prop} {cmp : Nat→Nat→(Bool→Shared→Prop)→Shared→Prop} {c : Nat→Nat→Bool} {s : Shared} (hc : ∀ i j C,i < n→j < n→C (c i j) s→cmp i j C s) {Q : α→Shared→Prop} {t : KasT α} (h : Asks n P t) : Q (zhc c t) s→t.kasWp cmp Q s := by
  induction h with
  | ret _ => exact fun q => q
  | ask h1 h2 _ ih => exact fun q => hc _ _ _ h1 h2 (ih _ q)
noncomputable def zcI (n : Nat) (p : Array Nat) : Prop := p.toList.Perm (List.range n)
theorem zcI.bd {n : Nat} {p : Array Nat} (h : zcI n p) (hn : 0 < n) (k : Nat) : p.getD k 0 < n := by
  by_cases hk : k < p.size
  · have e : p.getD k 0 = p[k] := by simp [Array.getD,hk]
    rw [e]
    exact List.mem_range.mp (h.mem_iff.mp (by simp))
  · have e : p.getD k 0 = 0 := by simp [Array.getD,hk]
    rw [e]; exact hn
theorem zcI.rev {n : Nat} {p : Array Nat} (h : zcI n p) (i j : Nat) : zcI n (kas_rev p i j) := (Array.perm_iff_toList_perm.mp (mirror_perm p i j ((j - i) / 2))).trans h
theorem zcI.bub {n : Nat} {p : Array Nat} (h : zcI n p) (i j : Nat) : zcI n (bubble p i j) := (Array.perm_iff_toList_perm.mp (bubble_perm p i j)).trans h
section
variable {n : Nat} (hn : 0 < n)
include hn
theorem zgv {p : Array Nat} (h : zcI n p) : ∀ f k,Asks n (fun _ => True) (kas_asc p f k)
  | 0,k => .ret trivial
  | f + 1,k => .ask (h.bd hn _) (h.bd hn _) fun b => by
    cases b with
    | true => rw [if_pos rfl]; exact .ret trivial
    | false => rw [if_neg Bool.false_ne_true]; exact zgv h f (k + 1)
theorem zeq : ∀ f (p : Array Nat) k q,zcI n p→Asks n (fun r => zcI n r.1) (kas_desc f p k q)
  | 0,p,k,q,h => .ret h
  | f + 1,p,k,q,h => .ask (h.bd hn _) (h.bd hn _) fun b => by
    cases b with
    | true =>
      rw [if_pos rfl]
      split
      · exact zeq f _ _ _ (h.rev _ _)
      · exact zeq f _ _ _ h
    | false =>
      rw [if_neg Bool.false_ne_true]
      refine .ask (h.bd hn _) (h.bd hn _) fun b => ?_
      cases b with
      | true => rw [if_pos rfl]; exact .ret h
      | false => rw [if_neg Bool.false_ne_true]; exact zeq f _ _ _ h
theorem zhv {p : Array Nat} (h : zcI n p) (a b : Nat) : Asks n (fun r => zcI n r.2) (kas_tail3 a b p) :=
  Asks.bind (zgv hn (h.rev 0 a) _ _) fun m _ => .ret (h.rev 0 a)
theorem zfY {p : Array Nat} (h : zcI n p) (a b : Nat) : Asks n (fun r => zcI n r.2) (kas_descPart a b p) := by
  refine Asks.bind (zeq hn _ p _ _ h) fun r hr => ?_
  split
  · exact zhv hn (hr.rev _ _) _ _
  · exact zhv hn hr _ _
theorem zjf {p : Array Nat} (h : zcI n p) (a : Nat) : Asks n (fun r => zcI n r.2) (kas_count a p) := by
  refine Asks.bind (zgv hn h _ _) fun k _ => ?_
  split
  · exact .ret h
  · split
    · refine .ask (h.bd hn _) (h.bd hn _) fun b => ?_
      cases b with
      | true => rw [if_pos rfl]; exact .ret h
      | false => rw [if_neg Bool.false_ne_true]; exact zfY hn (h.rev _ _) _ _
    · exact zfY hn h _ _
theorem zeB {p : Array Nat} (h : zcI n p) (k : Nat) : ∀ f l r,Asks n (fun _ => True) (kas_place p k f l r)
  | 0,l,r => .ret trivial
  | f + 1,l,r => by
    unfold kas_place
    split
    · exact .ret trivial
    · refine .ask (h.bd hn _) (h.bd hn _) fun b => ?_
      cases b with
      | true => rw [if_pos rfl]; exact zeB h k f _ _
      | false => rw [if_neg Bool.false_ne_true]; exact zeB h k f _ _
theorem ziI : ∀ f (p : Array Nat) k,zcI n p→Asks n (zcI n) (kas_bin f p k)
  | 0,p,k,h => .ret h
  | f + 1,p,k,h => Asks.bind (zeB hn h k _ _ _) fun l _ => ziI f _ _ (h.bub _ _)
theorem zhw : Asks n (zcI n) (kas_sort n) := by
  refine Asks.bind (zjf hn (p := List.toArray (List.range n)) (by unfold zcI; simp) n) fun r hr => ?_
  split
  · exact ziI hn _ _ _ hr
  · exact .ret hr
end
noncomputable def zfA (n : Nat) (c : Nat→Nat→Bool) : List Nat := if n < 2 then List.range n else (zhc c (kas_sort n)).toList
theorem zet (n : Nat) (c : Nat→Nat→Bool) : (zfA n c).Perm (List.range n) := by
  unfold zfA
  split
  · exact .refl _
  · exact (zhw (n := n) (by omega)).run c
end DL
end
section
namespace DL
open PySem PyProof.Rows PySem.W PySem.Calls
section
variable {prog : Program} {w : World} {A : Around} {E : Value → Shared → Prop} {s : Shared}
theorem ziS {a : Addr} {vs : List Value} {n : Nat} {P : PySem.Fin→Shared→Prop} (ho : s.heap.get? a = some (seqObj "list" vs.toArray n)) (h2 : vs.length < 2)
    (h : ∀ h' c,(∀ b o,b≠a→s.heap.get? b = some o→h'.get? b = some o)→h'.get? a = some (seqObj "list" vs.toArray c)→P (.done (.ret .none)) { s with heap := h' }) :
    wpAny (model prog w) A (Builtin.«list.sort» ⟨[.ref a],[]⟩) P E s := by
  have fits : vs.length≤sizeLine := by rw [sizeLine_eq]; omega
  have up := fun (h : Heap) (f : Array Value→Array Value) => Heap.SameBut.update h a (Obj.mapSeq f)
  obtain ⟨e1,ho1⟩ : ∃ e1,(s.heap.update a (Obj.mapSeq fun _ => (#[] : Array Value))).get? a = some (seqObj "list" #[] e1) := ⟨_,get?_update_seq ho fun _ => #[]⟩
  rw [list_sort_plain]
  refine wpAny_bind (listItems_at ho rfl (wpAny_bind (listUpdate_at ho rfl ?_ (by rw [List.size_toArray]; exact fits) (Nat.zero_le _))))
  refine wpAny_bind (seqEpoch_at ho1 rfl (wpAny_bind (wpAny_newTuple (wpAny_bind (wpAny_newList (wpAny_holding ?_) (Nat.zero_le _))) (by show vs.length≤_; exact fits))))
  dsimp only
  have hlt : vs.toArray.size < 2 := by rw [List.size_toArray]; exact h2
  rw [if_pos hlt,if_pos hlt]
  refine wpAny_bind (wpAny_pure ?_)
  have hrun : (pure () : StateT SortSt Sem Unit).run (SortSt.mk' general' (vs.toArray.zip vs.toArray) #[] 7 none) = pure ((),SortSt.mk' general' (vs.toArray.zip vs.toArray) #[] 7 none) := rfl
  rw [hrun]
  refine wpAny_bind (wpAny_pure ?_)
  dsimp only
  have hout : (arrOf (SortSt.mk' general' (vs.toArray.zip vs.toArray) #[] 7 none)).map (·.2) = vs.toArray := by
    show ((vs.toArray.zip vs.toArray).map (·.2)) = vs.toArray
    apply Array.ext'
    simp [List.map_snd_zip]
  rw [hout]
  have keep3 : ∀ b o,(s.heap.update a (Obj.mapSeq fun _ => (#[] : Array Value))).get? b = some o→(((s.heap.update a (Obj.mapSeq fun _ => (#[] : Array Value))).push (seqObj "tuple" vs.toArray 0)).push (seqObj "list" #[] 0)).get? b = some o := fun b o e => Heap.get?_push_of_some _ (Heap.get?_push_of_some _ e)
  have ho3 := keep3 _ _ ho1
  refine wpAny_bind (seqEpoch_at ho3 rfl (wpAny_bind (listUpdate_at ho3 rfl ?_ (Nat.zero_le _) (by rw [List.size_toArray]; exact Nat.le_succ_of_le fits))))
  simp only [bne_self_eq_false,Bool.false_eq_true,if_false]
  refine wpAny_pure (h _ _ (fun b o hb e => ?_) (get?_update_seq ho3 fun _ => vs.toArray))
  exact ((up _ _).2 b hb).trans (keep3 b o (((up _ _).2 b hb).trans e))
theorem zgK {l : Addr} {vs : List Value} {Q : Value→Shared→Prop} (hl : s.heap.IsList l vs.toArray) (h2 : vs.length < 2)
    (h : ∀ h' c D,(∀ b o,s.heap.get? b = some o→h'.get? b = some o)→s.heap.objs.size≤D→h'.get? D = some (seqObj "list" vs.toArray c)→Q (.ref D) { s with heap := h' }) :
    wpAny (model prog w) A (call (.builtin "sorted") [.ref l]) Q E s := by
  refine Calls.call_function_entry kind_sorted plain_sorted entry_sorted (args_sorted1 _) ?_
  unfold Builtin.«sorted»
  refine wpAny_bind (m := checkCount "sorted" 1 1 _) (wpAny_pure (wpAny_bind (collect_list hl ?_ (by rw [sizeLine_eq]; omega))))
  refine wpAny_bind (wpAny_newList ?_ (by rw [sizeLine_eq]; omega))
  generalize hH : ((s.heap.push (seqObj "list" #[] 0)).update s.heap.objs.size (Obj.mapSeq (·++vs.toArray))) = H1
  have hsz : H1.objs.size = s.heap.objs.size + 1 := by rw [← hH,Heap.size_update,size_push']
  have keep : ∀ b o,s.heap.get? b = some o→(H1.push (seqObj "list" vs.toArray 0)).get? b = some o := fun b o q => by
    have hlt : b < s.heap.objs.size := Heap.lt_size q
    refine Heap.get?_push_of_some _ ?_
    rw [← hH,Heap.get?_update_ne _ _ _ _ (Nat.ne_of_lt hlt)]
    exact Heap.get?_push_of_some _ q
  have hoL : (H1.push (seqObj "list" vs.toArray 0)).get? H1.objs.size = some (seqObj "list" vs.toArray 0) := Heap.get?_push_size _ rfl
  refine wpAny_bind (wpAny_holding (wpAny_call_entry slot_list_sort ⟨_,hoL,rfl⟩ entry_list_sort ?_ (args_list_sort _)))
  refine ziS (s := { s with heap := H1.push (seqObj "list" vs.toArray 0) }) hoL h2 fun h' c kp hD => ?_
  refine ⟨_,rfl,wpAny_pure ⟨_,rfl,h h' c _ (fun b o e => kp b o ?_ (keep b o e)) (by rw [hsz]; exact Nat.le_succ _) hD⟩⟩
  rw [hsz]
  exact Nat.ne_of_lt (Nat.lt_succ_of_lt (Heap.lt_size e))
end
end DL
end
section
namespace DL
open PySem PySem.Spec PyProof.Rows L2
inductive D where
  | non | bl (b : Bool) | int (i : Int) | str (x : Str)
  | tup (ds : List D) | lst (ds : List D)
  | dic (kvs : List (Key × D))
  | obj (c : Nat) (fs : List (Str × D))
instance : Inhabited D := ⟨.non⟩
inductive Res (α : Type) where
  | ok (a : α) | exc (x : D) | stuck
noncomputable def Res.bind {α β : Type} (r : Res α) (f : α→Res β) : Res β := match r with
  | .ok a => f a
  | .exc x => .exc x
  | .stuck => .stuck
@[simp] theorem bind_ok {α β : Type} (a : α) (f : α→Res β) : (Res.ok a).bind f = f a := rfl
@[simp] theorem bind_exc {α β : Type} (x : D) (f : α→Res β) : (Res.exc x : Res α).bind f = .exc x := rfl
@[simp] theorem bind_stuck {α β : Type} (f : α→Res β) : (Res.stuck : Res α).bind f = .stuck := rfl
noncomputable def fin {α : Type} (r : Res α) (q : α→Prop) (x : D→Prop) : Prop := match r with
  | .ok a => q a
  | .exc e => x e
  | .stuck => False
theorem zah {α : Type} {r : Res α} {q q' : α→Prop} {x : D→Prop} (h : fin r q x) (hq : ∀ a,q a→q' a) : fin r q' x := by
  cases r with
  | ok a => exact hq a h
  | exc e => exact h
  | stuck => exact h
theorem zaf {α β : Type} {r : Res α} {f : α→Res β} {q : β→Prop} {x : D→Prop} (h : fin (r.bind f) q x) : fin r (fun a => fin (f a) q x) x := by
  cases r with
  | ok a => exact h
  | exc e => exact h
  | stuck => exact h
noncomputable abbrev GH := Addr→Option D
inductive Scl : V→D→Prop where
  | non : Scl .non .non
  | bl (b : Bool) : Scl (.bl b) (.bl b)
  | int (i : Int) : Scl (.int i) (.int i)
  | str (x : Str) : Scl (.str x) (.str x)
inductive KC (K : PySem.W.Frag) (a : Addr) : D→Prop where
  | lst {xs : List V} {ds : List D} : SqL K (fun _ => none) a xs→Paired Scl xs ds→KC K a (.lst ds)
  | tup {xs : List V} {ds : List D} : SqT K (fun _ => none) a xs→Paired Scl xs ds→(∃ o,K.lookup a = some o∧o.cls = .type "tuple"∧o.dict = none)→KC K a (.tup ds)
inductive RG (K : PySem.W.Frag) (G : GH) : V→D→Prop where
  | scl {v : V} {d : D} : Scl v d→RG K G v d
  | ref {a : Addr} {d : D} : G a = some d→RG K G (.ref a) d
  | kc {a : Addr} {d : D} : KC K a d→RG K G (.ref a) d
noncomputable abbrev RGs (K : PySem.W.Frag) (G : GH) : List V→List D→Prop := Paired (RG K G)
noncomputable abbrev RKs (K : PySem.W.Frag) (G : GH) : List (Key × V)→List (Key × D)→Prop := Paired fun p q => p.1 = q.1∧RG K G p.2 q.2
inductive OB (K : PySem.W.Frag) (G : GH) (H : Hp) (a : Addr) : D→Prop where
  | lst {xs : List V} {ds : List D} : Rd H a (.lst xs)→RGs K G xs ds→OB K G H a (.lst ds)
  | tup {xs : List V} {ds : List D} : Rd H a (.tup xs)→RGs K G xs ds→OB K G H a (.tup ds)
  | dic {ob : Obj} {ps : List (Key × V)} {kvs : List (Key × D)} : H a = some (.frz ob (.dK ps))→RKs K G ps kvs→OB K G H a (.dic kvs)
noncomputable def GOk (K : PySem.W.Frag) (G : GH) (H : Hp) : Prop := ∀ a d,G a = some d→OB K G H a d
inductive OwnO (K : PySem.W.Frag) (G : GH) (H : Hp) (a : Addr) : D→Prop where
  | lst {xs : List V} {ds : List D} : H a = some (.lst xs)→RGs K G xs ds→OwnO K G H a (.lst ds)
  | dic {ps : List (Key × V)} {kvs : List (Key × D)} : H a = some (.dK ps)→RKs K G ps kvs→OwnO K G H a (.dic kvs)
structure Own (K : PySem.W.Frag) (G : GH) (H : Hp) (a : Addr) (d : D) : Prop where
  un : G a = none
  ob : OwnO K G H a d
structure Grow (K : PySem.W.Frag) (G : GH) (H : Hp) (G' : GH) (H' : Hp) : Prop where
  ok : GOk K G' H'
  he : ∀ a o,H a = some o→H' a = some o
  ge : ∀ a d,G a = some d→G' a = some d
  gf : ∀ a,H a≠none→G' a = G a
section
variable {K : PySem.W.Frag} {G G' G1 G2 : GH} {H H' H1 H2 : Hp} {a p : Addr} {d : D} {v : V}
theorem Rd.isS {u : HO} (h : Rd H a u) : H a≠none := by
  rcases h with h | ⟨o,h⟩ <;> rw [h] <;> simp
theorem RG.mono (h : RG K G v d) (ge : ∀ a d,G a = some d→G' a = some d) : RG K G' v d := by
  cases h with
  | scl s => exact .scl s
  | ref e => exact .ref (ge _ _ e)
  | kc k => exact .kc k
theorem RGs.mono {xs : List V} {ds : List D} (h : RGs K G xs ds) (ge : ∀ a d,G a = some d→G' a = some d) : RGs K G' xs ds := Paired.mono (fun _ _ r => r.mono ge) h
theorem RKs.mono {xs : List (Key × V)} {ds : List (Key × D)} (h : RKs K G xs ds) (ge : ∀ a d,G a = some d→G' a = some d) : RKs K G' xs ds := Paired.mono (fun _ _ r => ⟨r.1,r.2.mono ge⟩) h
theorem OB.mono (h : OB K G H a d) (ge : ∀ a d,G a = some d→G' a = some d) (he : ∀ o,H a = some o→H' a = some o) : OB K G' H' a d := by
  have rd : ∀ {u : HO},Rd H a u→Rd H' a u := fun r => by
    rcases r with r | ⟨o,r⟩
    · exact .inl (he _ r)
    · exact .inr ⟨o,he _ r⟩
  cases h with
  | lst r s => exact .lst (rd r) (s.mono ge)
  | tup r s => exact .tup (rd r) (s.mono ge)
  | dic r s => exact .dic (he _ r) (RKs.mono s ge)
theorem OB.isS (h : OB K G H a d) : H a≠none := by
  cases h with
  | lst r s => exact Rd.isS r
  | tup r s => exact Rd.isS r
  | dic r s => rw [r]; simp
theorem GOk.isN (g : GOk K G H) (h : H p = none) : G p = none := by
  cases e : G p with
  | none => rfl
  | some d => exact absurd h (g p d e).isS
theorem OwnO.isS (h : OwnO K G H a d) : H a≠none := by
  cases h with
  | lst r s => rw [r]; simp
  | dic r s => rw [r]; simp
theorem OwnO.mono (h : OwnO K G H a d) (ge : ∀ a d,G a = some d→G' a = some d) (he : ∀ o,H a = some o→H' a = some o) : OwnO K G' H' a d := by
  cases h with
  | lst r s => exact .lst (he _ r) (s.mono ge)
  | dic r s => exact .dic (he _ r) (RKs.mono s ge)
theorem Own.mono (h : Own K G H a d) (w : Grow K G H G' H') : Own K G' H' a d :=
  ⟨by rw [w.gf a h.ob.isS]; exact h.un,h.ob.mono w.ge fun o e => w.he _ _ e⟩
noncomputable def fz (H : Hp) (a : Addr) (ob : Obj) : Hp := match H a with
  | some (.dK ps) => upd H a (.frz ob (.dK ps))
  | _ => H
theorem zkA {b : Addr} {ob : Obj} (h : b≠a) : fz H a ob b = H b := by
  unfold fz
  cases e : H a with
  | none => rfl
  | some u => cases u <;> first | rfl | exact zat h
theorem zpS {xs : List V} {ob : Obj} (h : H a = some (.lst xs)) : fz H a ob = H := by
  unfold fz
  rw [h]
theorem zpT {ps : List (Key × V)} {ob : Obj} (h : H a = some (.dK ps)) : fz H a ob a = some (.frz ob (.dK ps)) := by
  unfold fz
  rw [h]; exact zam
theorem OwnO.fast (h : OwnO K G H a d) (ob : Obj) : OB K G (fz H a ob) a d := by
  cases h with
  | lst r s => rw [zpS r]; exact .lst (.inl r) s
  | dic r s => exact .dic (zpT r) s
theorem GOk.fast (g : GOk K G H) (hn : G a = none) (ob : Obj) : GOk K G (fz H a ob) := fun b d e => by
  have hb : b≠a := by rintro rfl; rw [hn] at e; cases e
  exact (g b d e).mono (fun _ _ z => z) fun o z => by rw [zkA hb]; exact z
theorem Grow.refl (g : GOk K G H) : Grow K G H G H := ⟨g,fun _ _ e => e,fun _ _ e => e,fun _ _ => rfl⟩
theorem Grow.trans (x : Grow K G H G1 H1) (y : Grow K G1 H1 G2 H2) : Grow K G H G2 H2 :=
  ⟨y.ok,fun a o e => y.he _ _ (x.he _ _ e),fun a d e => y.ge _ _ (x.ge _ _ e),fun a h => by
    have h1 : H1 a≠Option.none := by
      cases e : H a with
      | none => exact absurd e h
      | some o => rw [x.he _ _ e]; simp
    rw [y.gf a h1,x.gf a h]⟩
noncomputable def gset (G : GH) (a : Addr) (d : D) : GH := fun b => if b = a then some d else G b
theorem za9 : gset G a d a = some d := if_pos rfl
theorem zd4 {b : Addr} (h : b≠a) : gset G a d b = G b := if_neg h
theorem zcS (hn : G a = none) : ∀ b e,G b = some e→gset G a d b = some e := fun b e h => by
  have : b≠a := by rintro rfl; rw [hn] at h; cases h
  rw [zd4 this]; exact h
theorem GOk.gset (g : GOk K G H) (hn : G a = none) (o : OB K G H a d) : GOk K (gset G a d) H := fun b e h => by
  by_cases hb : b = a
  · subst hb; rw [za9] at h; cases h
    exact o.mono (zcS hn) fun _ q => q
  · rw [zd4 hb] at h
    exact (g b e h).mono (zcS hn) fun _ q => q
theorem zmv (hn : H p = none) {o : HO} : ∀ a u,H a = some u→upd H p o a = some u := fun a u e => by
  rw [zat (zbw e hn)]; exact e
theorem Grow.new (g : GOk K G H) (hn : H p = none) (o : HO) : Grow K G H G (upd H p o) :=
  ⟨fun a d e => (g a d e).mono (fun _ _ q => q) fun u q => zmv hn _ _ q,fun a u e => zmv hn _ _ e,fun _ _ e => e,fun _ _ => rfl⟩
theorem Grow.newF (g : GOk K G H) (hn : H p = none) {o : HO} (ob : OB K G (upd H p o) p d) : Grow K G H (gset G p d) (upd H p o) := by
  have w := Grow.new g hn o
  have gn := g.isN hn
  exact ⟨w.ok.gset gn ob,w.he,fun a e h => zcS gn a e h,fun a h => zd4 (by rintro rfl; exact h hn)⟩
theorem Grow.frz (w : Grow K G H G' H') (hn : H a = none) (o : Own K G' H' a d) (ob : Obj) : Grow K G H (gset G' a d) (fz H' a ob) :=
  ⟨(w.ok.fast o.un ob).gset o.un (o.ob.fast ob),fun b u e => by rw [zkA (by rintro rfl; rw [hn] at e; cases e)]; exact w.he b u e,fun b e h => zcS o.un b e (w.ge b e h),fun b h => by rw [zd4 (by rintro rfl; exact h hn)]; exact w.gf b h⟩
theorem RG.lst {ds : List D} (g : GOk K G H) (h : RG K G v (.lst ds)) : ∃ a xs,v = .ref a∧SqL K H a xs∧RGs K G xs ds := by
  cases h with
  | scl s => cases s
  | ref e =>
    cases g _ _ e with
    | lst r s => exact ⟨_,_,rfl,.inl r,s⟩
  | kc k =>
    cases k with
    | lst r s =>
      refine ⟨_,_,rfl,?_,Paired.mono (fun _ _ z => .scl z) s⟩
      rcases r with (r | ⟨o,r⟩) | r
      · cases r
      · cases r
      · exact .inr r
theorem RG.tup {ds : List D} (g : GOk K G H) (h : RG K G v (.tup ds)) : ∃ a xs,v = .ref a∧SqT K H a xs∧RGs K G xs ds := by
  cases h with
  | scl s => cases s
  | ref e =>
    cases g _ _ e with
    | tup r s => exact ⟨_,_,rfl,.inl r,s⟩
  | kc k =>
    cases k with
    | tup r s _ =>
      refine ⟨_,_,rfl,?_,Paired.mono (fun _ _ z => .scl z) s⟩
      rcases r with (r | ⟨o,r⟩) | r
      · cases r
      · cases r
      · exact .inr r
theorem RG.dic {kvs : List (Key × D)} (g : GOk K G H) (h : RG K G v (.dic kvs)) : ∃ a ps,v = .ref a∧Rd H a (.dK ps)∧RKs K G ps kvs := by
  cases h with
  | scl s => cases s
  | ref e =>
    cases g _ _ e with
    | dic r s => exact ⟨_,_,rfl,.inr ⟨_,r⟩,s⟩
  | kc k => cases k
theorem RG.int {i : Int} (g : GOk K G H) (h : RG K G v (.int i)) : v = .int i := by
  cases h with
  | scl s => cases s; rfl
  | ref e => cases g _ _ e
  | kc k => cases k
theorem RG.str {x : Str} (g : GOk K G H) (h : RG K G v (.str x)) : v = .str x := by
  cases h with
  | scl s => cases s; rfl
  | ref e => cases g _ _ e
  | kc k => cases k
theorem RG.bl {b : Bool} (g : GOk K G H) (h : RG K G v (.bl b)) : v = .bl b := by
  cases h with
  | scl s => cases s; rfl
  | ref e => cases g _ _ e
  | kc k => cases k
theorem RG.non (g : GOk K G H) (h : RG K G v .non) : v = .non := by
  cases h with
  | scl s => cases s; rfl
  | ref e => cases g _ _ e
  | kc k => cases k
noncomputable def RB (K : PySem.W.Frag) (G : GH) (H : Hp) (v : V) (d : D) : Prop := RG K G v d∨∃ a,v = .ref a∧Own K G H a d
theorem RG.rb (h : RG K G v d) : RB K G H v d := .inl h
theorem RB.mono (h : RB K G H v d) (w : Grow K G H G' H') : RB K G' H' v d := by
  rcases h with h | ⟨a,e,h⟩
  · exact .inl (h.mono w.ge)
  · exact .inr ⟨a,e,h.mono w⟩
theorem RB.lst {ds : List D} (g : GOk K G H) (h : RB K G H v (.lst ds)) : ∃ a xs,v = .ref a∧SqL K H a xs∧RGs K G xs ds := by
  rcases h with h | ⟨a,e,h⟩
  · exact h.lst g
  · cases h.ob with
    | lst r s => exact ⟨a,_,e,SqL.of r,s⟩
theorem RB.tup {ds : List D} (g : GOk K G H) (h : RB K G H v (.tup ds)) : ∃ a xs,v = .ref a∧SqT K H a xs∧RGs K G xs ds := by
  rcases h with h | ⟨a,e,h⟩
  · exact h.tup g
  · cases h.ob
theorem RB.dic {kvs : List (Key × D)} (g : GOk K G H) (h : RB K G H v (.dic kvs)) : ∃ a ps,v = .ref a∧Rd H a (.dK ps)∧RKs K G ps kvs := by
  rcases h with h | ⟨a,e,h⟩
  · exact h.dic g
  · cases h.ob with
    | dic r s => exact ⟨a,_,e,.inl r,s⟩
theorem RB.int {i : Int} (g : GOk K G H) (h : RB K G H v (.int i)) : v = .int i := by
  rcases h with h | ⟨a,e,h⟩
  · exact h.int g
  · cases h.ob
theorem RB.str {x : Str} (g : GOk K G H) (h : RB K G H v (.str x)) : v = .str x := by
  rcases h with h | ⟨a,e,h⟩
  · exact h.str g
  · cases h.ob
theorem RB.bl {b : Bool} (g : GOk K G H) (h : RB K G H v (.bl b)) : v = .bl b := by
  rcases h with h | ⟨a,e,h⟩
  · exact h.bl g
  · cases h.ob
theorem RB.non (g : GOk K G H) (h : RB K G H v .non) : v = .non := by
  rcases h with h | ⟨a,e,h⟩
  · exact h.non g
  · cases h.ob
theorem Paired.get {α β : Type} {F : α→β→Prop} : ∀ {l : List α} {r : List β} {i : Nat} {b : β},Paired F l r→r[i]? = some b→∃ a,l[i]? = some a∧F a b
  | _,_,_,_,.nil,e => by simp at e
  | _,_,0,_,.cons h _,e => by simp at e; subst e; exact ⟨_,rfl,h⟩
  | _,_,i + 1,b,.cons _ t,e => by
    obtain ⟨a,h1,h2⟩ := Paired.get (i := i) t (by simpa using e)
    exact ⟨a,by simpa using h1,h2⟩
theorem Paired.app {α β : Type} {F : α→β→Prop} : ∀ {l l' : List α} {r r' : List β},Paired F l r→Paired F l' r'→Paired F (l++l') (r++r')
  | _,_,_,_,.nil,h => h
  | _,_,_,_,.cons h t,q => .cons h (Paired.app t q)
theorem Paired.tk {α β : Type} {F : α→β→Prop} : ∀ {l : List α} {r : List β} (n : Nat),Paired F l r→Paired F (l.take n) (r.take n)
  | _,_,0,_ => .nil
  | _,_,_ + 1,.nil => .nil
  | _,_,n + 1,.cons h t => .cons h (Paired.tk n t)
theorem Paired.dr {α β : Type} {F : α→β→Prop} : ∀ {l : List α} {r : List β} (n : Nat),Paired F l r→Paired F (l.drop n) (r.drop n)
  | _,_,0,h => h
  | _,_,_ + 1,.nil => .nil
  | _,_,n + 1,.cons _ t => Paired.dr n t
theorem Paired.st {α β : Type} {F : α→β→Prop} {a : α} {b : β} (h : F a b) : ∀ {l : List α} {r : List β} (n : Nat),Paired F l r→Paired F (l.set n a) (r.set n b)
  | _,_,_,.nil => .nil
  | _,_,0,.cons _ t => .cons h t
  | _,_,n + 1,.cons q t => .cons q (Paired.st h n t)
theorem Paired.er {α β : Type} {F : α→β→Prop} : ∀ {l : List α} {r : List β} (n : Nat),Paired F l r→Paired F (l.eraseIdx n) (r.eraseIdx n)
  | _,_,_,.nil => .nil
  | _,_,0,.cons _ t => t
  | _,_,n + 1,.cons q t => .cons q (Paired.er n t)
end
inductive Md where
  | sh | ow | bw
  deriving DecidableEq
noncomputable abbrev Rho := List (Option D)
structure GE where
  gh : GH
  h0 : Hp
  hd : Nat→Option (Option V × Option D)
noncomputable def Bw (K : PySem.W.Frag) (h0 : Hp) (G : GH) (H : Hp) (v : V) (d : D) : Prop := RG K G v d∨∃ a,v = V.ref a∧Own K G H a d∧h0 a≠none
theorem Bw.grow {K : PySem.W.Frag} {h0 : Hp} {G G' : GH} {H H' : Hp} {v : V} {d : D} (h : Bw K h0 G H v d) (w : Grow K G H G' H') : Bw K h0 G' H' v d := by
  rcases h with h | ⟨a,e,h1,h2⟩
  · exact .inl (h.mono w.ge)
  · exact .inr ⟨a,e,h1.mono w,h2⟩
theorem Bw.rb {K : PySem.W.Frag} {h0 : Hp} {G : GH} {H : Hp} {v : V} {d : D} (h : Bw K h0 G H v d) : RB K G H v d := by
  rcases h with h | ⟨a,e,h1,h2⟩
  · exact .inl h
  · exact .inr ⟨a,e,h1⟩
noncomputable def Lk (r : Rho) (st : L2.St) (i : Nat) (o : Option V × Option D) : Prop := st[i]? = some o.1∧∀ d,r[i]? = some (some d)→o.2 = some d
structure SI (X : Cx) (g : GE) (m : List Md) (r : Rho) (G : GH) (st : L2.St) (H : Hp) : Prop where
  gok : GOk X.K G H
  old : ∀ a o,g.h0 a = some o→H a = some o
  ge : ∀ a d,g.gh a = some d→G a = some d
  gf : ∀ a,g.h0 a≠none→G a = g.gh a
  lm : m.length = st.length
  lr : r.length = st.length
  sh : ∀ (i : Nat) d,r[i]? = some (some d)→m[i]? = some .sh→∃ v,st[i]? = some (some v)∧RG X.K G v d
  ow : ∀ (i : Nat) d,r[i]? = some (some d)→m[i]? = some .ow→∃ a,st[i]? = some (some (V.ref a))∧Own X.K G H a d∧g.h0 a = none
  bw : ∀ (i : Nat) d,r[i]? = some (some d)→m[i]? = some .bw→∃ v,st[i]? = some (some v)∧Bw X.K g.h0 G H v d
  dis : ∀ (i j : Nat) a d e,i≠j→r[i]? = some (some d)→r[j]? = some (some e)→m[i]? = some .ow→m[j]? = some .ow→st[i]? = some (some (V.ref a))→st[j]? = some (some (V.ref a))→False
  lk : ∀ (i : Nat) o,g.hd i = some o→m[i]? = some .bw→Lk r st i o
section
variable {X : Cx} {g : GE} {m : List Md} {r : Rho} {G G' : GH} {st : L2.St} {H H' : Hp}
theorem SI.grow (s : SI X g m r G st H) (w : Grow X.K G H G' H') : SI X g m r G' st H' where
  gok := w.ok
  old := fun a o e => w.he _ _ (s.old a o e)
  ge := fun a d e => w.ge _ _ (s.ge a d e)
  gf := fun a h => by
    have h1 : H a≠none := by
      cases e : g.h0 a with
      | none => exact absurd e h
      | some o => rw [s.old _ _ e]; simp
    rw [w.gf a h1,s.gf a h]
  lm := s.lm
  lr := s.lr
  sh := fun i d h1 h2 => by obtain ⟨v,h3,h4⟩ := s.sh i d h1 h2; exact ⟨v,h3,h4.mono w.ge⟩
  ow := fun i d h1 h2 => by obtain ⟨a,h3,h4,h5⟩ := s.ow i d h1 h2; exact ⟨a,h3,h4.mono w,h5⟩
  bw := fun i d h1 h2 => by obtain ⟨v,h3,h4⟩ := s.bw i d h1 h2; exact ⟨v,h3,h4.grow w⟩
  dis := s.dis
  lk := s.lk
theorem SI.grown (s : SI X g m r G st H) : Grow X.K g.gh g.h0 G H := ⟨s.gok,s.old,s.ge,s.gf⟩
theorem SI.frz (s : SI X g m r G st H) (i : Nat) (hi : m[i]? = some .ow) : (∃ G',(∀ a d,G a = some d→G' a = some d)∧SI X g (m.set i .sh) r G' st H)∨∃ a,∀ ob,∃ G',(∀ a d,G a = some d→G' a = some d)∧SI X g (m.set i .sh) r G' st (fz H a ob) := by
  have hlt : i < m.length := (List.getElem?_eq_some_iff.mp hi).1
  by_cases hb : ∃ d,r[i]? = some (some d)
  · obtain ⟨d,hd⟩ := hb
    obtain ⟨a,h1,h2,h3⟩ := s.ow i d hd hi
    refine .inr ⟨a,fun ob => ⟨gset G a d,zcS h2.un,(s.gok.fast h2.un ob).gset h2.un (h2.ob.fast ob),fun b o e => by rw [zkA (by rintro rfl; rw [h3] at e; cases e)]; exact s.old b o e,fun b e h => zcS h2.un b e (s.ge b e h),fun b h => ?_,by simpa using s.lm,s.lr,?_,?_,?_,?_,fun j o hj hm => ?_⟩⟩
    · rw [zd4 (by rintro rfl; exact h h3)]; exact s.gf b h
    · intro j e hj hm
      by_cases hij : i = j
      · subst hij
        rw [hd] at hj; cases hj
        exact ⟨_,h1,.ref za9⟩
      · rw [List.getElem?_set_ne hij] at hm
        obtain ⟨v,q1,q2⟩ := s.sh j e hj hm
        exact ⟨v,q1,q2.mono (zcS h2.un)⟩
    · intro j e hj hm
      by_cases hij : i = j
      · subst hij
        rw [List.getElem?_set_self hlt] at hm; cases hm
      · rw [List.getElem?_set_ne hij] at hm
        obtain ⟨b,q1,q2,q3⟩ := s.ow j e hj hm
        have hba : b≠a := by
          rintro rfl
          exact s.dis i j b d e hij hd hj hi hm h1 q1
        exact ⟨b,q1,⟨by rw [zd4 hba]; exact q2.un,q2.ob.mono (zcS h2.un) fun _ z => by rw [zkA hba]; exact z⟩,q3⟩
    · intro j e hj hm
      by_cases hij : i = j
      · subst hij
        rw [List.getElem?_set_self hlt] at hm; cases hm
      · rw [List.getElem?_set_ne hij] at hm
        obtain ⟨v,q1,q2⟩ := s.bw j e hj hm
        refine ⟨v,q1,?_⟩
        rcases q2 with q2 | ⟨b,rfl,q2,q3⟩
        · exact .inl (q2.mono (zcS h2.un))
        · have hba : b≠a := by rintro rfl; exact q3 h3
          exact .inr ⟨b,rfl,⟨by rw [zd4 hba]; exact q2.un,q2.ob.mono (zcS h2.un) fun _ z => by rw [zkA hba]; exact z⟩,q3⟩
    · intro j k b e e' hjk hj hk hm hm' q1 q2
      have hij : i≠j := by
        rintro rfl
        rw [List.getElem?_set_self hlt] at hm; cases hm
      have hik : i≠k := by
        rintro rfl
        rw [List.getElem?_set_self hlt] at hm'; cases hm'
      rw [List.getElem?_set_ne hij] at hm
      rw [List.getElem?_set_ne hik] at hm'
      exact s.dis j k b e e' hjk hj hk hm hm' q1 q2
    · refine s.lk j o hj ?_
      by_cases hij : i = j
      · subst hij; rw [List.getElem?_set_self hlt] at hm; cases hm
      · rw [List.getElem?_set_ne hij] at hm; exact hm
  · refine .inl ⟨G,fun _ _ z => z,s.gok,s.old,s.ge,s.gf,by simpa using s.lm,s.lr,?_,?_,?_,?_,fun j o hj hm => ?_⟩
    · intro j e hj hm
      have hij : i≠j := by rintro rfl; exact hb ⟨e,hj⟩
      rw [List.getElem?_set_ne hij] at hm
      exact s.sh j e hj hm
    · intro j e hj hm
      have hij : i≠j := by rintro rfl; exact hb ⟨e,hj⟩
      rw [List.getElem?_set_ne hij] at hm
      exact s.ow j e hj hm
    · intro j e hj hm
      have hij : i≠j := by rintro rfl; exact hb ⟨e,hj⟩
      rw [List.getElem?_set_ne hij] at hm
      exact s.bw j e hj hm
    · intro j k b e e' hjk hj hk hm hm' q1 q2
      have hij : i≠j := by rintro rfl; exact hb ⟨e,hj⟩
      have hik : i≠k := by rintro rfl; exact hb ⟨e',hk⟩
      rw [List.getElem?_set_ne hij] at hm
      rw [List.getElem?_set_ne hik] at hm'
      exact s.dis j k b e e' hjk hj hk hm hm' q1 q2
    · refine s.lk j o hj ?_
      by_cases hij : i = j
      · subst hij; rw [List.getElem?_set_self hlt] at hm; cases hm
      · rw [List.getElem?_set_ne hij] at hm; exact hm
end
end DL
end
section
namespace DL
open PySem PySem.Spec PyProof.Rows L2
theorem PE.imp {X : Cx} {e : Expr} {t t' : TE} (h : PE X e t) (i : ∀ σ H Q,t' σ H Q→t σ H Q) : PE X e t' := fun pins s σ H Q I q => h pins s σ H Q I (i σ H Q q)
theorem PT.imp {X : Cx} {e : Expr} {t t' : TT} (h : PT X e t) (i : ∀ σ H Q,t' σ H Q→t σ H Q) : PT X e t' := fun pins s σ H Q I q => h pins s σ H Q I (i σ H Q q)
theorem PW.imp {X : Cx} {e : Expr} {t t' : TT} (h : PW X e t) (i : ∀ σ H Q,t' σ H Q→t σ H Q) : PW X e t' := fun whole pins s σ H Q I q => h whole pins s σ H Q I (i σ H Q q)
theorem PA.imp {X : Cx} {e : List Expr} {t t' : TA} (h : PA X e t) (i : ∀ σ H Q,t' σ H Q→t σ H Q) : PA X e t' := fun pos pins s σ H Q I q => h pos pins s σ H Q I (i σ H Q q)
theorem PS.imp {X : Cx} {e : Stmt} {t t' : TS} (h : PS X e t) (i : ∀ D σ H,t' D σ H→t D σ H) : PS X e t' := fun pins s σ H D I q => h pins s σ H D I (i D σ H q)
theorem PSs.imp {X : Cx} {e : List Stmt} {t t' : TS} (h : PSs X e t) (i : ∀ D σ H,t' D σ H→t D σ H) : PSs X e t' := fun pins s σ H D I q => h pins s σ H D I (i D σ H q)
noncomputable def ExV (_X : Cx) (_G : GH) (_H : Hp) (_e : Value) (_x : D) : Prop := False
noncomputable def XW (X : Cx) (σ : L2.St) (G : GH) (H : Hp) (x : D) : Prop := ∀ pins e s' G' H',Grow X.K G H G' H'→Inv X pins σ H' s'→ExV X G' H' e x→X.xe e s'
theorem XW.grow {X : Cx} {σ : L2.St} {G G1 : GH} {H H1 : Hp} {x : D} (h : XW X σ G H x) (w : Grow X.K G H G1 H1) : XW X σ G1 H1 x := fun pins e s' G' H' w' I q => h pins e s' G' H' (w.trans w') I q
noncomputable abbrev FE := Rho→Res D
noncomputable def tE (X : Cx) (g : GE) (m : List Md) (f : FE) : TE := fun σ H Q => ∃ r G,SI X g m r G σ H∧fin (f r) (fun d => ∀ v G' H',Grow X.K G H G' H'→RG X.K G' v d→Q v H') (XW X σ G H)
noncomputable def tB (X : Cx) (g : GE) (m : List Md) (f : FE) : TE := fun σ H Q => ∃ r G,SI X g m r G σ H∧fin (f r) (fun d => ∀ v G' H',Grow X.K G H G' H'→RB X.K G' H' v d→Q v H') (XW X σ G H)
noncomputable def tO (X : Cx) (g : GE) (m : List Md) (f : FE) : TE := fun σ H Q => ∃ r G,SI X g m r G σ H∧fin (f r) (fun d => ∀ a G' H',Grow X.K G H G' H'→H a = none→Own X.K G' H' a d→Q (.ref a) H') (XW X σ G H)
noncomputable def tQ (X : Cx) (g : GE) (m : List Md) (f : Rho→Res Bool) : TT := fun σ H Q => ∃ r G,SI X g m r G σ H∧fin (f r) (fun b => ∀ G' H',Grow X.K G H G' H'→Q b H') (XW X σ G H)
noncomputable def tL (X : Cx) (g : GE) (m : List Md) (f : Rho→Res (List D)) : TA := fun σ H Q => ∃ r G,SI X g m r G σ H∧fin (f r) (fun ds => ∀ vs G' H',Grow X.K G H G' H'→RGs X.K G' vs ds→Q vs H') (XW X σ G H)
noncomputable def tLB (X : Cx) (g : GE) (m : List Md) (f : Rho→Res (List D)) : TA := fun σ H Q => ∃ r G,SI X g m r G σ H∧fin (f r) (fun ds => ∀ vs G' H',Grow X.K G H G' H'→Paired (RB X.K G' H') vs ds→Q vs H') (XW X σ G H)
noncomputable def SE (X : Cx) (g : GE) (m : List Md) (e : Expr) (f : FE) : Prop := PE X e (tE X g m f)
noncomputable def SB (X : Cx) (g : GE) (m : List Md) (e : Expr) (f : FE) : Prop := PE X e (tB X g m f)
noncomputable def SO (X : Cx) (g : GE) (m : List Md) (e : Expr) (f : FE) : Prop := PE X e (tO X g m f)
noncomputable def SQ (X : Cx) (g : GE) (m : List Md) (e : Expr) (f : Rho→Res Bool) : Prop := PT X e (tQ X g m f)
noncomputable def SW (X : Cx) (g : GE) (m : List Md) (e : Expr) (f : Rho→Res Bool) : Prop := PW X e (tQ X g m f)
noncomputable def SA (X : Cx) (g : GE) (m : List Md) (es : List Expr) (f : Rho→Res (List D)) : Prop := PA X es (tL X g m f)
noncomputable def SAB (X : Cx) (g : GE) (m : List Md) (es : List Expr) (f : Rho→Res (List D)) : Prop := PA X es (tLB X g m f)
section
variable {X : Cx} {g : GE} {m : List Md} {e a b c : Expr} {f fa fb fc : FE} {pos : Pos}
theorem SE.toB (h : SE X g m e f) : SB X g m e f := PE.imp h fun σ H Q ⟨r,G,si,q⟩ => ⟨r,G,si,zah q fun d k v G' H' w z => k v G' H' w z.rb⟩
theorem Inv.fast {pins : List (Addr × Obj)} {σ : L2.St} {H : Hp} {s : Shared} (I : Inv X pins σ H s) (a : Addr) : ∃ ob,Inv X pins σ (fz H a ob) s := by
  cases e : H a with
  | none => exact ⟨{ cls := .none,data := .fields #[] },by unfold fz; rw [e]; exact I⟩
  | some u =>
    cases u with
    | dK ps =>
      obtain ⟨z1,z2,vs,z3,o,es,ep,z4,z5⟩ := (show zaZ X.prog X.w H s.heap a (.dK ps) from I.hok a _ e)
      have ef : fz H a o = upd H a (.frz o (.dK ps)) := by unfold fz; rw [e]
      refine ⟨o,?_⟩
      rw [ef]
      exact I.write (t' := s.toks) (h' := s.heap) (x := a) (e := a) (by rw [e]; exact trivial) (.inl rfl) (fun b u _ q => q) ⟨o,z4⟩ (show zaZ X.prog X.w _ s.heap a (.frz o (.dK ps)) from ⟨z4,z1,z2,vs,z3,o,es,ep,z4,z5⟩)
    | _ => exact ⟨{ cls := .none,data := .fields #[] },by unfold fz; rw [e]; exact I⟩
theorem SO.toE (h : SO X g m e f) : SE X g m e f := by
  intro pins s σ H Q I ⟨r,G,si,q⟩
  refine thn (h pins s σ H (fun v H' => ∃ a,v = .ref a∧∀ ob,Q v (fz H' a ob)) I ⟨r,G,si,zah q fun d k a G' H' w hn o => ⟨a,rfl,fun ob => k _ _ _ (w.frz hn o ob) (.ref za9)⟩⟩) fun u s' ⟨v,H',I',rv,a,_,z⟩ => ?_
  obtain ⟨ob,I2⟩ := Inv.fast I' a
  exact ⟨v,_,I2,rv,z ob⟩
theorem SO.toB (h : SO X g m e f) : SB X g m e f := h.toE.toB
theorem zga {v : V} {d : D} (h : PE X e (tC v)) (s : Scl v d) : SE X g m e fun _ => .ok d :=
  PE.imp h fun σ H Q ⟨r,G,si,q⟩ => q v G H (Grow.refl si.gok) (.scl s)
theorem zao {i : Int} {j} : SE X g m (.Constant (.int i) j pos) fun _ => .ok (.int i) := zga zo4 (.int i)
theorem s_bl {i : Bool} {j} : SE X g m (.Constant (.bool i) j pos) fun _ => .ok (.bl i) := zga zqH (.bl i)
theorem zfC {j} : SE X g m (.Constant .none j pos) fun _ => .ok .non := zga zo2 .non
theorem ziV {i : Str} {j} : SE X g m (.Constant (.str i) j pos) fun _ => .ok (.str i) := zga zoZ (.str i)
noncomputable def getV (r : Rho) (i : Nat) : Res D := match r[i]? with
  | some (some d) => .ok d
  | _ => .stuck
theorem zgn {r : Rho} {i : Nat} {q : D→Prop} {x : D→Prop} (h : fin (getV r i) q x) : ∃ d,r[i]? = some (some d)∧q d := by
  unfold getV at h
  split at h
  · rename_i d e; exact ⟨d,e,h⟩
  · exact h.elim
theorem zqt (i : Nat) {x : Str} (hm : m[i]? = some .sh) (hN : X.N[i]? = some x) (hv : Vis X.env.scope x) (hd : (x == ("__debug__" : Str)) = false := by decide) (hcd : (x == ("__classdict__" : Str)) = false := by decide) :
    SE X g m (.Name x pos) fun r => getV r i := by
  refine PE.imp (zgY hN hv hd hcd) fun σ H Q ⟨r,G,si,q⟩ => ?_
  obtain ⟨d,e,k⟩ := zgn q
  obtain ⟨v,e1,e2⟩ := si.sh i d e hm
  exact ⟨v,e1,k v G H (Grow.refl si.gok) e2⟩
theorem zoC (i : Nat) {x : Str} (hm : i < m.length) (hN : X.N[i]? = some x) (hv : Vis X.env.scope x) (hd : (x == ("__debug__" : Str)) = false := by decide) (hcd : (x == ("__classdict__" : Str)) = false := by decide) :
    SB X g m (.Name x pos) fun r => getV r i := by
  refine PE.imp (zgY hN hv hd hcd) fun σ H Q ⟨r,G,si,q⟩ => ?_
  obtain ⟨d,e,k⟩ := zgn q
  have hm' : m[i]? = some m[i] := List.getElem?_eq_getElem hm
  cases h : m[i] with
  | sh =>
    obtain ⟨v,e1,e2⟩ := si.sh i d e (hm'.trans (by rw [h]))
    exact ⟨v,e1,k v G H (Grow.refl si.gok) e2.rb⟩
  | ow =>
    obtain ⟨v,e1,e2,_⟩ := si.ow i d e (hm'.trans (by rw [h]))
    exact ⟨_,e1,k _ G H (Grow.refl si.gok) (.inr ⟨v,rfl,e2⟩)⟩
  | bw =>
    obtain ⟨v,e1,e2⟩ := si.bw i d e (hm'.trans (by rw [h]))
    exact ⟨_,e1,k _ G H (Grow.refl si.gok) e2.rb⟩
theorem seq2 {β : Type} {k : D→D→Res β} {q : β→Prop} {R : V→V→Hp→Prop} {r : Rho} {G : GH} {σ : L2.St} {H : Hp} (si : SI X g m r G σ H)
    (h : fin ((fa r).bind fun d1 => (fb r).bind fun d2 => k d1 d2) q (XW X σ G H))
    (hk : ∀ d1 d2 v1 v2 G2 H2,Grow X.K G H G2 H2→RB X.K G2 H2 v1 d1→RB X.K G2 H2 v2 d2→fin (k d1 d2) q (XW X σ G H)→R v1 v2 H2) :
    tB X g m fa σ H fun v1 H1 => tB X g m fb σ H1 fun v2 H2 => R v1 v2 H2 := by
  refine ⟨r,G,si,zah (zaf h) fun d1 h1 v1 G1 H1 w1 r1 => ⟨r,G1,si.grow w1,?_⟩⟩
  cases e : fb r with
  | ok d2 =>
    rw [e] at h1
    exact fun v2 G2 H2 w2 r2 => hk d1 d2 v1 v2 G2 H2 (w1.trans w2) (r1.mono w2) r2 h1
  | exc x =>
    rw [e] at h1
    exact (show XW X σ G H x from h1).grow w1
  | stuck =>
    rw [e] at h1
    exact h1
noncomputable def opt {α : Type} : Option α→Res α
  | some a => .ok a
  | none => .stuck
@[simp] theorem opt_some {α : Type} (a : α) : opt (some a) = .ok a := rfl
@[simp] theorem opt_none {α : Type} : opt (none : Option α) = .stuck := rfl
theorem zav {α : Type} {o : Option α} {q : α→Prop} {x : D→Prop} (h : fin (opt o) q x) : ∃ a,o = some a∧q a := by
  cases o with
  | none => exact h.elim
  | some a => exact ⟨a,rfl,h⟩
noncomputable def OpD (K : PySem.W.Frag) (r : R2) (k : D→D→Option D) : Prop := ∀ (G : GH) (H : Hp) (v1 v2 : V) (d1 d2 d : D) (Q : VK),GOk K G H→RB K G H v1 d1→RB K G H v2 d2→k d1 d2 = some d →
  (∀ v G' H',Grow K G H G' H'→RG K G' v d→Q v H')→r v1 v2 H Q
noncomputable def f2 (fa fb : FE) (k : D→D→Option D) : FE := fun r => (fa r).bind fun d1 => (fb r).bind fun d2 => opt (k d1 d2)
theorem znd {R : R2} {k : D→D→Option D} (ho : OpD X.K R k) (h : PE X e (tOp R (tB X g m fa) (tB X g m fb))) : SE X g m e (f2 fa fb k) := by
  refine PE.imp h fun σ H Q ⟨r,G,si,q⟩ => ?_
  refine seq2 si q fun d1 d2 v1 v2 G2 H2 w r1 r2 q2 => ?_
  obtain ⟨d,e,q2⟩ := zav q2
  exact ho G2 H2 v1 v2 d1 d2 d Q w.ok r1 r2 e fun v G' H' w' z => q2 v G' H' (w.trans w') z
theorem zhI {op : Operator} {R : R2} {k : D→D→Option D} (hr : OpR X (binaryOp op) R) (ho : OpD X.K R k) (ha : SB X g m a fa) (hb : SB X g m b fb) : SE X g m (.BinOp a op b pos) (f2 fa fb k) := znd ho (zqF hr ha hb)
theorem zjy {op : CmpOp} {R : R2} {k : D→D→Option D} (hr : OpR X (compareOp op) R) (ho : OpD X.K R k) (ha : SB X g m a fa) (hb : SB X g m b fb) (hm : behindInMarks op b = false) : SE X g m (.Compare a [op] [b] pos) (f2 fa fb k) := znd ho (zns hr ha hb hm)
noncomputable def asB : D→Option Bool
  | .bl b => some b
  | _ => none
noncomputable def zax (f : FE) : Rho→Res Bool := fun r => (f r).bind fun d => opt (asB d)
theorem zgW {op : CmpOp} {R : R2} {k : D→D→Option D} (hr : OpR X (compareOp op) R) (ho : OpD X.K R k) (ha : SB X g m a fa) (hb : SB X g m b fb) (hm : behindInMarks op b = false) : SQ X g m (.Compare a [op] [b] pos) (zax (f2 fa fb k)) := by
  refine PT.imp (znk hr ha hb hm) fun σ H Q ⟨r,G,si,q⟩ => ?_
  have e : zax (f2 fa fb k) r = (fa r).bind fun d1 => (fb r).bind fun d2 => (opt (k d1 d2)).bind fun d => opt (asB d) := by
    unfold zax f2
    cases fa r with
    | ok d1 => cases fb r <;> rfl
    | exc _ => rfl
    | stuck => rfl
  rw [e] at q
  refine seq2 (R := fun x y H2 => R x y H2 fun x H' => ∃ k,x = V.bl k∧Q k H') si q fun d1 d2 v1 v2 G2 H2 w r1 r2 q3 => ?_
  obtain ⟨d,e,q3⟩ := zav (zaf q3)
  obtain ⟨b,eb,q3⟩ := zav q3
  cases d with
  | bl b' =>
    cases eb
    exact ho G2 H2 v1 v2 d1 d2 _ _ w.ok r1 r2 e fun v G' H' w' z => ⟨_,z.bl w'.ok,q3 G' H' (w.trans w')⟩
  | _ => cases eb
end
end DL
end
section
namespace DL
open PySem PySem.Spec PyProof.Rows L2
instance decMul (i j : Int) : Decidable (CMul i j) := by unfold CMul; infer_instance
instance decDiv (i j : Int) : Decidable (CDiv i j) := by unfold CDiv; infer_instance
instance decPow (i j : Int) : Decidable (CPow i j) := by unfold CPow; infer_instance
noncomputable def zhS (k : Int→Int→D) : D→D→Option D
  | .int a,.int b => some (k a b)
  | _,_ => none
noncomputable def zhe (C : Int→Int→Prop) [∀ a b,Decidable (C a b)] (k : Int→Int→D) : D→D→Option D
  | .int a,.int b => if C a b then some (k a b) else none
  | _,_ => none
@[simp] theorem ints2_int (k : Int→Int→D) (a b : Int) : zhS k (.int a) (.int b) = some (k a b) := rfl
@[simp] theorem intsC_int (C : Int→Int→Prop) [∀ a b,Decidable (C a b)] (k : Int→Int→D) (a b : Int) : zhe C k (.int a) (.int b) = if C a b then some (k a b) else none := rfl
section
variable {K : PySem.W.Frag}
theorem zeu {gv : Int→Int→V} {gd : Int→Int→D} (hs : ∀ i j,Scl (gv i j) (gd i j)) : OpD K (rI0 gv) (zhS gd) := by
  intro G H v1 v2 d1 d2 d Q g r1 r2 e q
  unfold zhS at e
  split at e
  · cases e
    exact ⟨_,_,r1.int g,r2.int g,q _ G H (Grow.refl g) (.scl (hs _ _))⟩
  · cases e
theorem ze0 {C : Int→Int→Prop} [∀ a b,Decidable (C a b)] {gv : Int→Int→V} {gd : Int→Int→D} (hs : ∀ i j,Scl (gv i j) (gd i j)) : OpD K (rI C gv) (zhe C gd) := by
  intro G H v1 v2 d1 d2 d Q g r1 r2 e q
  unfold zhe at e
  split at e
  · split at e
    · rename_i hc
      cases e
      exact ⟨_,_,r1.int g,r2.int g,hc,q _ G H (Grow.refl g) (.scl (hs _ _))⟩
    · cases e
  · cases e
end
noncomputable abbrev subI : D→D→Option D := zhS fun a b => .int (a - b)
noncomputable abbrev mulI : D→D→Option D := zhe CMul fun a b => .int (a * b)
noncomputable abbrev zja : D→D→Option D := zhe CDiv fun a b => .int (a / b)
noncomputable abbrev modI : D→D→Option D := zhe (fun _ b => 0 < b) fun a b => .int (a % b)
noncomputable abbrev powI : D→D→Option D := zhe CPow fun a b => .int (a ^ b.toNat)
noncomputable abbrev ltI : D→D→Option D := zhS fun a b => .bl (decide (a < b))
noncomputable abbrev leI : D→D→Option D := zhS fun a b => .bl (decide (a≤b))
noncomputable abbrev gtI : D→D→Option D := zhS fun a b => .bl (decide (b < a))
section
variable {X : Cx} {g : GE} {m : List Md} {e a b c : Expr} {f fa fb fc : FE} {pos : Pos}
theorem zqu (ha : SB X g m a fa) (hb : SB X g m b fb) : SE X g m (.BinOp a .Sub b pos) (f2 fa fb subI) := zhI zo7 (zeu fun _ _ => .int _) ha hb
theorem zhH (ha : SB X g m a fa) (hb : SB X g m b fb) : SE X g m (.BinOp a .Mult b pos) (f2 fa fb mulI) := zhI zpa (ze0 fun _ _ => .int _) ha hb
theorem zmC (ha : SB X g m a fa) (hb : SB X g m b fb) : SE X g m (.BinOp a .FloorDiv b pos) (f2 fa fb zja) := zhI znB (ze0 fun _ _ => .int _) ha hb
theorem zf9 (ha : SB X g m a fa) (hb : SB X g m b fb) : SE X g m (.BinOp a .Mod b pos) (f2 fa fb modI) := zhI zpb (ze0 fun _ _ => .int _) ha hb
theorem zqv (ha : SB X g m a fa) (hb : SB X g m b fb) : SE X g m (.BinOp a .Pow b pos) (f2 fa fb powI) := zhI zo8 (ze0 fun _ _ => .int _) ha hb
theorem s_lt (ha : SB X g m a fa) (hb : SB X g m b fb) : SE X g m (.Compare a [.Lt] [b] pos) (f2 fa fb ltI) := zjy znA (zeu fun _ _ => .bl _) ha hb (zdY _)
theorem q_lt (ha : SB X g m a fa) (hb : SB X g m b fb) : SQ X g m (.Compare a [.Lt] [b] pos) (zax (f2 fa fb ltI)) := zgW znA (zeu fun _ _ => .bl _) ha hb (zdY _)
theorem q_gt (ha : SB X g m a fa) (hb : SB X g m b fb) : SQ X g m (.Compare a [.Gt] [b] pos) (zax (f2 fa fb gtI)) := zgW zqK (zeu fun _ _ => .bl _) ha hb (zdY _)
noncomputable def f1 (fa : FE) (k : D→Option D) : FE := fun r => (fa r).bind fun d => opt (k d)
noncomputable def negI : D→Option D
  | .int a => some (.int (-a))
  | _ => none
@[simp] theorem negI_int (a : Int) : negI (.int a) = some (.int (-a)) := rfl
theorem zqx (ha : SB X g m a fa) : SE X g m (.UnaryOp .USub a pos) (f1 fa negI) := by
  refine PE.imp (zqE zom ha) fun σ H Q ⟨r,G,si,q⟩ => ⟨r,G,si,zah (zaf q) fun d q1 v G1 H1 w1 r1 => ?_⟩
  obtain ⟨d',e,q2⟩ := zav q1
  cases d with
  | int i =>
    cases e
    exact ⟨i,r1.int w1.ok,q2 _ G1 H1 w1 (.scl (.int _))⟩
  | _ => cases e
noncomputable def truD : D→Option Bool
  | .non => some false
  | .bl b => some b
  | .int i => some (i != 0)
  | .str y => if y.length≤sizeLine then some ((y.length : Int) != 0) else none
  | .lst ds => some (!ds.isEmpty)
  | .tup ds => some (!ds.isEmpty)
  | .dic kvs => some (!kvs.isEmpty)
  | .obj _ _ => none
theorem zfl {α β : Type} {F : α→β→Prop} {l : List α} {r : List β} (h : Paired F l r) : l.isEmpty = r.isEmpty := by cases h <;> rfl
theorem zm1 {K : PySem.W.Frag} {G : GH} {H : Hp} {v : V} {d : D} {b : Bool} (gk : GOk K G H) (h : RB K G H v d) (e : truD d = some b) : TruV K v H b := by
  cases d with
  | non => cases e; rw [h.non gk]; rfl
  | bl b' => cases e; rw [h.bl gk]; rfl
  | int i => cases e; rw [h.int gk]; rfl
  | str y =>
    rw [h.str gk]
    have e' : (if y.length≤sizeLine then some ((y.length : Int) != 0) else none) = some b := e
    by_cases hy : y.length≤sizeLine
    · rw [if_pos hy] at e'; cases e'; exact ⟨hy,rfl⟩
    · rw [if_neg hy] at e'; cases e'
  | lst ds =>
    cases e
    obtain ⟨a,xs,rfl,s,r⟩ := h.lst gk
    exact .inl ⟨xs,s,by rw [zfl r]⟩
  | tup ds =>
    cases e
    obtain ⟨a,xs,rfl,s,r⟩ := h.tup gk
    exact .inr (.inl ⟨xs,s,by rw [zfl r]⟩)
  | dic kvs =>
    cases e
    obtain ⟨a,xs,rfl,s,r⟩ := h.dic gk
    exact .inr (.inr ⟨xs,s,by rw [zfl r]⟩)
  | obj _ _ => cases e
noncomputable def fTru (f : FE) : Rho→Res Bool := fun r => (f r).bind fun d => opt (truD d)
theorem zei (ha : SB X g m a fa) (he : ∀ whole,isTrue a X.env whole = (do let v ← whole; standAt a.pos; holding [v] (truthy v)) := by intro _; rfl) : SQ X g m a (fTru fa) := by
  refine PT.imp (zlI ha he) fun σ H Q ⟨r,G,si,q⟩ => ⟨r,G,si,zah (zaf q) fun d q1 v G1 H1 w1 r1 => ?_⟩
  obtain ⟨b,e,q2⟩ := zav q1
  exact ⟨b,zm1 w1.ok r1 e,q2 G1 H1 w1⟩
noncomputable abbrev FQ := Rho→Res Bool
noncomputable def fAnd (p q : FQ) : FQ := fun r => (p r).bind fun c => if c = true then q r else .ok false
noncomputable def fOr (p q : FQ) : FQ := fun r => (p r).bind fun c => if c = true then .ok true else q r
noncomputable def fNot (p : FQ) : FQ := fun r => (p r).bind fun c => .ok (!c)
variable {p q : FQ} {rest : List Expr}
theorem zq2 {α : Type} {r : Res α} {q : α→Prop} {x x' : D→Prop} (h : fin r q x) (hx : ∀ e,x e→x' e) : fin r q x' := by
  cases r with
  | ok a => exact h
  | exc e => exact hx e h
  | stuck => exact h
theorem zaG {α : Type} {r : Res α} {σ : L2.St} {G G1 : GH} {H H1 : Hp} {P P' : α→Prop} (h : fin r P (XW X σ G H)) (w : Grow X.K G H G1 H1) (hp : ∀ a,P a→P' a) : fin r P' (XW X σ G1 H1) := zq2 (zah h hp) fun _ x => x.grow w
theorem zin (ha : SQ X g m a p) : SW X g m (.BoolOp .And [a] pos) p := znj ha
theorem zjI (ha : SQ X g m a p) : SW X g m (.BoolOp .Or [a] pos) p := zoP ha
theorem zlG (ha : SQ X g m a p) (hb : SW X g m (.BoolOp .And (b::rest) pos) q) : SW X g m (.BoolOp .And (a::b::rest) pos) (fAnd p q) := by
  refine PW.imp (zoQ ha hb) fun σ H Q ⟨r,G,si,k⟩ => ⟨r,G,si,zah (zaf k) fun c k1 G1 H1 w1 => ?_⟩
  cases c with
  | true => rw [if_pos rfl] at k1 ⊢; exact ⟨r,G1,si.grow w1,zaG k1 w1 fun b z G' H' w' => z G' H' (w1.trans w')⟩
  | false => rw [if_neg Bool.false_ne_true] at k1 ⊢; exact k1 G1 H1 w1
theorem q_or (ha : SQ X g m a p) (hb : SW X g m (.BoolOp .Or (b::rest) pos) q) : SW X g m (.BoolOp .Or (a::b::rest) pos) (fOr p q) := by
  refine PW.imp (zqB ha hb) fun σ H Q ⟨r,G,si,k⟩ => ⟨r,G,si,zah (zaf k) fun c k1 G1 H1 w1 => ?_⟩
  cases c with
  | true => rw [if_pos rfl] at k1 ⊢; exact k1 G1 H1 w1
  | false => rw [if_neg Bool.false_ne_true] at k1 ⊢; exact ⟨r,G1,si.grow w1,zaG k1 w1 fun b z G' H' w' => z G' H' (w1.trans w')⟩
theorem SW.toQ (h : SW X g m e p) : SQ X g m e p := PW.pt h
theorem zgV (ha : SQ X g m a p) : SQ X g m (.UnaryOp .Not a pos) (fNot p) :=
  PT.imp (zoS ha) fun σ H Q ⟨r,G,si,k⟩ => ⟨r,G,si,zah (zaf k) fun c k1 G1 H1 w1 => k1 G1 H1 w1⟩
noncomputable def vAnd (fa fb : FE) : FE := fun r => (fa r).bind fun d => (opt (asB d)).bind fun c => if c = true then fb r else .ok (.bl false)
noncomputable def vOr (fa fb : FE) : FE := fun r => (fa r).bind fun d => (opt (asB d)).bind fun c => if c = true then .ok (.bl true) else fb r
noncomputable def vNot (fa : FE) : FE := fun r => (fa r).bind fun d => (opt (asB d)).bind fun c => .ok (.bl (!c))
theorem zoD {op} (h : SE X g m a fa) : SE X g m (.BoolOp op [a] pos) fa := zo0 h
theorem zlz (ha : SE X g m a fa) (hb : SE X g m (.BoolOp .And (b::rest) pos) fb) : SE X g m (.BoolOp .And (a::b::rest) pos) (vAnd fa fb) := by
  refine PE.imp (zo6 ha hb) fun σ H Q ⟨r,G,si,k⟩ => ⟨r,G,si,zah (zaf k) fun d k1 v G1 H1 w1 r1 => ?_⟩
  obtain ⟨c,e,k2⟩ := zav (zaf k1)
  cases d with
  | bl c' =>
    cases e
    refine ⟨_,r1.bl w1.ok,?_⟩
    cases c with
    | true => rw [if_pos rfl] at k2 ⊢; exact ⟨r,G1,si.grow w1,zaG k2 w1 fun b z v G' H' w' => z v G' H' (w1.trans w')⟩
    | false => rw [if_neg Bool.false_ne_true] at k2 ⊢; exact k2 _ G1 H1 w1 (.scl (.bl _))
  | _ => cases e
theorem zqw (ha : SE X g m a fa) : SE X g m (.UnaryOp .Not a pos) (vNot fa) := by
  refine PE.imp (zo1 ha) fun σ H Q ⟨r,G,si,k⟩ => ⟨r,G,si,zah (zaf k) fun d k1 v G1 H1 w1 r1 => ?_⟩
  obtain ⟨c,e,k2⟩ := zav (zaf k1)
  cases d with
  | bl c' => cases e; exact ⟨_,r1.bl w1.ok,k2 _ G1 H1 w1 (.scl (.bl _))⟩
  | _ => cases e
noncomputable def fIf (p : FQ) (fa fb : FE) : FE := fun r => (p r).bind fun c => if c = true then fa r else fb r
theorem zoE (hc : SQ X g m c p) (ha : SE X g m a fa) (hb : SE X g m b fb) : SE X g m (.IfExp c a b pos) (fIf p fa fb) := by
  refine PE.imp (zlO hc ha hb) fun σ H Q ⟨r,G,si,k⟩ => ⟨r,G,si,zah (zaf k) fun c k1 G1 H1 w1 => ?_⟩
  cases c with
  | true => rw [if_pos rfl] at k1 ⊢; exact ⟨r,G1,si.grow w1,zaG k1 w1 fun b z v G' H' w' => z v G' H' (w1.trans w')⟩
  | false => rw [if_neg Bool.false_ne_true] at k1 ⊢; exact ⟨r,G1,si.grow w1,zaG k1 w1 fun b z v G' H' w' => z v G' H' (w1.trans w')⟩
variable {es : List Expr} {fl fr : Rho → Res (List D)}
noncomputable def lNil : Rho→Res (List D) := fun _ => .ok []
noncomputable def zab (fa : FE) (fl : Rho→Res (List D)) : Rho→Res (List D) := fun r => (fa r).bind fun d => (fl r).bind fun ds => .ok (d::ds)
theorem zbE : SA X g m [] lNil := PA.imp zdW fun σ H Q ⟨r,G,si,k⟩ => k [] G H (Grow.refl si.gok) .nil
theorem zba (ha : SE X g m e fa) (hr : SA X g m es fl) (hs : starEach (e::es) X.env = (false,eval e X.env)::starEach es X.env := by rfl) : SA X g m (e::es) (zab fa fl) := by
  refine PA.imp (zbJ ha hr hs) fun σ H Q ⟨r,G,si,k⟩ => ⟨r,G,si,zah (zaf k) fun d k1 v G1 H1 w1 r1 => ⟨r,G1,si.grow w1,?_⟩⟩
  exact zaG (zaf k1) w1 fun ds z vs G2 H2 w2 r2 => z (v::vs) G2 H2 (w1.trans w2) (.cons (r1.mono w2.ge) r2)
theorem zaH : SAB X g m [] lNil := PA.imp zdW fun σ H Q ⟨r,G,si,k⟩ => k [] G H (Grow.refl si.gok) .nil
theorem zap (ha : SB X g m e fa) (hr : SAB X g m es fl) (hs : starEach (e::es) X.env = (false,eval e X.env)::starEach es X.env := by rfl) : SAB X g m (e::es) (zab fa fl) := by
  refine PA.imp (zbJ ha hr hs) fun σ H Q ⟨r,G,si,k⟩ => ⟨r,G,si,zah (zaf k) fun d k1 v G1 H1 w1 r1 => ⟨r,G1,si.grow w1,?_⟩⟩
  exact zaG (zaf k1) w1 fun ds z vs G2 H2 w2 r2 => z (v::vs) G2 H2 (w1.trans w2) (.cons (r1.mono w2) r2)
noncomputable def sz (ds : List D) : Option (List D) := if ds.length≤sizeLine then some ds else none
theorem zm3 {ds ds' : List D} (h : sz ds = some ds') : ds' = ds∧ds.length≤sizeLine := by
  unfold sz at h; split at h
  · rename_i hl; cases h; exact ⟨rfl,hl⟩
  · cases h
theorem zqr {ds : List D} (h : ds.length≤sizeLine) : sz ds = some ds := if_pos h
noncomputable def mkT (fl : Rho→Res (List D)) : FE := fun r => (fl r).bind fun ds => (opt (sz ds)).bind fun ds => .ok (.tup ds)
noncomputable def mkL (fl : Rho→Res (List D)) : FE := fun r => (fl r).bind fun ds => (opt (sz ds)).bind fun ds => .ok (.lst ds)
theorem ziU {x1} (h : SA X g m es fl) : SE X g m (.Tuple es x1 pos) (mkT fl) := by
  refine PE.imp (zoY h) fun σ H Q ⟨r,G,si,k⟩ => ⟨r,G,si,zah (zaf k) fun ds k1 vs G1 H1 w1 r1 => ?_⟩
  obtain ⟨ds',e,k2⟩ := zav (zaf k1)
  obtain ⟨rfl,hl⟩ := zm3 e
  have hlen := Paired.length r1
  refine ⟨by omega,fun p hp => ?_⟩
  exact k2 _ _ _ (w1.trans (Grow.newF (d := .tup ds') w1.ok hp (.tup (.inl zam) r1))) (.ref za9)
theorem zd3 (h : SA X g m es fl) : SO X g m (.List es pos) (mkL fl) := by
  refine PE.imp (zo3 h) fun σ H Q ⟨r,G,si,k⟩ => ⟨r,G,si,zah (zaf k) fun ds k1 vs G1 H1 w1 r1 => ?_⟩
  obtain ⟨ds',e,k2⟩ := zav (zaf k1)
  obtain ⟨rfl,hl⟩ := zm3 e
  have hlen := Paired.length r1
  refine ⟨by omega,fun p hp => ?_⟩
  have hn : H p = none := by
    cases q : H p with
    | none => rfl
    | some o => rw [w1.he _ _ q] at hp; cases hp
  exact k2 p G1 _ (w1.trans (Grow.new w1.ok hp _)) hn ⟨w1.ok.isN hp,.lst zam r1⟩
end
end DL
end
section
namespace DL
open PySem PySem.Spec PyProof.Rows L2
noncomputable def zmt (K : PySem.W.Frag) (r : List V→Hp→VK→Prop) (k : List D→Option D) : Prop := ∀ (G : GH) (H : Hp) (vs : List V) (ds : List D) (d : D) (Q : VK),GOk K G H→Paired (RB K G H) vs ds→k ds = some d →
  (∀ v G' H',Grow K G H G' H'→RG K G' v d→Q v H')→r vs H Q
noncomputable def zqe (K : PySem.W.Frag) (r : List V→Hp→VK→Prop) (k : List D→Option D) : Prop := ∀ (G : GH) (H : Hp) (vs : List V) (ds : List D) (d : D) (Q : VK),GOk K G H→Paired (RB K G H) vs ds→k ds = some d →
  (∀ a G' H',Grow K G H G' H'→H a = none→Own K G' H' a d→Q (.ref a) H')→r vs H Q
noncomputable def fC (fl : Rho→Res (List D)) (k : List D→Option D) : FE := fun r => (fl r).bind fun ds => opt (k ds)
theorem Grow.back {K : PySem.W.Frag} {G G1 : GH} {H H1 : Hp} (w : Grow K G H G1 H1) {a : Addr} (hn : H1 a = none) : H a = none := by
  cases q : H a with
  | none => rfl
  | some o => rw [w.he _ _ q] at hn; cases hn
section
variable {X : Cx} {g : GE} {m : List Md} {e a b c : Expr} {f fa fb fc : FE} {pos p p2 : Pos} {es : List Expr} {fl : Rho → Res (List D)} {x : Str} {id T : String} {R : List V → Hp → VK → Prop} {k : List D → Option D}
theorem s_cb (hk : zmt X.K R k) (h : PE X e (tCB R (tLB X g m fl))) : SE X g m e (fC fl k) := by
  refine PE.imp h fun σ H Q ⟨r,G,si,q⟩ => ⟨r,G,si,zah (zaf q) fun ds q1 vs G1 H1 w1 r1 => ?_⟩
  obtain ⟨d,e,q2⟩ := zav q1
  exact hk G1 H1 vs ds d Q w1.ok r1 e fun v G' H' w' z => q2 v G' H' (w1.trans w') z
theorem zoF (hk : zqe X.K R k) (h : PE X e (tCB R (tLB X g m fl))) : SO X g m e (fC fl k) := by
  refine PE.imp h fun σ H Q ⟨r,G,si,q⟩ => ⟨r,G,si,zah (zaf q) fun ds q1 vs G1 H1 w1 r1 => ?_⟩
  obtain ⟨d,e,q2⟩ := zav q1
  exact hk G1 H1 vs ds d Q w1.ok r1 e fun v G' H' w' hn z => q2 v G' H' (w1.trans w') (w1.back hn) z
noncomputable def lenD : List D→Option D
  | [.str y] => if y.length≤sizeLine then some (.int y.length) else none
  | [.lst ds] => some (.int ds.length)
  | [.tup ds] => some (.int ds.length)
  | [.dic kvs] => some (.int kvs.length)
  | _ => none
theorem zpu {K : PySem.W.Frag} : zmt K (fun xs H Q => (∃ x n,xs = [x]∧LenV K x H n∧Q (.int n) H)∨∃ a kvs,xs = [V.ref a]∧Rd H a (.dK kvs)∧Q (.int kvs.length) H) lenD := by
  intro G H vs ds d Q gk rs e q
  unfold lenD at e
  split at e
  · split at e
    · cases e
      cases rs with
      | cons r t => cases t; exact .inl ⟨_,_,rfl,by rw [r.str gk]; exact ⟨by assumption,rfl⟩,q _ G H (Grow.refl gk) (.scl (.int _))⟩
    · cases e
  · cases e
    cases rs with
    | cons r t =>
      cases t
      obtain ⟨a,xs,rfl,s,r⟩ := r.lst gk
      have := Paired.length r
      exact .inl ⟨_,_,rfl,.inl ⟨xs,s,rfl⟩,q _ G H (Grow.refl gk) (.scl (by rw [this]; exact .int _))⟩
  · cases e
    cases rs with
    | cons r t =>
      cases t
      obtain ⟨a,xs,rfl,s,r⟩ := r.tup gk
      have := Paired.length r
      exact .inl ⟨_,_,rfl,.inr ⟨xs,s,rfl⟩,q _ G H (Grow.refl gk) (.scl (by rw [this]; exact .int _))⟩
  · cases e
    cases rs with
    | cons r t =>
      cases t
      obtain ⟨a,xs,rfl,s,r⟩ := r.dic gk
      have := Paired.length r
      exact .inr ⟨_,_,rfl,s,q _ G H (Grow.refl gk) (.scl (by rw [this]; exact .int _))⟩
  · cases e
theorem zc9 (hg : Gl X "len") (hm : X.mg "len" = none) (ha : SAB X g m (e::es) fl) (he : starEach (e::es) X.env = (false,eval e X.env)::starEach es X.env := by rfl) (hpl : (backTo pos (starEach es X.env)).any (·.1) = false := by rfl) :
    SE X g m (.Call (.Name "len" p) (e::es) [] pos) (fC fl lenD) := s_cb zpu (zej (zdk.or zmj zk3) hg hm PySem.boot_len ha (by decide) (by decide) he hpl)
noncomputable def zi7 : List D→Option D
  | [.lst ds] => some (.lst ds)
  | [.tup ds] => some (.lst ds)
  | _ => none
theorem znN {K : PySem.W.Frag} : zqe K (fun xs H Q => ∃ p ys,xs = [.ref p]∧(SqL K H p ys∨SqT K H p ys)∧∀ l,H l = none→Q (.ref l) (upd H l (.lst ys))) zi7 := by
  intro G H vs ds d Q gk rs e q
  have fin : ∀ {ys : List V} {zs : List D},RGs K G ys zs→(∀ (a : Addr) (G' : GH) (H' : Hp),Grow K G H G' H'→H a = none→Own K G' H' a (.lst zs)→Q (.ref a) H')→∀ l,H l = none→Q (.ref l) (upd H l (.lst ys)) :=
    fun r q l hl => q l G _ (Grow.new gk hl _) hl ⟨gk.isN hl,.lst zam r⟩
  unfold zi7 at e
  split at e
  · cases e
    cases rs with
    | cons r t =>
      cases t
      obtain ⟨a,xs,rfl,s,r⟩ := r.lst gk
      exact ⟨a,xs,rfl,.inl s,fin r q⟩
  · cases e
    cases rs with
    | cons r t =>
      cases t
      obtain ⟨a,xs,rfl,s,r⟩ := r.tup gk
      exact ⟨a,xs,rfl,.inr s,fin r q⟩
  · cases e
theorem zpg (hg : Gl X "list") (hm : X.mg "list" = none) (ha : SAB X g m (e::es) fl) (he : starEach (e::es) X.env = (false,eval e X.env)::starEach es X.env := by rfl) (hpl : (backTo pos (starEach es X.env)).any (·.1) = false := by rfl) :
    SO X g m (.Call (.Name "list" p) (e::es) [] pos) (fC fl zi7) := zoF znN (zcY zhq hg hm rfl ha (by decide) (by decide) he hpl)
noncomputable def tupD : List D→Option D
  | [.lst ds] => some (.tup ds)
  | [.tup ds] => some (.tup ds)
  | _ => none
theorem zor {K : PySem.W.Frag} : zmt K (fun xs H Q => ∃ p ys,xs = [.ref p]∧((SqL K H p ys∧∀ l,H l = none→Q (.ref l) (upd H l (.tup ys)))∨(SqT K H p ys∧Q (.ref p) H))) tupD := by
  intro G H vs ds d Q gk rs e q
  unfold tupD at e
  split at e
  · cases e
    cases rs with
    | cons r t =>
      cases t
      obtain ⟨a,xs,rfl,s,r⟩ := r.lst gk
      exact ⟨a,xs,rfl,.inl ⟨s,fun l hl => q _ _ _ (Grow.newF gk hl (.tup (.inl zam) r)) (.ref za9)⟩⟩
  · cases e
    cases rs with
    | cons r t =>
      cases t
      rcases r with r | ⟨a,_,o⟩
      · obtain ⟨a,xs,rfl,s,r'⟩ := r.tup gk
        exact ⟨a,xs,rfl,.inr ⟨s,q _ G H (Grow.refl gk) r⟩⟩
      · cases o.ob
  · cases e
theorem zfc (hg : Gl X "tuple") (hm : X.mg "tuple" = none) (ha : SAB X g m (e::es) fl) (he : starEach (e::es) X.env = (false,eval e X.env)::starEach es X.env := by rfl) (hpl : (backTo pos (starEach es X.env)).any (·.1) = false := by rfl) :
    SE X g m (.Call (.Name "tuple" p) (e::es) [] pos) (fC fl tupD) := s_cb zor (zcY zgs hg hm rfl ha (by decide) (by decide) he hpl)
noncomputable def ixD : D→D→Option D
  | .lst ds,.int i => atI ds i
  | .tup ds,.int i => atI ds i
  | .str z,.int i => if z.length≤sizeLine then (atI z.cps.toList i).map fun c => .str ⟨#[c]⟩ else none
  | _,_ => none
theorem zqa {K : PySem.W.Frag} {G : GH} {xs : List V} {ds : List D} {i : Int} {d : D} (r : RGs K G xs ds) (h : atI ds i = some d) : ∃ v,atI xs i = some v∧RG K G v d := by
  unfold atI at h ⊢
  rw [Paired.length r]
  cases e : ixN ds.length i with
  | none => rw [e] at h; cases h
  | some j =>
    rw [e] at h
    exact Paired.get r h
theorem znT {K : PySem.W.Frag} : OpD K (rIx K) ixD := by
  intro G H v1 v2 d1 d2 d Q gk r1 r2 e q
  unfold ixD at e
  split at e
  · obtain ⟨a,xs,rfl,s,r⟩ := r1.lst gk
    obtain ⟨v,ev,rv⟩ := zqa r e
    exact .inl ⟨a,xs,_,v,rfl,r2.int gk,s,ev,q v G H (Grow.refl gk) rv⟩
  · obtain ⟨a,xs,rfl,s,r⟩ := r1.tup gk
    obtain ⟨v,ev,rv⟩ := zqa r e
    exact .inr (.inl ⟨a,xs,_,v,rfl,r2.int gk,s,ev,q v G H (Grow.refl gk) rv⟩)
  · split at e
    · rename_i z i hz
      cases ec : atI z.cps.toList i with
      | none => rw [ec] at e; cases e
      | some c =>
        rw [ec] at e; cases e
        exact .inr (.inr ⟨z,i,c,r1.str gk,r2.int gk,hz,ec,q _ G H (Grow.refl gk) (.scl (.str _))⟩)
    · cases e
  · cases e
noncomputable def cutL {α : Type} (xs : List α) (lo hi : Option Int) : List α := (xs.drop (HT.sIx xs.length 0 lo)).take (HT.sIx xs.length xs.length hi - HT.sIx xs.length 0 lo)
theorem zp7 {α β : Type} {F : α→β→Prop} {xs : List α} {ds : List β} (r : Paired F xs ds) (lo hi : Option Int) : Paired F (cutL xs lo hi) (cutL ds lo hi) := by
  unfold cutL
  rw [Paired.length r]
  exact Paired.tk _ (Paired.dr _ r)
noncomputable abbrev FP := Rho→Res (Option Int)
noncomputable def tP (X : Cx) (g : GE) (m : List Md) (f : FP) : TO := fun σ H Q => ∃ r G,SI X g m r G σ H∧fin (f r) (fun o => ∀ G' H',Grow X.K G H G' H'→Q o H') (XW X σ G H)
noncomputable def SP1 (X : Cx) (g : GE) (m : List Md) (e : Option Expr) (f : FP) : Prop := PO X e (tP X g m f)
theorem PO.imp {X : Cx} {e : Option Expr} {t t' : TO} (h : PO X e t) (i : ∀ σ H Q,t' σ H Q→t σ H Q) : PO X e t' := fun pins s σ H Q I q => h pins s σ H Q I (i σ H Q q)
noncomputable def asI : D→Option Int
  | .int i => some i
  | _ => none
noncomputable def zfp (f : FE) : FP := fun r => (f r).bind fun d => (opt (asI d)).bind fun i => .ok (some i)
theorem zfg : SP1 X g m none fun _ => .ok none := PO.imp zno fun σ H Q ⟨r,G,si,q⟩ => q G H (Grow.refl si.gok)
theorem zff (h : SB X g m e f) : SP1 X g m (some e) (zfp f) := by
  refine PO.imp (znn h) fun σ H Q ⟨r,G,si,q⟩ => ⟨r,G,si,zah (zaf q) fun d q1 v G1 H1 w1 r1 => ?_⟩
  obtain ⟨i,e,q2⟩ := zav (zaf q1)
  cases d with
  | int j => cases e; exact ⟨_,r1.int w1.ok,q2 G1 H1 w1⟩
  | _ => cases e
end
end DL
end
section
namespace DL
open PySem PySem.Spec PyProof.Rows L2
inductive Out where
  | nx (r : Rho) | rt (d : D) | bk (r : Rho) | ct (r : Rho) | exc (x : D) (r : Rho) | stuck
noncomputable abbrev FS := Rho→Out
noncomputable def Gle (G G' : GH) : Prop := ∀ a d,G a = some d→G' a = some d
theorem Gle.refl (G : GH) : Gle G G := fun _ _ e => e
theorem Gle.trans {G G1 G2 : GH} (a : Gle G G1) (b : Gle G1 G2) : Gle G G2 := fun x d e => b x d (a x d e)
noncomputable def forget (m : List Md) (r : Rho) : Rho := List.zipWith (fun md o => if md = Md.sh then o else none) m r
noncomputable def zfJ (m : List Md) : List Md := m.map fun _ => Md.sh
theorem zcZ {m : List Md} {r : Rho} {i : Nat} {d : D} (h : (forget m r)[i]? = some (some d)) : r[i]? = some (some d)∧m[i]? = some .sh := by
  unfold forget at h
  rw [List.getElem?_zipWith] at h
  cases e1 : m[i]? with
  | none => rw [e1] at h; cases h
  | some md =>
    cases e2 : r[i]? with
    | none => rw [e1,e2] at h; cases h
    | some o =>
      rw [e1,e2] at h
      have h' : (if md = Md.sh then o else none) = some d := Option.some.inj h
      split at h'
      · rename_i hm; subst hm; rw [h']; exact ⟨rfl,rfl⟩
      · cases h'
section
variable {X : Cx} {g : GE} {m : List Md} {r : Rho} {G : GH} {st : L2.St} {H : Hp}
theorem SI.forget (s : SI X g m r G st H) : SI X g (zfJ m) (forget m r) G st H where
  gok := s.gok
  old := s.old
  ge := s.ge
  gf := s.gf
  lm := by rw [zfJ,List.length_map]; exact s.lm
  lr := by rw [DL.forget,List.length_zipWith,s.lm,s.lr,Nat.min_self]
  sh := fun i d h _ => s.sh i d (zcZ h).1 (zcZ h).2
  ow := fun i d h hm => by rw [zfJ,List.getElem?_map,(zcZ h).2] at hm; cases hm
  bw := fun i d h hm => by rw [zfJ,List.getElem?_map,(zcZ h).2] at hm; cases hm
  dis := fun i j a d e _ h _ hm => by rw [zfJ,List.getElem?_map,(zcZ h).2] at hm; cases hm
  lk := fun i o _ hm => by rw [zfJ,List.getElem?_map] at hm; cases q : m[i]? <;> rw [q] at hm <;> cases hm
theorem SI.set (s : SI X g m r G st H) (i : Nat) {v : V} {d : D} (hv : RG X.K G v d) : SI X g (m.set i .sh) (r.set i (some d)) G (st.set i (some v)) H where
  gok := s.gok
  old := s.old
  ge := s.ge
  gf := s.gf
  lm := by simp [s.lm]
  lr := by simp [s.lr]
  sh := fun j e h hm => by
    by_cases hij : i = j
    · subst hij
      have hl : i < r.length := by
        have := (List.getElem?_eq_some_iff.mp h).1
        simpa using this
      rw [List.getElem?_set_self hl] at h
      cases h
      exact ⟨v,by rw [List.getElem?_set_self (by rw [← s.lr]; exact hl)],hv⟩
    · rw [List.getElem?_set_ne hij] at h hm
      rw [List.getElem?_set_ne hij]
      exact s.sh j e h hm
  ow := fun j e h hm => by
    by_cases hij : i = j
    · subst hij
      have hl : i < m.length := by
        have := (List.getElem?_eq_some_iff.mp hm).1
        simpa using this
      rw [List.getElem?_set_self hl] at hm; cases hm
    · rw [List.getElem?_set_ne hij] at h hm
      rw [List.getElem?_set_ne hij]
      exact s.ow j e h hm
  bw := fun j e h hm => by
    by_cases hij : i = j
    · subst hij
      have hl : i < m.length := by
        have := (List.getElem?_eq_some_iff.mp hm).1
        simpa using this
      rw [List.getElem?_set_self hl] at hm; cases hm
    · rw [List.getElem?_set_ne hij] at h hm
      rw [List.getElem?_set_ne hij]
      exact s.bw j e h hm
  dis := fun j k a d1 d2 hjk h1 h2 hm hm' q1 q2 => by
    have hij : i≠j := by
      rintro rfl
      have hl : i < m.length := by
        have := (List.getElem?_eq_some_iff.mp hm).1
        simpa using this
      rw [List.getElem?_set_self hl] at hm; cases hm
    have hik : i≠k := by
      rintro rfl
      have hl : i < m.length := by
        have := (List.getElem?_eq_some_iff.mp h2).1
        rw [List.length_set,s.lr,← s.lm] at this; exact this
      rw [List.getElem?_set_self hl] at hm'; cases hm'
    rw [List.getElem?_set_ne hij] at h1 hm q1
    rw [List.getElem?_set_ne hik] at h2 hm' q2
    exact s.dis j k a d1 d2 hjk h1 h2 hm hm' q1 q2
  lk := fun j o hj hm => by
    have hij : i≠j := by
      rintro rfl
      have hl : i < m.length := by
        have := (List.getElem?_eq_some_iff.mp hm).1
        simpa using this
      rw [List.getElem?_set_self hl] at hm; cases hm
    rw [List.getElem?_set_ne hij] at hm
    have := s.lk j o hj hm
    exact ⟨by rw [List.getElem?_set_ne hij]; exact this.1,fun d h => this.2 d (by rw [List.getElem?_set_ne hij] at h; exact h)⟩
theorem SI.setO (s : SI X g m r G st H) (i : Nat) {a : Addr} {d : D} (ho : Own X.K G H a d) (h0 : g.h0 a = none) (hx : ∀ (j : Nat) (b : Addr) (e : D),r[j]? = some (some e)→m[j]? = some Md.ow→st[j]? = some (some (V.ref b))→b≠a) :
    SI X g (m.set i .ow) (r.set i (some d)) G (st.set i (some (V.ref a))) H where
  gok := s.gok
  old := s.old
  ge := s.ge
  gf := s.gf
  lm := by simp [s.lm]
  lr := by simp [s.lr]
  sh := fun j e h hm => by
    by_cases hij : i = j
    · subst hij
      have hl : i < m.length := by
        have := (List.getElem?_eq_some_iff.mp hm).1
        simpa using this
      rw [List.getElem?_set_self hl] at hm; cases hm
    · rw [List.getElem?_set_ne hij] at h hm
      rw [List.getElem?_set_ne hij]
      exact s.sh j e h hm
  ow := fun j e h hm => by
    by_cases hij : i = j
    · subst hij
      have hl : i < r.length := by
        have := (List.getElem?_eq_some_iff.mp h).1
        simpa using this
      rw [List.getElem?_set_self hl] at h
      cases h
      exact ⟨a,by rw [List.getElem?_set_self (by rw [← s.lr]; exact hl)],ho,h0⟩
    · rw [List.getElem?_set_ne hij] at h hm
      rw [List.getElem?_set_ne hij]
      exact s.ow j e h hm
  bw := fun j e h hm => by
    by_cases hij : i = j
    · subst hij
      have hl : i < m.length := by
        have := (List.getElem?_eq_some_iff.mp hm).1
        simpa using this
      rw [List.getElem?_set_self hl] at hm; cases hm
    · rw [List.getElem?_set_ne hij] at h hm
      rw [List.getElem?_set_ne hij]
      exact s.bw j e h hm
  dis := fun j k b d1 d2 hjk h1 h2 hm hm' q1 q2 => by
    by_cases hij : i = j
    · subst hij
      rw [List.getElem?_set_ne hjk] at h2 hm' q2
      have hl : i < st.length := by
        have := (List.getElem?_eq_some_iff.mp q1).1
        simpa using this
      rw [List.getElem?_set_self hl] at q1
      have e : a = b := by injection q1 with q1; injection q1 with q1; injection q1
      exact hx k b d2 h2 hm' q2 e.symm
    · by_cases hik : i = k
      · subst hik
        rw [List.getElem?_set_ne hij] at h1 hm q1
        have hl : i < st.length := by
          have := (List.getElem?_eq_some_iff.mp q2).1
          simpa using this
        rw [List.getElem?_set_self hl] at q2
        have e : a = b := by injection q2 with q2; injection q2 with q2; injection q2
        exact hx j b d1 h1 hm q1 e.symm
      · rw [List.getElem?_set_ne hij] at h1 hm q1
        rw [List.getElem?_set_ne hik] at h2 hm' q2
        exact s.dis j k b d1 d2 hjk h1 h2 hm hm' q1 q2
  lk := fun j o hj hm => by
    have hij : i≠j := by
      rintro rfl
      have hl : i < m.length := by
        have := (List.getElem?_eq_some_iff.mp hm).1
        simpa using this
      rw [List.getElem?_set_self hl] at hm; cases hm
    rw [List.getElem?_set_ne hij] at hm
    have := s.lk j o hj hm
    exact ⟨by rw [List.getElem?_set_ne hij]; exact this.1,fun d h => this.2 d (by rw [List.getElem?_set_ne hij] at h; exact h)⟩
theorem SI.other (s : SI X g m r G st H) {p : Addr} (hp : G p = none) (h0 : g.h0 p = none) (hm : ∀ (i : Nat),m[i]?≠some Md.ow) (o : HO) : SI X g m r G st (upd H p o) where
  gok := fun b e h => (s.gok b e h).mono (fun _ _ z => z) fun o' q => by rw [zat (by rintro rfl; rw [hp] at h; cases h)]; exact q
  old := fun b o' h => by rw [zat (by rintro rfl; rw [h0] at h; cases h)]; exact s.old b o' h
  ge := s.ge
  gf := s.gf
  lm := s.lm
  lr := s.lr
  sh := s.sh
  ow := fun i d _ h => absurd h (hm i)
  bw := fun i d h1 h2 => by
    obtain ⟨v,h3,h4⟩ := s.bw i d h1 h2
    refine ⟨v,h3,?_⟩
    rcases h4 with h4 | ⟨a,rfl,h4,h5⟩
    · exact .inl h4
    · have ha : a≠p := by rintro rfl; exact h5 h0
      exact .inr ⟨a,rfl,⟨h4.un,h4.ob.mono (fun _ _ z => z) fun o' z => by rw [zat ha]; exact z⟩,h5⟩
  dis := fun i j a d e _ _ _ h => absurd h (hm i)
  lk := s.lk
theorem SI.less (s : SI X g m r G st H) {r' : Rho} (hl : r'.length = r.length) (h : ∀ (i : Nat) d,r'[i]? = some (some d)→r[i]? = some (some d)) : SI X g m r' G st H :=
  ⟨s.gok,s.old,s.ge,s.gf,s.lm,hl.trans s.lr,fun i d a b => s.sh i d (h i d a) b,fun i d a b => s.ow i d (h i d a) b,fun i d a b => s.bw i d (h i d a) b,fun i j a d e n p q x y => s.dis i j a d e n (h i d p) (h j e q) x y,fun i o hi hm => by
    have := s.lk i o hi hm
    exact ⟨this.1,fun d hd => this.2 d (h i d hd)⟩⟩
theorem SI.held (s : SI X g m r G st H) {j : Nat} {b : Addr} {e : D} (h : r[j]? = some (some e)) (hm : m[j]? = some .ow) (hs : st[j]? = some (some (V.ref b))) : H b≠none := by
  obtain ⟨a,h1,h2,_⟩ := s.ow j e h hm
  rw [hs] at h1
  injection h1 with h1; injection h1 with h1; injection h1 with h1
  rw [h1]; exact h2.ob.isS
theorem SI.setN (s : SI X g m r G st H) {G' : GH} {H' : Hp} (w : Grow X.K G H G' H') (i : Nat) {a : Addr} {d : D} (hn : H a = none) (ho : Own X.K G' H' a d) : SI X g (m.set i .ow) (r.set i (some d)) G' (st.set i (some (V.ref a))) H' := by
  refine (s.grow w).setO i ho ?_ fun j b e h1 h2 h3 => ?_
  · cases q : g.h0 a with
    | none => rfl
    | some o => rw [s.old _ _ q] at hn; cases hn
  · rintro rfl
    exact s.held h1 h2 h3 hn
theorem SI.mut (s : SI X g m r G st H) {i : Nat} {d : D} (hm : m[i]? = some .ow) (hd : r[i]? = some (some d)) :
    ∃ a,st[i]? = some (some (V.ref a))∧Own X.K G H a d∧∀ (o' : HO) (d' : D),OwnO X.K G (upd H a o') a d'→SI X g m (r.set i (some d')) G st (upd H a o') := by
  obtain ⟨a,h1,h2,h3⟩ := s.ow i d hd hm
  have hl : i < r.length := (List.getElem?_eq_some_iff.mp hd).1
  refine ⟨a,h1,h2,fun o' d' ob => ?_⟩
  have oth : ∀ (j : Nat) (b : Addr) (e : D),j≠i→r[j]? = some (some e)→m[j]? = some .ow→st[j]? = some (some (V.ref b))→b≠a := fun j b e hj q1 q2 q3 z => by
    subst z
    exact s.dis i j b d e (Ne.symm hj) hd q1 hm q2 h1 q3
  refine ⟨fun b e h => ?_,fun b o h => ?_,s.ge,s.gf,s.lm,by simp [s.lr],?_,?_,?_,?_,fun j o hj hm' => ?_⟩
  · have hb : b≠a := by rintro rfl; rw [h2.un] at h; cases h
    exact (s.gok b e h).mono (fun _ _ z => z) fun o q => by rw [zat hb]; exact q
  · have hb : b≠a := by rintro rfl; rw [h3] at h; cases h
    rw [zat hb]; exact s.old b o h
  · intro j e h hm'
    have hij : i≠j := by rintro rfl; rw [hm] at hm'; cases hm'
    rw [List.getElem?_set_ne hij] at h
    exact s.sh j e h hm'
  · intro j e h hm'
    by_cases hij : i = j
    · subst hij
      rw [List.getElem?_set_self hl] at h; cases h
      exact ⟨a,h1,⟨h2.un,ob⟩,h3⟩
    · rw [List.getElem?_set_ne hij] at h
      obtain ⟨b,q1,q2,q3⟩ := s.ow j e h hm'
      have hb := oth j b e (Ne.symm hij) h hm' q1
      exact ⟨b,q1,⟨q2.un,q2.ob.mono (fun _ _ z => z) fun o z => by rw [zat hb]; exact z⟩,q3⟩
  · intro j e h hm'
    have hij : i≠j := by rintro rfl; rw [hm] at hm'; cases hm'
    rw [List.getElem?_set_ne hij] at h
    obtain ⟨v,q1,q2⟩ := s.bw j e h hm'
    refine ⟨v,q1,?_⟩
    rcases q2 with q2 | ⟨b,rfl,q2,q3⟩
    · exact .inl q2
    · have hb : b≠a := by rintro rfl; exact q3 h3
      exact .inr ⟨b,rfl,⟨q2.un,q2.ob.mono (fun _ _ z => z) fun o z => by rw [zat hb]; exact z⟩,q3⟩
  · have bound : ∀ (j : Nat) e,(r.set i (some d'))[j]? = some (some e)→∃ e',r[j]? = some (some e') := fun j e h => by
      by_cases hij : i = j
      · subst hij; exact ⟨d,hd⟩
      · rw [List.getElem?_set_ne hij] at h; exact ⟨e,h⟩
    intro j k b d1 d2 hjk q1 q2 p1 p2 z1 z2
    obtain ⟨e1,q1⟩ := bound j d1 q1
    obtain ⟨e2,q2⟩ := bound k d2 q2
    exact s.dis j k b e1 e2 hjk q1 q2 p1 p2 z1 z2
  · have hij : i≠j := by rintro rfl; rw [hm] at hm'; cases hm'
    have := s.lk j o hj hm'
    exact ⟨this.1,fun d'' h => this.2 d'' (by rw [List.getElem?_set_ne hij] at h; exact h)⟩
end
noncomputable def RV (ro : Bool) (K : PySem.W.Frag) (H0 : Hp) (G : GH) (H : Hp) (v : V) (d : D) : Prop := match ro with
  | false => RG K G v d
  | true => (∃ a,v = .ref a∧H0 a = none∧Own K G H a d)∨(d = .non∧v = .non)
noncomputable def oTo (X : Cx) (g : GE) (ro : Bool) (m' mb : List Md) (G : GH) (D : Ends) : Out→Prop
  | .nx r' => ∀ σ' G' H',Gle G G'→SI X g m' r' G' σ' H'→D.nx σ' H'
  | .rt d => ∀ v G' H',Grow X.K g.gh g.h0 G' H'→RV ro X.K g.h0 G' H' v d→D.rt v H'
  | .bk r' => ∀ σ' G' H',Gle G G'→SI X g mb r' G' σ' H'→D.bk σ' H'
  | .ct r' => ∀ σ' G' H',Gle G G'→SI X g mb r' G' σ' H'→D.ct σ' H'
  | .exc x r' => ∀ pins e s' σ' G' H',Gle G G'→SI X g (zfJ m') r' G' σ' H'→Inv X pins σ' H' s'→ExV X G' H' e x→X.xe e s'
  | .stuck => False
noncomputable def tS (X : Cx) (g : GE) (ro : Bool) (m m' mb : List Md) (f : FS) : TS := fun D σ H => ∃ r G,SI X g m r G σ H∧oTo X g ro m' mb G D (f r)
noncomputable def SS (X : Cx) (g : GE) (ro : Bool) (mb m : List Md) (st : Stmt) (f : FS) (m' : List Md) : Prop := m'.length = m.length∧PS X st (tS X g ro m m' mb f)
noncomputable def SSs (X : Cx) (g : GE) (ro : Bool) (mb m : List Md) (st : List Stmt) (f : FS) (m' : List Md) : Prop := m'.length = m.length∧PSs X st (tS X g ro m m' mb f)
theorem zfv {m m' : List Md} (h : m'.length = m.length) : zfJ m' = zfJ m := by
  unfold zfJ
  rw [List.map_const',List.map_const',h]
theorem oTo.x {X : Cx} {g : GE} {ro : Bool} {m m' mb : List Md} {r : Rho} {G : GH} {D : Ends} {σ : L2.St} {H : Hp} {x : DL.D} (h : oTo X g ro m' mb G D (.exc x (forget m r))) (si : SI X g m r G σ H) (hl : m'.length = m.length) : XW X σ G H x :=
  fun pins e s' G' H' w I ex => h pins e s' σ G' H' w.ge (by rw [zfv hl]; exact (si.grow w).forget) I ex
section
variable {X : Cx} {g : GE} {ro : Bool} {m m' m1 mb : List Md} {e a b c tg : Expr} {f fa fb fc : FE} {p : FQ} {pos pos' : Pos} {st : Stmt} {sts sts' : List Stmt} {s1 s2 : FS}
theorem oTo.gle {G G1 : GH} {D : Ends} {o : Out} (h : oTo X g ro m' mb G D o) (w : Gle G G1) : oTo X g ro m' mb G1 D o := by
  cases o with
  | nx r' => exact fun σ' G' H' q si => h σ' G' H' (w.trans q) si
  | rt d => exact h
  | bk r' => exact fun σ' G' H' q si => h σ' G' H' (w.trans q) si
  | ct r' => exact fun σ' G' H' q si => h σ' G' H' (w.trans q) si
  | exc x r' => exact fun pins e s' σ' G' H' q => h pins e s' σ' G' H' (w.trans q)
  | stuck => exact h
noncomputable def seqF (s1 s2 : FS) : FS := fun r => match s1 r with
  | .nx r' => s2 r'
  | o => o
noncomputable def zak : FS := fun r => .nx r
theorem zag : SSs X g ro mb m [] zak m := ⟨rfl,PSs.imp znl fun D σ H ⟨r,G,si,q⟩ => q σ G H (Gle.refl G) si⟩
theorem zaa (h1 : SS X g ro mb m st s1 m1) (h2 : SSs X g ro mb m1 sts s2 m') : SSs X g ro mb m (st::sts) (seqF s1 s2) m' := by
  refine ⟨h2.1.trans h1.1,PSs.imp (zlJ h1.2 h2.2) fun D σ H ⟨r,G,si,q⟩ => ⟨r,G,si,?_⟩⟩
  unfold seqF at q
  cases e : s1 r with
  | nx r' =>
    rw [e] at q
    exact fun σ' G' H' w si' => ⟨r',G',si',oTo.gle q w⟩
  | rt d => rw [e] at q; exact q
  | bk r' => rw [e] at q; exact q
  | ct r' => rw [e] at q; exact q
  | exc x r' => rw [e] at q; exact fun pins e s' σ' G' H' w si' => q pins e s' σ' G' H' w (by rw [zfv h2.1]; exact si')
  | stuck => rw [e] at q; exact q
theorem zlx (i : Nat) (hi : m[i]? = some .ow) (h : SS X g ro mb (m.set i .sh) st s1 m') : SS X g ro mb m st s1 m' := by
  refine ⟨h.1.trans (by simp),fun pins s σ H D I ⟨r,G,si,q⟩ => ?_⟩
  rcases si.frz i hi with ⟨G',le,si'⟩ | ⟨a,z⟩
  · exact h.2 pins s σ H D I ⟨r,G',si',oTo.gle q le⟩
  · obtain ⟨ob,I2⟩ := Inv.fast I a
    obtain ⟨G',le,si'⟩ := z ob
    exact h.2 pins s σ _ D I2 ⟨r,G',si',oTo.gle q le⟩
noncomputable def onE {α : Type} (m : List Md) (r : Rho) (x : Res α) (k : α→Out) : Out := match x with
  | .ok a => k a
  | .exc e => .exc e (forget m r)
  | .stuck => .stuck
@[simp] theorem onE_ok {α : Type} (m : List Md) (r : Rho) (a : α) (k : α→Out) : onE m r (.ok a) k = k a := rfl
theorem zcb {α : Type} {x : Res α} {k : α→Out} {r : Rho} {G : GH} {D : Ends} {σ : L2.St} {H : Hp} (si : SI X g m r G σ H) (hl : m'.length = m.length) (h : oTo X g ro m' mb G D (onE m r x k)) : fin x (fun a => oTo X g ro m' mb G D (k a)) (XW X σ G H) := by
  cases x with
  | ok a => exact h
  | exc e => exact oTo.x h si hl
  | stuck => exact h
noncomputable def setF (m : List Md) (i : Nat) (f : FE) : FS := fun r => onE m r (f r) fun d => .nx (r.set i (some d))
theorem zcg (i : Nat) {x : Str} (hN : X.N.Nodup) (hi : X.N[i]? = some x) (hx : Loc X.env.scope x) (he : SE X g m e f) (hs : swapsWith e (some (.Name x pos')) pos.line X.env = pure false := by rfl)
    (hf : X.fn x = true∨X.env.scope.names.lookup x = some .local := by first | exact .inl rfl | exact .inr rfl | assumption) : SS X g ro mb m (.Assign [.Name x pos'] e pos) (setF m i f) (m.set i .sh) := by
  have hl : (m.set i .sh).length = m.length := by simp
  refine ⟨hl,PS.imp (zmE hN hi hx he hs hf) fun D σ H ⟨r,G,si,q⟩ => ⟨r,G,si,?_⟩⟩
  exact zah (zcb si hl q) fun d q v G' H' w rv => q _ G' H' w.ge ((si.grow w).set i rv)
theorem zdU (i : Nat) {x : Str} (hN : X.N.Nodup) (hi : X.N[i]? = some x) (hx : Loc X.env.scope x) (he : SO X g m e f) (hs : swapsWith e (some (.Name x pos')) pos.line X.env = pure false := by rfl)
    (hf : X.fn x = true∨X.env.scope.names.lookup x = some .local := by first | exact .inl rfl | exact .inr rfl | assumption) : SS X g ro mb m (.Assign [.Name x pos'] e pos) (setF m i f) (m.set i .ow) := by
  have hl : (m.set i .ow).length = m.length := by simp
  refine ⟨hl,PS.imp (zmE hN hi hx he hs hf) fun D σ H ⟨r,G,si,q⟩ => ⟨r,G,si,?_⟩⟩
  exact zah (zcb si hl q) fun d q a G' H' w hn ho => q _ G' H' w.ge (si.setN w i hn ho)
noncomputable def retF (m : List Md) (f : FE) : FS := fun r => onE m r (f r) fun d => .rt d
theorem zaE (he : SE X g m e f) : SS X g false mb m (.Return (some e) pos) (retF m f) m :=
  ⟨rfl,PS.imp (zoT he) fun D σ H ⟨r,G,si,q⟩ => ⟨r,G,si,zah (zcb si rfl q) fun d q v G' H' w rv => q v G' H' (si.grow w).grown rv⟩⟩
noncomputable def ifF (m : List Md) (p : FQ) (s1 s2 : FS) : FS := fun r => onE m r (p r) fun c => if c = true then s1 r else s2 r
theorem s_if (hc : SQ X g m c p) (h1 : SSs X g ro mb m sts s1 m') (h2 : SSs X g ro mb m sts' s2 m') : SS X g ro mb m (.If c sts sts' pos) (ifF m p s1 s2) m' := by
  refine ⟨h1.1,PS.imp (zqD hc h1.2 h2.2) fun D σ H ⟨r,G,si,q⟩ => ⟨r,G,si,zah (zcb si h1.1 q) fun c q G' H' w => ?_⟩⟩
  cases c with
  | true => rw [if_pos rfl] at q ⊢; exact ⟨r,G',si.grow w,oTo.gle q w.ge⟩
  | false => rw [if_neg Bool.false_ne_true] at q ⊢; exact ⟨r,G',si.grow w,oTo.gle q w.ge⟩
theorem zgI (i : Nat) (h : SSs X g ro mb m sts s1 m') (hi : m'[i]? = some .ow) : SSs X g ro mb m sts s1 (m'.set i .sh) := by
  refine ⟨by simp [h.1],fun pins s σ H D I ⟨r,G,si,q⟩ => ?_⟩
  refine thn (h.2 pins s σ H ⟨fun σ' H' => D.nx σ' H'∨∃ a,∀ ob,D.nx σ' (fz H' a ob),D.rt,D.bk,D.ct⟩ I ⟨r,G,si,?_⟩) fun f s' p => ?_
  · cases e : s1 r with
    | nx r' =>
      rw [e] at q
      intro σ' G' H' w si'
      rcases si'.frz i hi with ⟨G2,le,si2⟩ | ⟨a,z⟩
      · exact .inl (q σ' G2 H' (w.trans le) si2)
      · refine .inr ⟨a,fun ob => ?_⟩
        obtain ⟨G2,le,si2⟩ := z ob
        exact q σ' G2 _ (w.trans le) si2
    | rt d => rw [e] at q; exact q
    | bk r' => rw [e] at q; exact q
    | ct r' => rw [e] at q; exact q
    | exc x r' => rw [e] at q; exact fun pins e s' σ' G' H' w si' => q pins e s' σ' G' H' w (by rw [zfv (m := m') (by simp)]; exact si')
    | stuck => rw [e] at q; exact q
  · cases f with
    | next =>
      obtain ⟨σ',H',I',z | ⟨a,z⟩⟩ := p
      · exact ⟨σ',H',I',z⟩
      · obtain ⟨ob,I2⟩ := Inv.fast I' a
        exact ⟨σ',_,I2,z ob⟩
    | brk => exact p
    | cont => exact p
    | ret u => exact p
end
end DL
end
section
namespace DL
open PySem PySem.Spec PyProof.Rows L2
noncomputable abbrev FT := D→Rho→Option Rho
noncomputable abbrev FTs := List D→Rho→Option Rho
noncomputable def tG (X : Cx) (g : GE) (m m' : List Md) (ft : FT) : TG := fun v σ H Q => ∃ r G d,SI X g m r G σ H∧RG X.K G v d∧∃ r',ft d r = some r'∧∀ σ',SI X g m' r' G σ' H→Q σ' H
noncomputable def tGs (X : Cx) (g : GE) (m m' : List Md) (ft : FTs) : TGs := fun vs σ H Q => ∃ r G ds,SI X g m r G σ H∧RGs X.K G vs ds∧∃ r',ft ds r = some r'∧∀ σ',SI X g m' r' G σ' H→Q σ' H
theorem PG.imp {X : Cx} {e : Expr} {t t' : TG} (h : PG X e t) (i : ∀ v σ H Q,t' v σ H Q→t v σ H Q) : PG X e t' := fun pins s σ H v u Q I r q => h pins s σ H v u Q I r (i v σ H Q q)
theorem PGs.imp {X : Cx} {e : List Expr} {t t' : TGs} (h : PGs X e t) (i : ∀ v σ H Q,t' v σ H Q→t v σ H Q) : PGs X e t' := fun pins s σ H v u Q I r q => h pins s σ H v u Q I r (i v σ H Q q)
noncomputable def SG (X : Cx) (g : GE) (m : List Md) (tg : Expr) (ft : FT) (m' : List Md) : Prop := m'.length = m.length∧PG X tg (tG X g m m' ft)
structure SGs (X : Cx) (g : GE) (m : List Md) (ts : List Expr) (n : Nat) (ft : FTs) (m' : List Md) : Prop where
  ml : m'.length = m.length
  ln : ∀ ds r r',ft ds r = some r'→ds.length = n
  pg : PGs X ts (tGs X g m m' ft)
noncomputable def ftN (i : Nat) : FT := fun d r => some (r.set i (some d))
noncomputable def ftT (ft : FTs) : FT := fun d r => match d with
  | .tup ds => ft ds r
  | _ => none
noncomputable def zez : FTs := fun ds r => match ds with
  | [] => some r
  | _ => none
noncomputable def za4 (ft : FT) (fts : FTs) : FTs := fun ds r => match ds with
  | [] => none
  | d::ds => (ft d r).bind fun r' => fts ds r'
section
variable {X : Cx} {g : GE} {m m' m1 : List Md} {tg : Expr} {ts : List Expr} {ft : FT} {fts : FTs} {pos : Pos} {n : Nat}
theorem zaC (i : Nat) {x : Str} (hN : X.N.Nodup) (hi : X.N[i]? = some x) (hx : Loc X.env.scope x) (hf : X.fn x = true∨X.env.scope.names.lookup x = some .local := by first | exact .inl rfl | exact .inr rfl | assumption) :
    SG X g m (.Name x pos) (ftN i) (m.set i .sh) :=
  ⟨by simp,PG.imp (znr hN hi hx hf) fun v σ H Q ⟨r,G,d,si,rv,r',e,k⟩ => by cases e; exact k _ (si.set i rv)⟩
theorem zl7 : SGs X g m [] 0 zez m := by
  refine ⟨rfl,fun ds r r' e => ?_,PGs.imp znq fun v σ H Q ⟨r,G,ds,si,rv,r',e,k⟩ => ?_⟩
  · cases ds with
    | nil => rfl
    | cons _ _ => cases e
  · cases rv with
    | nil => cases e; exact ⟨rfl,k σ si⟩
    | cons _ _ => cases e
theorem zeN (h1 : SG X g m tg ft m1) (h2 : SGs X g m1 ts n fts m') (hs : (assignEach (tg::ts) X.env).map (·.2) = assign tg X.env::(assignEach ts X.env).map (·.2) := by rfl) : SGs X g m (tg::ts) (n + 1) (za4 ft fts) m' := by
  refine ⟨h2.ml.trans h1.1,fun ds r r' e => ?_,PGs.imp (zlM h1.2 h2.pg hs) fun v σ H Q ⟨r,G,ds,si,rv,r',e,k⟩ => ?_⟩
  · cases ds with
    | nil => cases e
    | cons d ds =>
      have e' : ((ft d r).bind fun r' => fts ds r') = some r' := e
      cases q : ft d r with
      | none => rw [q] at e'; cases e'
      | some r1 =>
        rw [q] at e'
        have := h2.ln ds r1 r' e'
        simp [this]
  · cases rv with
    | nil => cases e
    | @cons v0 d vs ds rv rs =>
      have e' : ((ft d r).bind fun r' => fts ds r') = some r' := e
      cases q : ft d r with
      | none => rw [q] at e'; cases e'
      | some r1 =>
        rw [q] at e'
        exact ⟨_,_,rfl,r,G,d,si,rv,r1,q,fun σ' si' => ⟨r1,G,ds,si',rs,r',e',k⟩⟩
theorem zl6 {k : Nat} (hc : X.calm = true) (h : SGs X g m ts n fts m') (hn : (assignEach ts X.env).length = n := by rfl) (hst : (assignEach ts X.env).findIdx? (·.1) = none := by rfl) : SG X g m (.Tuple ts k pos) (ftT fts) m' := by
  refine ⟨h.ml,PG.imp (zoW hc h.pg hn hst) fun v σ H Q ⟨r,G,d,si,rv,r',e,k⟩ => ?_⟩
  cases d with
  | tup ds =>
    obtain ⟨a,xs,rfl,s,rs⟩ := rv.tup si.gok
    exact ⟨a,xs,rfl,s,(Paired.length rs).trans (h.ln ds r r' e),r,G,ds,si,rs,r',e,k⟩
  | _ => cases e
end
structure Yields (K : PySem.W.Frag) (J : It) (ds : List D) (G0 : GH) : Prop where
  go : ∀ G H (i : Nat),Gle G0 G→GOk K G H→i < ds.length→J.go i H
  yld : ∀ G H (i : Nat) x H' d,Gle G0 G→GOk K G H→J.yld i H x H'→ds[i]? = some d→∃ G',Grow K G H G' H'∧RG K G' x d
  stop : ∀ G H,Gle G0 G→GOk K G H→J.stop ds.length H
noncomputable abbrev FI := Rho→Res (List D)
noncomputable def tI (X : Cx) (g : GE) (m : List Md) (f : FI) : TI := fun σ H R => ∃ r G,SI X g m r G σ H∧fin (f r) (fun ds => ∀ J G' H',Grow X.K G H G' H'→Yields X.K J ds G'→R J H') (XW X σ G H)
noncomputable def SIt (X : Cx) (g : GE) (m : List Md) (tg iter : Expr) (f : FI) : Prop := PI X tg iter (tI X g m f)
theorem PI.imp {X : Cx} {tg e : Expr} {t t' : TI} (h : PI X tg e t) (i : ∀ σ H Q,t' σ H Q→t σ H Q) : PI X tg e t' := fun pins s σ H R I q => h pins s σ H R I (i σ H R q)
theorem zhz {K : PySem.W.Frag} {a : Addr} {ds : List D} {G0 : GH} (h0 : RG K G0 (.ref a) (.lst ds)) : Yields K (Itl K a) ds G0 := by
  have at_ : ∀ G H,Gle G0 G→GOk K G H→∃ xs,SqL K H a xs∧RGs K G xs ds := fun G H w gk => by
    obtain ⟨b,xs,e,s,r⟩ := (h0.mono w).lst gk
    cases e
    exact ⟨xs,s,r⟩
  refine ⟨fun G H i w gk hi => ?_,fun G H i x H' d w gk y e => ?_,fun G H w gk => ?_⟩
  · obtain ⟨xs,s,r⟩ := at_ G H w gk
    have hl := Paired.length r
    exact ⟨xs,xs[i],s,List.getElem?_eq_getElem (by omega)⟩
  · obtain ⟨xs,s,r⟩ := at_ G H w gk
    obtain ⟨rfl,y⟩ := y
    obtain ⟨v,e1,rv⟩ := Paired.get r e
    have := y xs s
    rw [e1] at this; cases this
    exact ⟨G,Grow.refl gk,rv⟩
  · obtain ⟨xs,s,r⟩ := at_ G H w gk
    exact ⟨xs,s,Nat.le_of_eq (Paired.length r)⟩
theorem zjm {K : PySem.W.Frag} {a : Addr} {ds : List D} {G0 : GH} (h0 : RG K G0 (.ref a) (.tup ds)) : Yields K (Itt K a) ds G0 := by
  have at_ : ∀ G H,Gle G0 G→GOk K G H→∃ xs,SqT K H a xs∧RGs K G xs ds := fun G H w gk => by
    obtain ⟨b,xs,e,s,r⟩ := (h0.mono w).tup gk
    cases e
    exact ⟨xs,s,r⟩
  refine ⟨fun G H i w gk hi => ?_,fun G H i x H' d w gk y e => ?_,fun G H w gk => ?_⟩
  · obtain ⟨xs,s,r⟩ := at_ G H w gk
    have hl := Paired.length r
    exact ⟨xs,xs[i],s,List.getElem?_eq_getElem (by omega)⟩
  · obtain ⟨xs,s,r⟩ := at_ G H w gk
    obtain ⟨rfl,y⟩ := y
    obtain ⟨v,e1,rv⟩ := Paired.get r e
    have := y xs s
    rw [e1] at this; cases this
    exact ⟨G,Grow.refl gk,rv⟩
  · obtain ⟨xs,s,r⟩ := at_ G H w gk
    exact ⟨xs,s,Nat.le_of_eq (Paired.length r)⟩
noncomputable def rngD (lo : Int) (n : Nat) : List D := (List.range n).map fun (i : Nat) => D.int (lo + (i : Int))
theorem zoi {K : PySem.W.Frag} {lo : Int} {n : Nat} {G0 : GH} : Yields K (Itr lo n) (rngD lo n) G0 := by
  have hl : (rngD lo n).length = n := by simp [rngD]
  refine ⟨fun G H i w gk hi => (by rw [hl] at hi; exact hi),fun G H i x H' d w gk y e => ?_,fun G H w gk => (by rw [hl]; exact Nat.le_refl _)⟩
  obtain ⟨rfl,rfl⟩ := y
  have hi : i < n := by
    have := (List.getElem?_eq_some_iff.mp e).1
    rw [hl] at this; exact this
  unfold rngD at e
  rw [List.getElem?_map,List.getElem?_range hi] at e
  cases e
  exact ⟨G,Grow.refl gk,.scl (.int _)⟩
noncomputable def zbm : D→Option (List D)
  | .lst ds => some ds
  | .tup ds => some ds
  | _ => none
section
variable {X : Cx} {g : GE} {m m' m1 mb : List Md} {tg e a b c iter : Expr} {f fa fb : FE} {p : FQ} {pos pos' : Pos} {ro : Bool} {fl : Rho → Res (List D)} {sts : List Stmt} {s1 : FS}
noncomputable def fSeq (k : D→Option (List D)) (f : FE) : FI := fun r => (f r).bind fun d => opt (k d)
theorem zjN {l : Expr} {tl : TE} (hl : PE X l tl) : PI X tg l (fun σ H R => tl σ H fun x H1 => (∃ a,x = .ref a∧(∃ xs,SqL X.K H1 a xs)∧R (Itl X.K a) H1)∨∃ a,x = .ref a∧(∃ xs,SqT X.K H1 a xs)∧R (Itt X.K a) H1) := by
  intro pins s σ H R I h
  refine thn (hl pins s σ H _ I h) fun v s1 ⟨x,H1,I1,r1,q1⟩ => ?_
  rcases q1 with ⟨a,e,⟨xs,hq⟩,q⟩ | ⟨a,e,⟨xs,hq⟩,q⟩
  · subst e
    cases r1
    obtain ⟨its,rv,p,hz⟩ := I1.list hq
    refine wpAny_pyIter_list p.isList ?_
    refine ⟨s1.heap.objs.size,[s1.heap.objs.size],_,_,H1,rfl,I1.kept (t' := s1.toks) fun b o e => Heap.get?_push_of_some _ e,zjp a _,⟨_,Heap.get?_push_size _ rfl,rfl,rfl⟩,fun b hb => ?_,q⟩
    have e : b = s1.heap.objs.size := by simpa using hb
    subst e
    exact I1.fpOk (Nat.le_refl _) (I1.hok.fresh (Nat.le_refl _))
  · subst e
    cases r1
    obtain ⟨its,rv,p,hz⟩ := I1.tuple hq
    refine wpAny_pyIter_tuple (show s1.heap.IsTuple a its.toArray from p) ?_
    refine ⟨s1.heap.objs.size,[s1.heap.objs.size],_,_,H1,rfl,I1.kept (t' := s1.toks) fun b o e => Heap.get?_push_of_some _ e,ziO a _,⟨_,Heap.get?_push_size _ rfl,rfl,rfl⟩,fun b hb => ?_,q⟩
    have e : b = s1.heap.objs.size := by simpa using hb
    subst e
    exact I1.fpOk (Nat.le_refl _) (I1.hok.fresh (Nat.le_refl _))
theorem zqX (h : SE X g m e f) : SIt X g m tg e (fSeq zbm f) := by
  refine PI.imp (zjN h) fun σ H R ⟨r,G,si,q⟩ => ⟨r,G,si,zah (zaf q) fun d q v G' H' w rv => ?_⟩
  obtain ⟨ds,e,q⟩ := zav q
  cases d with
  | lst ds' =>
    cases e
    obtain ⟨a,xs,rfl,s,rs⟩ := rv.lst w.ok
    exact .inl ⟨a,rfl,⟨xs,s⟩,q _ G' H' w (zhz rv)⟩
  | tup ds' =>
    cases e
    obtain ⟨a,xs,rfl,s,rs⟩ := rv.tup w.ok
    exact .inr ⟨a,rfl,⟨xs,s⟩,q _ G' H' w (zjm rv)⟩
  | _ => cases e
structure YieldsC (K : PySem.W.Frag) (J : It) (ds : List D) (G0 : GH) (H0 : Hp) : Prop where
  go : ∀ G H (i : Nat),Grow K G0 H0 G H→i < ds.length→J.go i H
  yld : ∀ G H (i : Nat) x H' d,Grow K G0 H0 G H→J.yld i H x H'→ds[i]? = some d→∃ G',Grow K G H G' H'∧RG K G' x d
  stop : ∀ G H,Grow K G0 H0 G H→J.stop ds.length H
theorem Yields.toC {K : PySem.W.Frag} {J : It} {ds : List D} {G0 : GH} {H0 : Hp} (y : Yields K J ds G0) : YieldsC K J ds G0 H0 :=
  ⟨fun G H i w hi => y.go G H i w.ge w.ok hi,fun G H i x H' d w q e => y.yld G H i x H' d w.ge w.ok q e,fun G H w => y.stop G H w.ge w.ok⟩
noncomputable def tIC (X : Cx) (g : GE) (m : List Md) (f : FI) : TI := fun σ H R => ∃ r G,SI X g m r G σ H∧fin (f r) (fun ds => ∀ J G' H',Grow X.K G H G' H'→YieldsC X.K J ds G' H'→R J H') (XW X σ G H)
noncomputable def SItC (X : Cx) (g : GE) (m : List Md) (tg iter : Expr) (f : FI) : Prop := PI X tg iter (tIC X g m f)
theorem SIt.toC {fi : FI} (h : SIt X g m tg iter fi) : SItC X g m tg iter fi := PI.imp h fun σ H R ⟨r,G,si,q⟩ => ⟨r,G,si,zah q fun ds k J G' H' w y => k J G' H' w y.toC⟩
theorem zoj {K : PySem.W.Frag} {a : Addr} {ds : List D} {G0 : GH} {H0 : Hp} (o : Own K G0 H0 a (.lst ds)) : YieldsC K (Itl K a) ds G0 H0 := by
  have at_ : ∀ G H,Grow K G0 H0 G H→∃ xs,SqL K H a xs∧RGs K G xs ds := fun G H w => by
    cases (o.mono w).ob with
    | lst r s => exact ⟨_,SqL.of r,s⟩
  refine ⟨fun G H i w hi => ?_,fun G H i x H' d w y e => ?_,fun G H w => ?_⟩
  · obtain ⟨xs,s,r⟩ := at_ G H w
    have hl := Paired.length r
    exact ⟨xs,xs[i],s,List.getElem?_eq_getElem (by omega)⟩
  · obtain ⟨xs,s,r⟩ := at_ G H w
    obtain ⟨rfl,y⟩ := y
    obtain ⟨v,e1,rv⟩ := Paired.get r e
    have := y xs s
    rw [e1] at this; cases this
    exact ⟨G,Grow.refl w.ok,rv⟩
  · obtain ⟨xs,s,r⟩ := at_ G H w
    exact ⟨xs,s,Nat.le_of_eq (Paired.length r)⟩
theorem zds (h : SB X g m e f) : SItC X g m tg e (fSeq zbm f) := by
  refine PI.imp (zjN h) fun σ H R ⟨r,G,si,q⟩ => ⟨r,G,si,zah (zaf q) fun d q v G' H' w rv => ?_⟩
  obtain ⟨ds,e,q⟩ := zav q
  cases d with
  | lst ds' =>
    cases e
    rcases rv with rv | ⟨a,rfl,o⟩
    · obtain ⟨a,xs,rfl,s,rs⟩ := rv.lst w.ok
      exact .inl ⟨a,rfl,⟨xs,s⟩,q _ G' H' w (zhz rv).toC⟩
    · cases o.ob with
      | lst r s => exact .inl ⟨a,rfl,⟨_,SqL.of r⟩,q _ G' H' w (zoj o)⟩
  | tup ds' =>
    cases e
    rcases rv with rv | ⟨a,rfl,o⟩
    · obtain ⟨a,xs,rfl,s,rs⟩ := rv.tup w.ok
      exact .inr ⟨a,rfl,⟨xs,s⟩,q _ G' H' w (zjm rv).toC⟩
    · cases o.ob
  | _ => cases e
noncomputable def rng1 : List D→Option (List D)
  | [.int j] => if -(2 ^ 62)≤j∧j < 2 ^ 62 then some (rngD 0 j.toNat) else none
  | _ => none
noncomputable def fRng (k : List D→Option (List D)) (fl : Rho→Res (List D)) : FI := fun r => (fl r).bind fun ds => opt (k ds)
theorem zch {pn : Pos} (hg : Gl X "range") (hm : X.mg "range" = none) (ha : SAB X g m [a] fl) (hs : starEach [a] X.env = [(false,eval a X.env)] := by rfl) : SIt X g m tg (.Call (.Name "range" pn) [a] [] pos) (fRng rng1 fl) := by
  refine PI.imp (zjO hg hm ha hs) fun σ H R ⟨r,G,si,q⟩ => ⟨r,G,si,zah (zaf q) fun ds q vs G' H' w rs => ?_⟩
  obtain ⟨zs,e,q⟩ := zav q
  unfold rng1 at e
  split at e
  · split at e
    · rename_i j hj
      cases e
      cases rs with
      | cons r1 t => cases t; exact ⟨j,by rw [r1.int w.ok],hj.1,hj.2,q _ G' H' w zoi⟩
    · cases e
  · cases e
noncomputable def forF (ft : FT) (body : FS) : List D→FS
  | [],r => .nx r
  | d::ds,r => match ft d r with
    | none => .stuck
    | some r1 => match body r1 with
      | .nx r' => forF ft body ds r'
      | .ct r' => forF ft body ds r'
      | .bk r' => .nx r'
      | o => o
noncomputable def zcH (m : List Md) (fi : FI) (ft : FT) (body : FS) : FS := fun r => onE m r (fi r) fun ds => forF ft body ds r
theorem zfd (hp : PassesOwn (model X.prog X.w) X.A X.env X.xe) (hc : X.calm = true) {ft : FT} {fi : FI} (hi : SIt X g m tg iter fi) (hg : SG X g m tg ft m) (hb : SSs X g ro m m sts s1 m)
    (hs : ∀ x,foldedSetIterable iter X.env x = pure x := by intro _; rfl) : SS X g ro mb m (.For tg iter sts [] pos) (zcH m fi ft s1) m := by
  refine ⟨rfl,PS.imp (zjJ hp hc hi hg.2 hb.2 hs) fun D σ H ⟨r,G,si,q⟩ => ⟨r,G,si,zah (zcb si rfl q) fun ds q J G0 H0 w0 Y => ?_⟩⟩
  refine ⟨fun i n σ H => ∃ r G,SI X g m r G σ H∧Gle G0 G∧i≤ds.length∧n = ds.length - i∧oTo X g ro m mb G D (forF ft s1 (ds.drop i) r),⟨ds.length,r,G0,si.grow w0,Gle.refl G0,Nat.zero_le _,rfl,oTo.gle q w0.ge⟩,?_⟩
  rintro i n σ1 H1 ⟨r1,G1,si1,le1,hi,rfl,q1⟩
  by_cases hlt : i < ds.length
  · have hd : ds.drop i = ds[i]::ds.drop (i + 1) := List.drop_eq_getElem_cons hlt
    rw [hd] at q1
    unfold forF at q1
    refine .inr ⟨Y.go G1 H1 i le1 si1.gok hlt,fun σ' H' => ∃ r G,SI X g m r G σ' H'∧Gle G0 G∧oTo X g ro m mb G D (forF ft s1 (ds.drop (i + 1)) r),fun σ' H' ⟨r',G',si',le',q'⟩ => ⟨ds.length - (i + 1),by omega,r',G',si',le',hlt,rfl,q'⟩,fun x H' y => ?_⟩
    obtain ⟨G',w',rv⟩ := Y.yld G1 H1 i x H' ds[i] le1 si1.gok y (List.getElem?_eq_getElem hlt)
    have le' : Gle G0 G' := le1.trans w'.ge
    cases eft : ft ds[i] r1 with
    | none => simp only [eft] at q1; exact q1.elim
    | some r2 =>
      simp only [eft] at q1
      refine ⟨r1,G',ds[i],si1.grow w',rv,r2,eft,fun σ2 si2 => ⟨r2,G',si2,?_⟩⟩
      cases eb : s1 r2 with
      | nx r' => simp only [eb] at q1; exact fun σ3 G3 H3 le3 si3 => ⟨r',G3,si3,le'.trans le3,oTo.gle q1 (Gle.trans w'.ge le3)⟩
      | ct r' => simp only [eb] at q1; exact fun σ3 G3 H3 le3 si3 => ⟨r',G3,si3,le'.trans le3,oTo.gle q1 (Gle.trans w'.ge le3)⟩
      | bk r' => simp only [eb] at q1; exact fun σ3 G3 H3 le3 si3 => q1 σ3 G3 H3 (Gle.trans w'.ge le3) si3
      | rt d => simp only [eb] at q1; exact q1
      | exc x r' => simp only [eb] at q1; exact fun pins e s' σ3 G3 H3 le3 => q1 pins e s' σ3 G3 H3 (Gle.trans w'.ge le3)
      | stuck => simp only [eb] at q1; exact q1
  · have e : i = ds.length := by omega
    subst e
    rw [List.drop_length] at q1
    exact .inl ⟨Y.stop G1 H1 le1 si1.gok,q1 σ1 G1 H1 (Gle.refl _) si1⟩
noncomputable def zb5 (m : List Md) : List Md := m.map fun x => if x = Md.sh then Md.sh else Md.bw
noncomputable def zi6 (m : List Md) (r : Rho) (st : L2.St) (G : GH) (H : Hp) : GE := ⟨G,H,fun i => if m[i]? = some Md.ow∨m[i]? = some Md.bw then some ((st[i]?).join,(r[i]?).join) else none⟩
theorem zdA {m : List Md} {i : Nat} {x : Md} (h : m[i]? = some x) : (zb5 m)[i]? = some (if x = Md.sh then Md.sh else Md.bw) := by
  unfold zb5; rw [List.getElem?_map,h]; rfl
theorem zlY {m : List Md} {i : Nat} (h : (zb5 m)[i]? = some Md.sh) : m[i]? = some Md.sh := by
  cases q : m[i]? with
  | none => unfold zb5 at h; rw [List.getElem?_map,q] at h; cases h
  | some x =>
    rw [zdA q] at h
    cases x <;> first | rfl | (simp at h)
theorem ziv {m : List Md} {i : Nat} (h : (zb5 m)[i]? = some Md.ow) : False := by
  cases q : m[i]? with
  | none => unfold zb5 at h; rw [List.getElem?_map,q] at h; cases h
  | some x =>
    rw [zdA q] at h
    cases x <;> simp at h
theorem lockM_bw {m : List Md} {i : Nat} (h : (zb5 m)[i]? = some Md.bw) : m[i]? = some Md.ow∨m[i]? = some Md.bw := by
  cases q : m[i]? with
  | none => unfold zb5 at h; rw [List.getElem?_map,q] at h; cases h
  | some x =>
    rw [zdA q] at h
    cases x with
    | sh => simp at h
    | ow => exact .inl rfl
    | bw => exact .inr rfl
theorem SI.lock {r : Rho} {G : GH} {st : L2.St} {H : Hp} (s : SI X g m r G st H) : SI X (zi6 m r st G H) (zb5 m) r G st H where
  gok := s.gok
  old := fun _ _ e => e
  ge := fun _ _ e => e
  gf := fun _ _ => rfl
  lm := by unfold zb5; rw [List.length_map]; exact s.lm
  lr := s.lr
  sh := fun i d h hm => s.sh i d h (zlY hm)
  ow := fun i d h hm => (ziv hm).elim
  bw := fun i d h hm => by
    rcases lockM_bw hm with z | z
    · obtain ⟨a,h1,h2,_⟩ := s.ow i d h z
      exact ⟨_,h1,.inr ⟨a,rfl,h2,h2.ob.isS⟩⟩
    · obtain ⟨v,h1,h2⟩ := s.bw i d h z
      refine ⟨v,h1,?_⟩
      rcases h2 with h2 | ⟨a,e,h2,_⟩
      · exact .inl h2
      · exact .inr ⟨a,e,h2,h2.ob.isS⟩
  dis := fun i j a d e _ _ _ hm => (ziv hm).elim
  lk := fun i o h hm => by
    have h' : (if m[i]? = some Md.ow∨m[i]? = some Md.bw then some ((st[i]?).join,(r[i]?).join) else none) = some o := h
    rw [if_pos (lockM_bw hm)] at h'
    cases h'
    have hi : i < st.length := by
      have := (List.getElem?_eq_some_iff.mp hm).1
      unfold zb5 at this
      rw [List.length_map,s.lm] at this; exact this
    refine ⟨?_,fun d hd => by rw [hd]; rfl⟩
    rw [List.getElem?_eq_getElem hi]; rfl
theorem SI.unlock {r r' : Rho} {G G' : GH} {st st' : L2.St} {H H' : Hp} (s : SI X g m r G st H) (s' : SI X (zi6 m r st G H) (zb5 m) r' G' st' H') : SI X g m r' G' st' H' := by
  have w : Grow X.K G H G' H' := s'.grown
  have hlk : ∀ (i : Nat),(m[i]? = some Md.ow∨m[i]? = some Md.bw)→st'[i]? = some (st[i]?).join∧∀ d,r'[i]? = some (some d)→r[i]? = some (some d) := fun i hi => by
    have hm : (zb5 m)[i]? = some Md.bw := by
      rcases hi with z | z <;> rw [zdA z] <;> simp
    obtain ⟨h1,h2⟩ := s'.lk i ((st[i]?).join,(r[i]?).join) (if_pos hi) hm
    refine ⟨h1,fun d hd => ?_⟩
    have := h2 d hd
    cases q : r[i]? with
    | none => rw [q] at this; cases this
    | some o => rw [q] at this; rw [show o = some d from this]
  have hst : ∀ (i : Nat) v,(m[i]? = some Md.ow∨m[i]? = some Md.bw)→st[i]? = some (some v)→st'[i]? = some (some v) := fun i v hi h => by
    rw [(hlk i hi).1,h]; rfl
  refine ⟨s'.gok,fun a o e => s'.old a o (s.old a o e),fun a d e => s'.ge a d (s.ge a d e),fun a h => ?_,?_,s'.lr,fun i d h hm => ?_,fun i d h hm => ?_,fun i d h hm => ?_,fun i j a d e hij h1 h2 m1 m2 q1 q2 => ?_,fun i o hi hm => ?_⟩
  · have h1 : H a≠none := by
      cases e : g.h0 a with
      | none => exact absurd e h
      | some o => rw [s.old _ _ e]; simp
    rw [w.gf a h1,s.gf a h]
  · have := s'.lm
    unfold zb5 at this
    rw [List.length_map] at this; exact this
  · exact s'.sh i d h (by rw [zdA hm]; simp)
  · obtain ⟨a,h1,h2,h3⟩ := s.ow i d ((hlk i (.inl hm)).2 d h) hm
    exact ⟨a,hst i _ (.inl hm) h1,h2.mono w,h3⟩
  · obtain ⟨v,h1,h2⟩ := s.bw i d ((hlk i (.inr hm)).2 d h) hm
    exact ⟨v,hst i _ (.inr hm) h1,h2.grow w⟩
  · have e1 := (hlk i (.inl m1)).2 d h1
    have e2 := (hlk j (.inl m2)).2 e h2
    obtain ⟨b,z1,_,_⟩ := s.ow i d e1 m1
    obtain ⟨c,z2,_,_⟩ := s.ow j e e2 m2
    have y1 := hst i _ (.inl m1) z1
    have y2 := hst j _ (.inl m2) z2
    rw [q1] at y1
    rw [q2] at y2
    cases y1
    cases y2
    exact s.dis i j a d e hij e1 e2 m1 m2 z1 z2
  · obtain ⟨h1,h2⟩ := s.lk i o hi hm
    refine ⟨?_,fun d hd => h2 d ((hlk i (.inr hm)).2 d hd)⟩
    rw [(hlk i (.inr hm)).1,h1]; rfl
theorem zmA (hp : PassesOwn (model X.prog X.w) X.A X.env X.xe) (hc : X.calm = true) {ft : FT} {fi : FI} (hi : SItC X g m tg iter fi) (hg : ∀ g',SG X g' (zb5 m) tg ft (zb5 m)) (hb : ∀ g',SSs X g' ro (zb5 m) (zb5 m) sts s1 (zb5 m))
    (hs : ∀ x,foldedSetIterable iter X.env x = pure x := by intro _; rfl) : SS X g ro mb m (.For tg iter sts [] pos) (zcH m fi ft s1) m := by
  have hgA : PG X tg (fun v σ H Q => ∃ g',tG X g' (zb5 m) (zb5 m) ft v σ H Q) := fun pins s σ H v u Q I r ⟨g',q⟩ => (hg g').2 pins s σ H v u Q I r q
  have hbA : PSs X sts (fun D σ H => ∃ g',tS X g' ro (zb5 m) (zb5 m) (zb5 m) s1 D σ H) := fun pins s σ H D I ⟨g',q⟩ => (hb g').2 pins s σ H D I q
  refine ⟨rfl,PS.imp (zjJ hp hc hi hgA hbA hs) fun D σ H ⟨r,G,si,q⟩ => ⟨r,G,si,zah (zcb si rfl q) fun ds q J G0 H0 w0 Y => ?_⟩⟩
  have si0 := si.grow w0
  refine ⟨fun i n σ1 H1 => ∃ r1 G1,SI X (zi6 m r σ G0 H0) (zb5 m) r1 G1 σ1 H1∧i≤ds.length∧n = ds.length - i∧oTo X g ro m mb G1 D (forF ft s1 (ds.drop i) r1),⟨ds.length,r,G0,si0.lock,Nat.zero_le _,rfl,oTo.gle q w0.ge⟩,?_⟩
  rintro i n σ1 H1 ⟨r1,G1,si1,hi,rfl,q1⟩
  have wg : Grow X.K G0 H0 G1 H1 := si1.grown
  by_cases hlt : i < ds.length
  · have hd : ds.drop i = ds[i]::ds.drop (i + 1) := List.drop_eq_getElem_cons hlt
    rw [hd] at q1
    unfold forF at q1
    refine .inr ⟨Y.go G1 H1 i wg hlt,fun σ' H' => ∃ r' G',SI X (zi6 m r σ G0 H0) (zb5 m) r' G' σ' H'∧oTo X g ro m mb G' D (forF ft s1 (ds.drop (i + 1)) r'),fun σ' H' ⟨r',G',si',q'⟩ => ⟨ds.length - (i + 1),by omega,r',G',si',hlt,rfl,q'⟩,fun x H' y => ?_⟩
    obtain ⟨G',w',rv⟩ := Y.yld G1 H1 i x H' ds[i] wg y (List.getElem?_eq_getElem hlt)
    cases eft : ft ds[i] r1 with
    | none => simp only [eft] at q1; exact q1.elim
    | some r2 =>
      simp only [eft] at q1
      refine ⟨zi6 m r σ G0 H0,r1,G',ds[i],si1.grow w',rv,r2,eft,fun σ2 si2 => ⟨zi6 m r σ G0 H0,r2,G',si2,?_⟩⟩
      cases eb : s1 r2 with
      | nx r' => simp only [eb] at q1; exact fun σ3 G3 H3 le3 si3 => ⟨r',G3,si3,oTo.gle q1 (Gle.trans w'.ge le3)⟩
      | ct r' => simp only [eb] at q1; exact fun σ3 G3 H3 le3 si3 => ⟨r',G3,si3,oTo.gle q1 (Gle.trans w'.ge le3)⟩
      | bk r' => simp only [eb] at q1; exact fun σ3 G3 H3 le3 si3 => q1 σ3 G3 H3 (Gle.trans w'.ge le3) (si0.unlock si3)
      | rt d =>
        simp only [eb] at q1
        intro v G2 H2 wr rv2
        refine q1 v G2 H2 (si0.grown.trans wr) ?_
        cases ro with
        | false => exact rv2
        | true =>
          rcases rv2 with ⟨a,e1,e2,e3⟩ | z
          · exact .inl ⟨a,e1,si0.grown.back e2,e3⟩
          · exact .inr z
      | exc x r' => exact fun pins e s' σ3 G3 H3 le3 _ _ ex => (show False from ex).elim
      | stuck => simp only [eb] at q1; exact q1
  · have e : i = ds.length := by omega
    subst e
    rw [List.drop_length] at q1
    exact .inl ⟨Y.stop G1 H1 wg,q1 σ1 G1 H1 (Gle.refl _) (si0.unlock si1)⟩
noncomputable def zbv (m : List Md) (p : FQ) (body : FS) : Nat→FS
  | 0,_ => .stuck
  | n + 1,r => onE m r (p r) fun c => if c = true then (match body r with
      | .nx r' => zbv m p body n r'
      | .ct r' => zbv m p body n r'
      | .bk r' => .nx r'
      | o => o) else .nx r
theorem zhF (n : Nat) (hp : PassesOwn (model X.prog X.w) X.A X.env X.xe) (hc : SQ X g m c p) (hb : SSs X g ro m m sts s1 m) : SS X g ro mb m (.While c sts [] pos) (zbv m p s1 n) m := by
  refine ⟨rfl,PS.imp (zlK hp hc hb.2) fun D σ H ⟨r,G,si,q⟩ => ?_⟩
  refine ⟨fun n σ H => ∃ r G,SI X g m r G σ H∧oTo X g ro m mb G D (zbv m p s1 n r),⟨n,r,G,si,q⟩,?_⟩
  rintro n σ1 H1 ⟨r1,G1,si1,q1⟩
  cases n with
  | zero => exact q1.elim
  | succ n =>
    unfold zbv at q1
    refine ⟨r1,G1,si1,zah (zcb si1 rfl q1) fun c q2 G2 H2 w2 => ?_⟩
    cases c with
    | false => rw [if_neg Bool.false_ne_true] at q2 ⊢; exact q2 σ1 G2 H2 w2.ge (si1.grow w2)
    | true =>
      rw [if_pos rfl] at q2 ⊢
      refine ⟨fun σ' H' => ∃ r G,SI X g m r G σ' H'∧oTo X g ro m mb G D (zbv m p s1 n r),fun σ' H' h => ⟨n,Nat.lt_succ_self _,h⟩,r1,G2,si1.grow w2,?_⟩
      cases eb : s1 r1 with
      | nx r' => simp only [eb] at q2; exact fun σ3 G3 H3 le3 si3 => ⟨r',G3,si3,oTo.gle q2 (Gle.trans w2.ge le3)⟩
      | ct r' => simp only [eb] at q2; exact fun σ3 G3 H3 le3 si3 => ⟨r',G3,si3,oTo.gle q2 (Gle.trans w2.ge le3)⟩
      | bk r' => simp only [eb] at q2; exact fun σ3 G3 H3 le3 si3 => q2 σ3 G3 H3 (Gle.trans w2.ge le3) si3
      | rt d => simp only [eb] at q2; exact q2
      | exc x r' => simp only [eb] at q2; exact fun pins e s' σ3 G3 H3 le3 => q2 pins e s' σ3 G3 H3 (Gle.trans w2.ge le3)
      | stuck => simp only [eb] at q2; exact q2
end
noncomputable def noX : Res D→Res D
  | .ok d => .ok d
  | _ => .stuck
@[simp] theorem noX_ok (d : D) : noX (.ok d) = .ok d := rfl
inductive ArgsOk (K : PySem.W.Frag) (G : GH) (H : Hp) : List Md→List V→List D→Prop where
  | nil : ArgsOk K G H [] [] []
  | sh {v : V} {d : D} {ms : List Md} {vs : List V} {ds : List D} : RG K G v d→ArgsOk K G H ms vs ds→ArgsOk K G H (.sh::ms) (v::vs) (d::ds)
  | bw {v : V} {d : D} {ms : List Md} {vs : List V} {ds : List D} : RB K G H v d→ArgsOk K G H ms vs ds→ArgsOk K G H (.bw::ms) (v::vs) (d::ds)
section
variable {K : PySem.W.Frag} {G G' : GH} {H H' : Hp}
theorem ArgsOk.len : ∀ {ms : List Md} {vs : List V} {ds : List D},ArgsOk K G H ms vs ds→vs.length = ms.length∧ds.length = ms.length
  | _,_,_,.nil => ⟨rfl,rfl⟩
  | _,_,_,.sh h t => ⟨congrArg (· + 1) t.len.1,congrArg (· + 1) t.len.2⟩
  | _,_,_,.bw h t => ⟨congrArg (· + 1) t.len.1,congrArg (· + 1) t.len.2⟩
theorem ArgsOk.app {dvs : List V} {dds : List D} (hs : Paired Scl dvs dds) : ∀ {ms : List Md} {vs : List V} {ds : List D},ArgsOk K G H ms vs ds→ArgsOk K G H (ms++List.replicate dds.length .sh) (vs++dvs) (ds++dds)
  | _,_,_,.nil => by
    induction hs with
    | nil => exact .nil
    | cons h t ih => exact .sh (.scl h) ih
  | _,_,_,.sh h t => .sh h (t.app hs)
  | _,_,_,.bw h t => .bw h (t.app hs)
theorem ArgsOk.get : ∀ {ms : List Md} {vs : List V} {ds : List D} {i : Nat} {d : D},ArgsOk K G H ms vs ds→ds[i]? = some d→∃ v,vs[i]? = some v∧((ms[i]? = some .sh∧RG K G v d)∨(ms[i]? = some .bw∧RB K G H v d))
  | _,_,_,_,_,.nil,e => by simp at e
  | _,_,_,0,_,.sh h t,e => by simp at e; subst e; exact ⟨_,rfl,.inl ⟨rfl,h⟩⟩
  | _,_,_,0,_,.bw h t,e => by simp at e; subst e; exact ⟨_,rfl,.inr ⟨rfl,h⟩⟩
  | _,_,_,i + 1,d,.sh h t,e => by
    obtain ⟨v,h1,h2⟩ := t.get (i := i) (d := d) (by simpa using e)
    exact ⟨v,by simpa using h1,by simpa using h2⟩
  | _,_,_,i + 1,d,.bw h t,e => by
    obtain ⟨v,h1,h2⟩ := t.get (i := i) (d := d) (by simpa using e)
    exact ⟨v,by simpa using h1,by simpa using h2⟩
end
noncomputable def spM (K : PySem.W.Frag) (ro : Bool) (ms : List Md) (F : List D→Res D) : Sp := fun vs H Q _ => ∃ G ds,GOk K G H∧ArgsOk K G H ms vs ds∧fin (F ds) (fun d => ∀ v G' H',Grow K G H G' H'→RV ro K H G' H' v d→Q v H') fun _ => False
noncomputable def outR (ro : Bool) : Out→Res D
  | .nx _ => if ro = true then .stuck else .ok .non
  | .rt d => .ok d
  | .exc x _ => .exc x
  | _ => .stuck
noncomputable def zaq (n : Nat) (ds : List D) : Rho := ds.map some++List.replicate (n - ds.length) none
noncomputable def ze5 (n : Nat) (ms : List Md) : List Md := ms++List.replicate (n - ms.length) .sh
section
variable {P : Program} {w : World} {K : PySem.W.Frag} {mg : Str → Option Value} {base : Heap}
theorem zlp {X : Cx} {N : List Str} {ms : List Md} {vs : List V} {ds : List D} {G : GH} {H : Hp} (gk : GOk X.K G H) (rs : ArgsOk X.K G H ms vs ds) (hn : ms.length≤N.length) : SI X ⟨G,H,fun _ => none⟩ (ze5 N.length ms) (zaq N.length ds) G (L2.start N vs) H := by
  obtain ⟨l1,l2⟩ := rs.len
  have e1 : (L2.start N vs).length = N.length := by unfold L2.start; rw [List.length_append,List.length_map,List.length_replicate]; omega
  have e2 : (zaq N.length ds).length = N.length := by unfold zaq; rw [List.length_append,List.length_map,List.length_replicate]; omega
  have e3 : (ze5 N.length ms).length = N.length := by unfold ze5; rw [List.length_append,List.length_replicate]; omega
  have at_ : ∀ (i : Nat) d,(zaq N.length ds)[i]? = some (some d)→i < ms.length∧(ze5 N.length ms)[i]? = ms[i]?∧∃ v,(L2.start N vs)[i]? = some (some v)∧((ms[i]? = some .sh∧RG X.K G v d)∨(ms[i]? = some .bw∧RB X.K G H v d)) := fun i d h => by
    unfold zaq at h
    by_cases hi : i < ds.length
    · rw [List.getElem?_append_left (by simpa using hi),List.getElem?_map] at h
      have hd : ds[i]? = some d := by
        cases z : ds[i]? with
        | none => rw [z] at h; cases h
        | some d' => rw [z] at h; cases h; rfl
      obtain ⟨v,hv,rv⟩ := rs.get hd
      refine ⟨by omega,?_,v,?_,rv⟩
      · unfold ze5
        rw [List.getElem?_append_left (by omega)]
      · unfold L2.start
        rw [List.getElem?_append_left (by rw [List.length_map]; omega),List.getElem?_map,hv]
        rfl
    · rw [List.getElem?_append_right (by simpa using hi),List.getElem?_replicate] at h
      split at h <;> cases h
  refine ⟨gk,fun _ _ e => e,fun _ _ e => e,fun _ _ => rfl,by rw [e3,e1],by rw [e1,e2],fun i d h hm => ?_,fun i d h hm => ?_,fun i d h hm => ?_,fun i j a d e _ h _ hm => ?_,fun i o h => nomatch h⟩
  · obtain ⟨_,hq,v,h1,h2⟩ := at_ i d h
    rw [hq] at hm
    rcases h2 with ⟨_,h2⟩ | ⟨h3,h2⟩
    · exact ⟨v,h1,h2⟩
    · rw [hm] at h3; cases h3
  · obtain ⟨_,hq,v,h1,h2⟩ := at_ i d h
    rw [hq] at hm
    rcases h2 with ⟨h3,h2⟩ | ⟨h3,h2⟩ <;> rw [hm] at h3 <;> cases h3
  · obtain ⟨_,hq,v,h1,h2⟩ := at_ i d h
    rw [hq] at hm
    rcases h2 with ⟨h3,h2⟩ | ⟨h3,h2⟩
    · rw [hm] at h3; cases h3
    · refine ⟨v,h1,?_⟩
      rcases h2 with h2 | ⟨a,rfl,h2⟩
      · exact .inl h2
      · exact .inr ⟨a,rfl,h2,h2.ob.isS⟩
  · obtain ⟨_,hq,v,h1,h2⟩ := at_ i d h
    rw [hq] at hm
    rcases h2 with ⟨h3,h2⟩ | ⟨h3,h2⟩ <;> rw [hm] at h3 <;> cases h3
theorem zmm {X : Cx} {ro : Bool} {fs : FS} {m' : List Md} {G : GH} {H : Hp} {r : Rho} {Q : VK} (q : fin (outR ro (fs r)) (fun d => ∀ v G' H',Grow X.K G H G' H'→RV ro X.K H G' H' v d→Q v H') fun _ => False) :
    oTo X ⟨G,H,fun _ => none⟩ ro m' [] G { nx := fun _ H' => Q .non H',rt := Q } (fs r) := by
  cases e : fs r with
  | nx r' =>
    rw [e] at q
    cases ro with
    | false => exact fun σ' G' H' _ si => q .non G' H' si.grown (.scl .non)
    | true => exact q.elim
  | rt d => rw [e] at q; exact fun v G' H' wg rv => q v G' H' wg rv
  | bk r' => rw [e] at q; exact q.elim
  | ct r' => rw [e] at q; exact q.elim
  | exc x r' => rw [e] at q; exact q.elim
  | stuck => rw [e] at q; exact q
theorem zmU {x qual : Str} {st : Stmt} {f : Addr} {fd : FuncData} {N ps : List Str} {k : Nat} {ro : Bool} {ms : List Md} {fs : FS} {m' : List Md} (F : Fun K x qual st f fd) (S : FnScope N ps (zac st)) (hms : ms.length = ps.length)
    (hbody : ∀ (cdv : Value) (A : Around) (outer : List Env) (s : Shared) (H : Hp) (g : GE) (E : XK),Room k (A.deeper (envOfC qual (zac st) s.heap.objs.size f cdv)) →
      SSs (cxOf CX0 P w K mg base N qual (zac st) f cdv A outer s H E).nox g ro [] (ze5 N.length ms) (zcw st) fs m') :
    FnOk P w K mg base CX0 (k + 1) f fd ps (spM K ro ms fun ds => outR ro (fs (zaq N.length ds))) := by
  refine F.ok S (fun vs H Q E ⟨G,ds,gk,rs,q⟩ => rs.len.1.trans hms) fun cdv A outer s H vs Q E hr h => ?_
  obtain ⟨G,ds,gk,rs,q⟩ := h
  have hpl : ps.length≤N.length := by have := congrArg List.length S.pre; rw [List.length_take] at this; omega
  exact ⟨_,(hbody cdv A outer s H ⟨G,H,fun _ => none⟩ E hr).2,zaq N.length ds,G,zlp gk rs (by omega),zmm q⟩
end
section
variable {X : Cx} {g : GE} {m : List Md} {e : Expr} {f : FE} {es : List Expr} {fl : Rho → Res (List D)} {k : Nat} {fa : Addr} {fd : FuncData} {ps : List Str} {F : List D → Res D} {dvs : List V} {ds : List Value} {dds : List D} {x : Str} {p pos : Pos} {ms : List Md}
noncomputable def tLM (X : Cx) (g : GE) (m : List Md) (ms : List Md) (f : Rho→Res (List D)) : TA := fun σ H Q => ∃ r G,SI X g m r G σ H∧fin (f r) (fun ds => ∀ vs G' H',Grow X.K G H G' H'→ArgsOk X.K G' H' ms vs ds→Q vs H') (XW X σ G H)
noncomputable def SAM (X : Cx) (g : GE) (m : List Md) (es : List Expr) (ms : List Md) (f : Rho→Res (List D)) : Prop := PA X es (tLM X g m ms f)
theorem za7 : SAM X g m [] [] lNil := PA.imp zdW fun σ H Q ⟨r,G,si,k⟩ => k [] G H (Grow.refl si.gok) .nil
theorem m_sh (ha : SE X g m e f) (hr : SAM X g m es ms fl) (hs : starEach (e::es) X.env = (false,eval e X.env)::starEach es X.env := by rfl) : SAM X g m (e::es) (.sh::ms) (zab f fl) := by
  refine PA.imp (zbJ ha hr hs) fun σ H Q ⟨r,G,si,k⟩ => ⟨r,G,si,zah (zaf k) fun d k1 v G1 H1 w1 r1 => ⟨r,G1,si.grow w1,?_⟩⟩
  exact zaG (zaf k1) w1 fun ds z vs G2 H2 w2 r2 => z (v::vs) G2 H2 (w1.trans w2) (.sh (r1.mono w2.ge) r2)
theorem m_bw (ha : SB X g m e f) (hr : SAM X g m es ms fl) (hs : starEach (e::es) X.env = (false,eval e X.env)::starEach es X.env := by rfl) : SAM X g m (e::es) (.bw::ms) (zab f fl) := by
  refine PA.imp (zbJ ha hr hs) fun σ H Q ⟨r,G,si,k⟩ => ⟨r,G,si,zah (zaf k) fun d k1 v G1 H1 w1 r1 => ⟨r,G1,si.grow w1,?_⟩⟩
  exact zaG (zaf k1) w1 fun ds z vs G2 H2 w2 r2 => z (v::vs) G2 H2 (w1.trans w2) (.bw (r1.mono w2) r2)
noncomputable def zaB (fl : Rho→Res (List D)) (dds : List D) (F : List D→Res D) : FE := fun r => (fl r).bind fun ds => noX (F (ds++dds))
theorem zk4 {ro : Bool} {vs : List V} {zs : List D} {G : GH} {H : Hp} {Q : VK} (gk : GOk X.K G H) (rs : ArgsOk X.K G H ms vs zs) (hsc : Paired Scl dvs dds) (q : fin (noX (F (zs++dds))) (fun d => ∀ v G' H',Grow X.K G H G' H'→RV ro X.K H G' H' v d→Q v H') fun _ => False) :
    spM X.K ro (ms++List.replicate dds.length .sh) F (vs++dvs) H Q E0 := by
  refine ⟨G,zs++dds,gk,rs.app hsc,?_⟩
  cases e : F (zs++dds) with
  | ok d => rw [e] at q; exact q
  | exc x => rw [e] at q; exact q.elim
  | stuck => rw [e] at q; exact q.elim
theorem zkE {α : Type} {r : Res α} {q : α→Prop} {x : D→Prop} (h : fin r q x) (hr : ∀ e,r≠.exc e) : fin r q fun _ => False := by
  cases r with
  | ok a => exact h
  | exc e => exact absurd rfl (hr e)
  | stuck => exact h
theorem zpj (r : Res D) (e : D) : noX r≠.exc e := by cases r <;> simp [noX]
theorem zoG (G1 : FnOk X.prog X.w X.K X.mg X.base CX0 k fa fd ps (spM X.K false (ms++List.replicate dds.length .sh) F)) (hr : Room k X.A) (hg : Gl X x) (hm : X.mg x = some (.ref fa)) (hk : PySem.W.keepIn X.K (.ref fa) = true) (hb : zh6 X.K fd ps ds) (hd : Vals dvs ds) (hsc : Paired Scl dvs dds)
    (ha : SAM X g m (e::es) ms fl) (hdb : (x == ("__debug__" : Str)) = false := by decide) (he : starEach (e::es) X.env = (false,eval e X.env)::starEach es X.env := by rfl) (hpl : (backTo pos (starEach es X.env)).any (·.1) = false := by rfl) :
    SE X g m (.Call (.Name x p) (e::es) [] pos) (zaB fl dds F) := by
  refine PE.imp (znt G1 hr hg hm hk hb hd zqI ha hdb he hpl) fun σ H Q ⟨r,G,si,q⟩ => ⟨r,G,si,?_⟩
  cases ez : fl r with
  | ok zs =>
    unfold zaB at q
    rw [ez] at q
    intro vs G' H' w' rs
    exact zk4 w'.ok rs hsc (zah (zkE q (zpj _)) fun d k v G2 H2 w2 rv => k v G2 H2 (w'.trans w2) rv)
  | exc x => unfold zaB at q; rw [ez] at q; exact q
  | stuck => unfold zaB at q; rw [ez] at q; exact q
end
end DL
end
section
namespace DL
open PySem PySem.Spec PyProof.Rows L2
theorem zme {env : Env} : ∀ (l : List (Str × NameKind)) (cs : List (Str × Addr)),(∀ x∈l,x.2 = .free→∃ c,env.cells.lookup x.1 = some c)→(∀ x c,cs.lookup x = some c→env.cells.lookup x = some c) →
    ∃ cl,(forIn l cs (fun (x : Str × NameKind) (cs : List (Str × Addr)) => if (x.2 == NameKind.free) = true then (do let a ← cellOf env x.1; pure (ForInStep.yield ((x.1,a)::cs))) else pure (ForInStep.yield cs)) : Sem (List (Str × Addr))) = pure cl ∧
      (∀ x c,cl.lookup x = some c→env.cells.lookup x = some c)∧(∀ x,(x,NameKind.free)∈l→∃ c,cl.lookup x = some c)∧(∀ x c,cs.lookup x = some c→∃ c',cl.lookup x = some c') := by
  intro l
  induction l with
  | nil => intro cs _ h; exact ⟨cs,rfl,h,fun x hx => (by cases hx),fun x c h => ⟨c,h⟩⟩
  | cons y l ih =>
    intro cs hf hc
    obtain ⟨n,k⟩ := y
    by_cases hk : k = .free
    · subst hk
      obtain ⟨c,ec⟩ := hf (n,.free) List.mem_cons_self rfl
      have e1 : cellOf env n = pure c := by unfold cellOf; rw [ec]
      have hc' : ∀ x c',((n,c)::cs).lookup x = some c'→env.cells.lookup x = some c' := fun x c' h => by
        rw [List.lookup_cons] at h
        cases q : x == n with
        | true => rw [q] at h; cases h; rw [eq_of_beq q]; exact ec
        | false => rw [q] at h; exact hc x c' h
      obtain ⟨cl,e2,h1,h2,h3⟩ := ih ((n,c)::cs) (fun x hx => hf x (List.mem_cons_of_mem _ hx)) hc'
      refine ⟨cl,?_,h1,fun x hx => ?_,fun x c' h => ?_⟩
      · rw [← e2]
        rw [List.forIn_cons]
        show (cellOf env n >>= fun a => pure (ForInStep.yield ((n,a)::cs))) >>= _ = _
        rw [e1]
        rfl
      · rcases List.mem_cons.mp hx with z | z
        · cases z; exact h3 n c (by rw [List.lookup_cons]; simp)
        · exact h2 x z
      · cases q : x == n with
        | true => exact h3 x c (by rw [List.lookup_cons,q])
        | false => exact h3 x c' (by rw [List.lookup_cons,q]; exact h)
    · obtain ⟨cl,e2,h1,h2,h3⟩ := ih cs (fun x hx => hf x (List.mem_cons_of_mem _ hx)) hc
      have hb : (k == NameKind.free) = false := by simpa using hk
      refine ⟨cl,?_,h1,fun x hx => ?_,h3⟩
      · rw [← e2,List.forIn_cons]
        simp only [hb,Bool.false_eq_true,if_false]
        rfl
      · rcases List.mem_cons.mp hx with z | z
        · cases z; exact absurd rfl hk
        · exact h2 x z
theorem zjd {scope : Scope} {env : Env} (hf : ∀ x∈scope.names,x.2 = .free→∃ c,env.cells.lookup x.1 = some c) :
    ∃ cl,closureFor scope env = pure cl∧(∀ x c,cl.lookup x = some c→env.cells.lookup x = some c)∧(∀ x,(x,NameKind.free)∈scope.names→∃ c,cl.lookup x = some c) := by
  obtain ⟨cl,e,h1,h2,_⟩ := zme scope.names [] hf (fun x c h => by cases h)
  refine ⟨cl,?_,h1,h2⟩
  have e0 : closureFor scope env = ((forIn scope.names ([] : List (Str × Addr)) (fun (x : Str × NameKind) (cs : List (Str × Addr)) => if (x.2 == NameKind.free) = true then (do let a ← cellOf env x.1; pure (ForInStep.yield ((x.1,a)::cs))) else pure (ForInStep.yield cs)) : Sem (List (Str × Addr))) >>= fun cs => pure cs) := rfl
  rw [e0,e]
  rfl
theorem zd0 {f : Str→NameKind→NameKind} : ∀ (l : List (Str × NameKind)) (x : Str),(l.map fun y => (y.1,f y.1 y.2)).lookup x = (l.lookup x).map (f x)
  | [],x => rfl
  | (n,k)::l,x => by
    rw [List.map_cons,List.lookup_cons,List.lookup_cons]
    cases q : x == n with
    | true => simp [eq_of_beq q]
    | false => exact zd0 l x
noncomputable def relK (env : Env) (n : Str) (k : NameKind) : NameKind := if (k == .free && env.scope.kind == .function && env.kindOf n == some .cell) = true then .cell else k
theorem zdV (scope : Scope) (env : Env) (x : Str) : (relabel scope env).names.lookup x = (scope.names.lookup x).map (relK env x) := by
  rw [← zd0]
  unfold relabel
  congr 1
  apply List.map_congr_left
  intro y _
  obtain ⟨n,k⟩ := y
  show (if (k == NameKind.free && env.scope.kind == .function && env.kindOf n == some .cell) = true then (n,NameKind.cell) else (n,k)) = (n,relK env n k)
  unfold relK
  split <;> rfl
structure CompSc (X : Cx) (scope : Scope) (N' : List Str) (nl : Nat) (cap : List Nat) : Prop where
  kind : scope.kind = .function
  nocell : ∀ y∈scope.names,y.2≠.cell
  names : ∀ y∈scope.names,y.2 = .local→scope.names.lookup y.1 = some .local
  freeK : ∀ y∈scope.names,y.2 = .free→X.env.kindOf y.1 = some .cell∨X.env.kindOf y.1 = some .free
  len : N'.length = nl + cap.length
  capN : ∀ j,j < cap.length→∃ x,N'[nl + j]? = some x∧X.N[cap.getD j 0]? = some x∧scope.names.lookup x = some .free
noncomputable def cxC (X : Cx) (s₀ : Shared) (H₀ : Hp) (N' : List Str) (scope : Scope) (cl : List (Str × Addr)) (C : Addr) (fp : List Addr) : Cx where
  prog := X.prog
  w := X.w
  K := X.K
  mg := X.mg
  base := X.base
  A := X.A
  N := N'
  s₀ := s₀
  H₀ := H₀
  env := compEnvC scope cl C X.env
  outer := X.stack
  stack := X.stack
  ex := fp
  fn := fun _ => false
  calm := X.calm
  pn := []
  xe := fun _ _ => False
section
variable {X : Cx} {pins : List (Addr × Obj)} {σ : L2.St} {H : Hp} {s : Shared} {scope : Scope} {N' : List Str} {nl : Nat} {cap : List Nat} {cl : List (Str × Addr)} {C : Addr} {fp : List Addr}
theorem zp6 (I : Inv X pins σ H s) (sc : CompSc X scope N' nl cap) (h1 : ∀ x c,cl.lookup x = some c→X.env.cells.lookup x = some c) (h2 : ∀ x,(x,NameKind.free)∈scope.names→∃ c,cl.lookup x = some c)
    (hf : ∀ b∈fp,FpOk X pins H b∧b < s.heap.objs.size) (hC : s.heap.objs.size≤C) : (cxC X s H N' scope cl C fp).Ok where
  mod := I.ok.mod
  kind := sc.kind
  glob := I.ok.glob
  blt := I.ok.blt
  above := hC
  inj := fun x y c a b => I.ok.inj x y c (h1 x c a) (h1 y c b)
  has := fun x hk => by
    have hk' : (scope.names.lookup x).map (relK X.env x) = some .cell∨(scope.names.lookup x).map (relK X.env x) = some .free := by
      rw [← zdV]; exact hk
    cases e : scope.names.lookup x with
    | none => rw [e] at hk'; rcases hk' with z | z <;> cases z
    | some k =>
      have hm := PySem.mem_of_lookup e
      have kf : k = .free := by
        rw [e] at hk'
        have hk2 : relK X.env x k = .cell∨relK X.env x k = .free := by
          rcases hk' with z | z
          · exact .inl (Option.some.inj z)
          · exact .inr (Option.some.inj z)
        unfold relK at hk2
        split at hk2
        · rename_i hc
          simp only [Bool.and_eq_true,beq_iff_eq] at hc
          exact hc.1.1
        · rcases hk2 with z | z
          · exact absurd z (sc.nocell _ hm)
          · exact z
      subst kf
      exact h2 x hm
  cab := fun x c h => by cases h
  hd := I.ok.hd
  frames := I.ok.frames
  stk := .inl rfl
  exf := fun b hb => ⟨Nat.ne_of_lt (Nat.lt_of_lt_of_le (hf b hb).2 hC),fun x c e => (hf b hb).1.2.2.2.2.1 x c (h1 x c e)⟩
  bs := I.bs
  bsz := Nat.le_trans I.ok.bsz I.sz
  noex := fun b o e hb => by
    obtain ⟨_,_,_,hx,_⟩ := (hf b hb).1
    rcases hx with z | z
    · exact I.ok.noex b o e z
    · exact absurd (Nat.lt_of_lt_of_le (Heap.lt_size e) (Nat.le_trans I.ok.bsz z)) (Nat.lt_irrefl _)
  exfs := fun b hb hfs => by
    obtain ⟨_,q1,q2,_⟩ := (hf b hb).1
    rcases List.mem_cons.mp (I.stkSub b hfs) with z | z
    · exact q1 z
    · exact q2 z
  funs := I.stack
  frf := I.stkFree
end
noncomputable def zd5 (ft : FT) (q : FQ) (fe : FE) (r0 : Rho) : List D→Res (List D)
  | [] => .ok []
  | d::ds => (opt (ft d r0)).bind fun r1 => (q r1).bind fun c => if c = true then (fe r1).bind fun v => (zd5 ft q fe r0 ds).bind fun vs => .ok (v::vs) else zd5 ft q fe r0 ds
noncomputable def capR (nl : Nat) (cap : List Nat) (r : Rho) : Rho := List.replicate nl none++cap.map fun i => r.getD i none
noncomputable def capM (nl : Nat) (cap : List Nat) (m : List Md) : List Md := List.replicate nl Md.sh++cap.map fun i => if m.getD i Md.sh = Md.sh then Md.sh else Md.bw
noncomputable def capS (nl : Nat) (cap : List Nat) (st : L2.St) : L2.St := List.replicate nl none++cap.map fun i => st.getD i none
theorem zfs {α : Type} {nl : Nat} {cap : List Nat} {u : α} {h : Nat→α} {i : Nat} (hi : nl≤i) : (List.replicate nl u++cap.map h)[i]? = (cap[i - nl]?).map h := by
  rw [List.getElem?_append_right (by simpa using hi),List.length_replicate,List.getElem?_map]
section
variable {X : Cx} {pins : List (Addr × Obj)} {σ : L2.St} {H H' : Hp} {s : Shared} {scope : Scope} {N' : List Str} {nl : Nat} {cap : List Nat} {cl : List (Str × Addr)} {C : Addr} {fp : List Addr} {g : GE} {G G' : GH} {m : List Md} {r : Rho}
theorem zq9 (si : SI X g m r G σ H) (w : Grow X.K G H G' H') : SI (cxC X s H N' scope cl C fp) ⟨G,H,fun _ => none⟩ (capM nl cap m) (capR nl cap r) G' (capS nl cap σ) H' := by
  have lens : (capM nl cap m).length = nl + cap.length := by simp [capM]
  have lens2 : (capR nl cap r).length = nl + cap.length := by simp [capR]
  have lens3 : (capS nl cap σ).length = nl + cap.length := by simp [capS]
  have rget : ∀ (i : Nat) d,(capR nl cap r)[i]? = some (some d)→nl≤i∧∃ j,cap[i - nl]? = some j∧r[j]? = some (some d) := fun i d h => by
    by_cases hi : i < nl
    · unfold capR at h
      rw [List.getElem?_append_left (by simpa using hi),List.getElem?_replicate] at h
      split at h <;> cases h
    · refine ⟨by omega,?_⟩
      unfold capR at h
      rw [zfs (by omega)] at h
      cases e : cap[i - nl]? with
      | none => rw [e] at h; cases h
      | some j =>
        rw [e] at h
        refine ⟨j,rfl,?_⟩
        have h' : r.getD j none = some d := Option.some.inj h
        rw [List.getD_eq_getElem?_getD] at h'
        cases e2 : r[j]? with
        | none => rw [e2] at h'; cases h'
        | some o => rw [e2] at h'; rw [show o = some d from h']
  have mget : ∀ (i j : Nat) md,nl≤i→cap[i - nl]? = some j→(capM nl cap m)[i]? = some md→md = if m.getD j Md.sh = Md.sh then Md.sh else Md.bw := fun i j md hi hj h => by
    unfold capM at h
    rw [zfs hi,hj] at h
    exact (Option.some.inj h).symm
  have sget : ∀ (i j : Nat) v,nl≤i→cap[i - nl]? = some j→σ[j]? = some (some v)→(capS nl cap σ)[i]? = some (some v) := fun i j v hi hj h => by
    unfold capS
    rw [zfs hi,hj]
    show some (σ.getD j none) = _
    rw [List.getD_eq_getElem?_getD,h]
    rfl
  have mj : ∀ (j : Nat) d,r[j]? = some (some d)→m[j]? = some (m.getD j Md.sh) := fun j d h => by
    have hl : j < m.length := by
      have := (List.getElem?_eq_some_iff.mp h).1
      rw [si.lr,← si.lm] at this; exact this
    rw [List.getD_eq_getElem?_getD,List.getElem?_eq_getElem hl]
    rfl
  refine ⟨w.ok,w.he,w.ge,w.gf,by rw [lens,lens3],by rw [lens2,lens3],fun i d h hm => ?_,fun i d h hm => ?_,fun i d h hm => ?_,fun i j a d e _ h _ hm => ?_,fun i o h => nomatch h⟩
  · obtain ⟨hi,j,hj,hr⟩ := rget i d h
    have e := mget i j _ hi hj hm
    have hsh : m.getD j Md.sh = Md.sh := by
      by_cases z : m.getD j Md.sh = Md.sh
      · exact z
      · rw [if_neg z] at e; cases e
    obtain ⟨v,h1,h2⟩ := si.sh j d hr (by rw [mj j d hr,hsh])
    exact ⟨v,sget i j v hi hj h1,h2.mono w.ge⟩
  · obtain ⟨hi,j,hj,hr⟩ := rget i d h
    have e := mget i j _ hi hj hm
    split at e <;> cases e
  · obtain ⟨hi,j,hj,hr⟩ := rget i d h
    have e := mget i j _ hi hj hm
    have hsh : m.getD j Md.sh≠Md.sh := by
      intro z
      rw [if_pos z] at e; cases e
    have hmj := mj j d hr
    cases q : m.getD j Md.sh with
    | sh => exact absurd q hsh
    | ow =>
      rw [q] at hmj
      obtain ⟨a,h1,h2,_⟩ := si.ow j d hr hmj
      exact ⟨_,sget i j _ hi hj h1,.inr ⟨a,rfl,h2.mono w,h2.ob.isS⟩⟩
    | bw =>
      rw [q] at hmj
      obtain ⟨v,h1,h2⟩ := si.bw j d hr hmj
      refine ⟨v,sget i j _ hi hj h1,?_⟩
      rcases h2 with h2 | ⟨a,rfl,h2,_⟩
      · exact .inl (h2.mono w.ge)
      · exact .inr ⟨a,rfl,h2.mono w,h2.ob.isS⟩
  · obtain ⟨hi,j',hj,hr⟩ := rget i d h
    have e := mget i j' _ hi hj hm
    split at e <;> cases e
theorem zp8 (I : Inv X pins σ H s) (ok : (cxC X s H N' scope cl C fp).Ok) (sc : CompSc X scope N' nl cap) (h1 : ∀ x c,cl.lookup x = some c→X.env.cells.lookup x = some c) (h2 : ∀ x,(x,NameKind.free)∈scope.names→∃ c,cl.lookup x = some c)
    (hN : X.N.Nodup) {s4 : Shared} {H4 : Hp} {mc : Str→Option Value} (hos : s4.os = s.os) (hb : AllBare s4.gens) (kp : ∀ b o,s.heap.get? b = some o→s4.heap.get? b = some o) (hns : s4.heap.Ns C mc) (hC : s.heap.objs.size≤C) (hHC : H4 C = none)
    (hH : ∀ b,H b = none→b < s.heap.objs.size→H4 b = none) (un : Un (frs X.stack) fp H H4 s.heap s4.heap) (hok : HOk X.prog X.w H4 s4.heap) : Inv (cxC X s H N' scope cl C fp) [] (capS nl cap σ) H4 s4 := by
  refine ⟨ok,hos,hb,un,⟨mc,hns,fun i x v e1 e2 e3 => ?_⟩,fun x c e => ?_,hHC,fun x c e => ?_,fun p hp => absurd (show p∈([] : List (Addr × Obj)) from hp) (by simp),hok,?_⟩
  · have hi : nl≤i := by
      by_cases z : i < nl
      · unfold capS at e2
        rw [List.getElem?_append_left (by simpa using z),List.getElem?_replicate] at e2
        split at e2 <;> cases e2
      · omega
    unfold capS at e2
    rw [zfs hi] at e2
    cases ej : cap[i - nl]? with
    | none => rw [ej] at e2; cases e2
    | some j =>
      rw [ej] at e2
      have hj : i - nl < cap.length := (List.getElem?_eq_some_iff.mp ej).1
      obtain ⟨x',q1,q2,q3⟩ := sc.capN (i - nl) hj
      have ed : cap.getD (i - nl) 0 = j := by rw [List.getD_eq_getElem?_getD,ej]; rfl
      rw [ed] at q2
      have ei : nl + (i - nl) = i := by omega
      rw [ei] at q1
      have e1' : N'[i]? = some x := e1
      rw [q1] at e1'
      have ex : x' = x := Option.some.inj e1'
      subst ex
      have hv : σ[j]? = some (some v) := by
        have z : σ.getD j none = some v := Option.some.inj e2
        rw [List.getD_eq_getElem?_getD] at z
        cases q : σ[j]? with
        | none => rw [q] at z; cases z
        | some o => rw [q] at z; rw [show o = some v from z]
      have hfree := PySem.mem_of_lookup q3
      have kX := sc.freeK _ hfree rfl
      obtain ⟨mx,hnx,hl⟩ := I.loc
      obtain ⟨u,ru,lk⟩ := hl j x' v q2 hv (.inr kX)
      refine ⟨u,ru,.inr ?_⟩
      obtain ⟨c,ec⟩ := h2 x' hfree
      have hkk : Env.kindOf (cxC X s H N' scope cl C fp).env x' = some .cell∨Env.kindOf (cxC X s H N' scope cl C fp).env x' = some .free := by
        have z : (relabel scope X.env).names.lookup x' = some (relK X.env x' .free) := by rw [zdV,q3]; rfl
        show (relabel scope X.env).names.lookup x' = _∨(relabel scope X.env).names.lookup x' = _
        rw [z]
        unfold relK
        split
        · exact .inl rfl
        · exact .inr rfl
      refine ⟨hkk,c,ec,?_⟩
      rcases lk with ⟨k,_⟩ | ⟨_,c',ec',hcell⟩
      · rcases kX with z | z <;> rw [k] at z <;> cases z
      · rw [h1 x' c ec] at ec'
        cases ec'
        obtain ⟨o,ho,hd⟩ := hcell
        exact ⟨o,kp c o ho,hd⟩
  · obtain ⟨v,o,ho,hd⟩ := I.cell x c (h1 x c e)
    exact ⟨v,o,kp c o ho,hd⟩
  · obtain ⟨v,o,ho,hd⟩ := I.cell x c (h1 x c e)
    exact hH c (I.freeC x c (h1 x c e)) (Heap.lt_size ho)
  · show (capS nl cap σ).length = N'.length
    rw [sc.len]
    simp [capS]
end
end DL
end
section
namespace DL
open PySem PySem.Spec PyProof.Rows L2
section
variable {prog : Program} {w : World} {A : Around} {R : Result → Shared → Prop} {s : Shared}
theorem zn8 {elt target iter : Expr} {ifs : List Expr} {scope : Scope} {pos : Pos} {it acc : Value} {env : Env} (I : Nat→Shared→Prop)
    (turn : ∀ n s,I n s→wpAny (model prog w) A (pyNext it) (fun r s1 => match r with
      | none => R (.ok .next) s1
      | some v => wpAny (model prog w) A (letOwnedTupleGo target it v) (fun _ s1' => wpAny (model prog w) A (assign target env v) (fun _ s2 =>
          wpAny (model prog w) A (forIn ifs true fun c r => if r = true then do let ok ← isTrue c env (eval c env); pure (ForInStep.yield ok) else pure (ForInStep.yield r)) (fun ok s3 =>
            if ok = true then wpAny (model prog w) A (eval elt env) (fun x s4 =>
              wpAny (model prog w) A (call (.builtin "list.append") [acc,x]) (fun _ s5 => ∃ m,m < n∧I m s5) (notedBy (model prog w) A env fun e s' => R (.error e) s') s4) (notedBy (model prog w) A env fun e s' => R (.error e) s') s3
            else ∃ m,m < n∧I m s3) (notedBy (model prog w) A env fun e s' => R (.error e) s') s2) (notedBy (model prog w) A env fun e s' => R (.error e) s') s1')
          (notedBy (model prog w) A env fun e s' => R (.error e) s') s1) (notedBy (model prog w) A env fun e s' => R (.error e) s') s)
    (n : Nat) (h : I n s) : codeAny (model prog w) A (.compLoop (.ListComp elt [⟨target,iter,ifs,0⟩] scope pos) 0 it acc env) R s := by
  refine codeAny_loop rfl I (fun n s hI => ?_) n h
  show wpAny _ A ((compTurn (.ListComp elt [⟨target,iter,ifs,0⟩] scope pos) 0 it acc env).onRaise (fun x => do noteFrame x env; theTreesLotGoes x)) _ _ s
  refine wpAny_noted ?_
  rw [compTurn_list]
  refine wpAny_bind (wpAny_standAt (wpAny_bind (wpAny_mono (turn n s hI) (fun r s1 h1 => ?_) fun _ _ h' => h')))
  cases r with
  | none => exact wpAny_pure h1
  | some v =>
    refine wpAny_bind (wpAny_mono h1 (fun _ s1' h1' => ?_) fun _ _ h' => h')
    refine wpAny_bind (wpAny_mono h1' (fun _ s2 h2 => wpAny_bind (wpAny_mono h2 (fun ok s3 h3 => ?_) fun _ _ h' => h')) fun _ _ h' => h')
    cases ok with
    | false => exact wpAny_pure ⟨rfl,h3⟩
    | true =>
      exact wpAny_bind (wpAny_bind (wpAny_mono h3 (fun x s4 h4 => wpAny_bind (wpAny_mono h4 (fun _ s5 h5 => wpAny_pure (wpAny_pure ⟨rfl,h5⟩)) fun _ _ h' => h')) fun _ _ h' => h'))
end
noncomputable def SQs (X : Cx) (g : GE) (m : List Md) (ifs : List Expr) (f : FQ) : Prop := ∀ (pins : List (Addr × Obj)) (s : Shared) (σ : L2.St) (H : Hp) (Q : Bool→Hp→Prop),Inv X pins σ H s→tQ X g m f σ H Q →
  wpAny (model X.prog X.w) X.A (forIn ifs true fun c r => if r = true then do let ok ← isTrue c X.env (eval c X.env); pure (ForInStep.yield ok) else pure (ForInStep.yield r)) (TP X pins σ Q) X.xe s
section
variable {X : Cx} {g : GE} {m : List Md} {c : Expr} {p : FQ}
theorem zgU : SQs X g m [] fun _ => .ok true := fun pins s σ H Q I ⟨r,G,si,q⟩ => wpAny_tests_nil ⟨H,I,q G H (Grow.refl si.gok)⟩
theorem zeK (h : SQ X g m c p) : SQs X g m [c] p := fun pins s σ H Q I q => wpAny_tests_one (h pins s σ H Q I q)
end
noncomputable def FtOk (ft : FT) (nl : Nat) : Prop := ∀ d r r1,ft d r = some r1→r1.length = r.length∧∀ i,nl≤i→r1[i]? = r[i]?
noncomputable def zms (ft : FTs) (nl : Nat) : Prop := ∀ d r r1,ft d r = some r1→r1.length = r.length∧∀ i,nl≤i→r1[i]? = r[i]?
theorem zcO {i nl : Nat} (h : i < nl) : FtOk (ftN i) nl := fun d r r1 e => by
  cases e
  exact ⟨by simp,fun j hj => by rw [List.getElem?_set_ne (by omega)]⟩
theorem zl8 {nl : Nat} : zms zez nl := fun ds r r1 e => by
  cases ds with
  | nil => cases e; exact ⟨rfl,fun _ _ => rfl⟩
  | cons _ _ => cases e
theorem zhg {ft : FT} {fts : FTs} {nl : Nat} (h1 : FtOk ft nl) (h2 : zms fts nl) : zms (za4 ft fts) nl := fun ds r r1 e => by
  cases ds with
  | nil => cases e
  | cons d ds =>
    have e' : ((ft d r).bind fun r' => fts ds r') = some r1 := e
    cases q : ft d r with
    | none => rw [q] at e'; cases e'
    | some r2 =>
      rw [q] at e'
      obtain ⟨a1,a2⟩ := h1 d r r2 q
      obtain ⟨b1,b2⟩ := h2 ds r2 r1 e'
      exact ⟨b1.trans a1,fun i hi => (b2 i hi).trans (a2 i hi)⟩
theorem zpV {fts : FTs} {nl : Nat} (h : zms fts nl) : FtOk (ftT fts) nl := fun d r r1 e => by
  cases d with
  | tup ds => exact h ds r r1 e
  | _ => cases e
section
variable {X : Cx} {pins : List (Addr × Obj)} {σ : L2.St} {H2 : Hp} {s2 : Shared} {scope : Scope} {N' : List Str} {nl : Nat} {cap : List Nat} {cl : List (Str × Addr)} {fp : List Addr} {g : GE} {G2 : GH} {m : List Md} {r : Rho} {elt tg iter : Expr} {ifs : List Expr} {pos : Pos}
  {J : It} {it : Addr} {tn : Nat→Heap→Prop} {ds vs : List D} {ft : FT} {q : FQ} {fe : FE} {E : Value→Shared→Prop}
theorem zoa (i : Nat) : (capM nl cap m)[i]?≠some Md.ow := fun h => by
  by_cases hi : i < nl
  · unfold capM at h
    rw [List.getElem?_append_left (by simpa using hi),List.getElem?_replicate] at h
    split at h <;> cases h
  · unfold capM at h
    rw [zfs (by omega)] at h
    cases e : cap[i - nl]? with
    | none => rw [e] at h; cases h
    | some j =>
      rw [e] at h
      have h' : (if m.getD j Md.sh = Md.sh then Md.sh else Md.bw) = Md.ow := Option.some.inj h
      split at h' <;> cases h'
theorem zkZ {i : Nat} (hi : i < nl) (d : D) : (capR nl cap r)[i]?≠some (some d) := fun h => by
  unfold capR at h
  rw [List.getElem?_append_left (by simpa using hi),List.getElem?_replicate] at h
  split at h <;> cases h
theorem zhm (hN : X.N.Nodup) (hcalm : X.calm = true) (sc : CompSc X scope N' nl cap) (h1 : ∀ x c,cl.lookup x = some c→X.env.cells.lookup x = some c) (h2 : ∀ x,(x,NameKind.free)∈scope.names→∃ c,cl.lookup x = some c)
    (I2 : Inv X pins σ H2 s2) (si : SI X g m r G2 σ H2) (T : Turn X.prog X.w X.K tg J fp it tn) (st : tn 0 s2.heap) (hf : ∀ b∈fp,FpOk X pins H2 b) (Y : YieldsC X.K J ds G2 H2) (hsz : ds.length≤sizeLine)
    (hg : ∀ C,SG (cxC X s2 H2 N' scope cl C fp) ⟨G2,H2,fun _ => none⟩ (capM nl cap m) tg ft (capM nl cap m)) (hft : FtOk ft nl) (hq : ∀ C,SQs (cxC X s2 H2 N' scope cl C fp) ⟨G2,H2,fun _ => none⟩ (capM nl cap m) ifs q) (he : ∀ C,SE (cxC X s2 H2 N' scope cl C fp) ⟨G2,H2,fun _ => none⟩ (capM nl cap m) elt fe)
    (hres : zd5 ft q fe (capR nl cap r) ds = .ok vs) {RR : Value→Addr→Result→Shared→Prop}
    (hRR : ∀ (p C : Addr) (s' : Shared) (H' : Hp) (G' : GH),Inv X pins σ H' s'→(∃ mm,s'.heap.Ns C mm)→H' C = none→C≠X.env.locals→X.s₀.heap.objs.size≤C→(∀ x c,X.env.cells.lookup x = some c→c≠C)→(∀ z∈X.pn++pins,z.1≠C) →
      Grow X.K G2 H2 G' H'→H2 p = none→Own X.K G' H' p (.lst vs)→RR (.ref p) C (.ok .next) s') :
    wpAny (model X.prog X.w) X.A (newList []) (fun acc s3 => wpAny (model X.prog X.w) X.A (newFunctionEnv scope X.env.globals cl [] X.env.qual none .none (some X.env)) (fun cenv s4 =>
      codeAny (model X.prog X.w) X.A (.compStart (.ListComp elt [⟨tg,iter,ifs,0⟩] scope pos) 0 (.ref it) acc { cenv with scope := relabel scope X.env }) (RR acc cenv.locals) s4) E s3) E s2 := by
  refine wpAny_newObj_type (wpAny_newFunctionEnv sc.nocell (by intro y hy; simp at hy) (fun h₁ hns₁ hsb₁ => ?_) sc.kind)
  dsimp only at hns₁ hsb₁ ⊢
  generalize hH2 : s2.heap.push { cls := .type "list",dict := none,data := .seq ([] : List Value).toArray } = HH at hns₁ hsb₁ ⊢
  have hC : HH.objs.size = s2.heap.objs.size + 1 := by rw [← hH2,Heap.size_push]
  have hDC : s2.heap.objs.size≠HH.objs.size := by rw [hC]; exact Nat.ne_of_lt (Nat.lt_succ_self _)
  have hCle : s2.heap.objs.size≤HH.objs.size := by rw [hC]; exact Nat.le_succ _
  have below : ∀ b,b < s2.heap.objs.size→b≠HH.objs.size∧b≠s2.heap.objs.size := fun b hb => ⟨by rw [hC]; exact Nat.ne_of_lt (Nat.lt_succ_of_lt hb),Nat.ne_of_lt hb⟩
  have old : ∀ b o,s2.heap.get? b = some o→h₁.get? b = some o := fun b o e => hsb₁.extBut b o (below b (Heap.lt_size e)).1 (Heap.get?_push_of_some _ (hH2 ▸ Heap.get?_push_of_some _ e))
  have hacc : h₁.get? s2.heap.objs.size = some { cls := .type "list",dict := none,data := .seq ([] : List Value).toArray } := hsb₁.extBut _ _ hDC (Heap.get?_push_of_some _ (hH2 ▸ Heap.get?_push_size _ rfl))
  have hp2 : H2 s2.heap.objs.size = none := I2.hok.fresh (Nat.le_refl _)
  have hflt : ∀ b∈fp,FpOk X pins H2 b∧b < s2.heap.objs.size := fun b hb => ⟨hf b hb,by
    obtain ⟨o,e,_⟩ := T.obj 0 s2.heap st b hb
    exact Heap.lt_size e⟩
  have ok := zp6 (fp := fp) I2 sc h1 h2 hflt hCle
  generalize hXX : cxC X s2 H2 N' scope cl HH.objs.size fp = XX at ok
  have hG2p : G2 s2.heap.objs.size = none := si.gok.isN hp2
  have w0 : Grow X.K G2 H2 G2 (upd H2 s2.heap.objs.size (.lst [])) := Grow.new si.gok hp2 _
  have hok4 : HOk X.prog X.w (upd H2 s2.heap.objs.size (.lst [])) h₁ := I2.hok.laid old (Nat.le_refl _) ⟨Nat.zero_le _,[],0,.nil,hacc⟩
  have IC : Inv XX [] (capS nl cap σ) (upd H2 s2.heap.objs.size (.lst [])) { s2 with heap := h₁,toks := s2.toks + ([] : List (Str × Value)).length } := by
    subst hXX
    refine zp8 I2 ok sc h1 h2 hN rfl I2.bare old hns₁ hCle ?_ (fun b hb hlt => ?_) (Un.laid old (Nat.le_refl _) hp2) hok4
    · rw [zat (Ne.symm hDC)]; exact I2.hok.fresh hCle
    · rw [zat (below b hlt).2]; exact hb
  have SC : SI XX ⟨G2,H2,fun _ => none⟩ (capM nl cap m) (capR nl cap r) G2 (capS nl cap σ) (upd H2 s2.heap.objs.size (.lst [])) := by
    subst hXX
    exact zq9 si w0
  have hst₁ : tn 0 h₁ := T.keep _ _ _ st fun b _ o e => old b o e
  have hfX : ∀ (H' : Hp),(∀ b∈fp,H' b = none)→∀ b∈fp,FpOk XX [] H' b := fun H' hn b hb => by
    obtain ⟨z0,z1,z2,z3,z4,z5⟩ := hf b hb
    refine ⟨hn b hb,?_,?_,?_,?_,?_⟩
    · subst hXX; exact (below b (hflt b hb).2).1
    · subst hXX
      intro hfs
      rcases List.mem_cons.mp (I2.stkSub b hfs) with z | z
      · exact z1 z
      · exact z2 z
    · subst hXX; exact .inl hb
    · subst hXX; exact fun x c e => z4 x c (h1 x c e)
    · subst hXX; intro p hp; exact absurd (show p∈([] : List (Addr × Obj)) from hp) (by simp)
  have eA : XX.A = X.A := by subst hXX; rfl
  have eP : XX.prog = X.prog := by subst hXX; rfl
  have eW : XX.w = X.w := by subst hXX; rfl
  have eK : XX.K = X.K := by subst hXX; rfl
  have eX : XX.xe = fun _ _ => False := by subst hXX; rfl
  have eE : XX.env = compEnvC scope cl HH.objs.size X.env := by subst hXX; rfl
  have eC : XX.calm = true := by subst hXX; exact hcalm
  have eH : XX.H₀ = H2 := by subst hXX; rfl
  have hg' : PG XX tg (tG XX ⟨G2,H2,fun _ => none⟩ (capM nl cap m) (capM nl cap m) ft) := by subst hXX; exact (hg _).2
  have hq' : SQs XX ⟨G2,H2,fun _ => none⟩ (capM nl cap m) ifs q := by subst hXX; exact hq _
  have he' : SE XX ⟨G2,H2,fun _ => none⟩ (capM nl cap m) elt fe := by subst hXX; exact he _
  have fin' : ∀ {H' : Hp} {s' : Shared} {σ' : L2.St} {G' : GH} {ws : List V},Inv XX [] σ' H' s'→Grow X.K G2 H2 G' H'→H' s2.heap.objs.size = some (.lst ws)→G' s2.heap.objs.size = none→RGs X.K G' ws vs→RR (.ref s2.heap.objs.size) HH.objs.size (.ok .next) s' := fun {H' s' σ' G' ws} J1 wg hpp hgp rs => by
    subst hXX
    have un := J1.base
    refine hRR _ _ s' H' G' ?_ (let ⟨mm,hn,_⟩ := J1.loc; ⟨mm,hn⟩) J1.free (Nat.ne_of_gt (Nat.lt_of_lt_of_le I2.lt hCle)) (Nat.le_trans I2.sz hCle) (fun x c e z => ?_) (fun z hz e => ?_) wg hp2 ⟨hgp,.lst hpp rs⟩
    · refine I2.call' J1.os un J1.hok J1.bare fun b hb => ?_
      obtain ⟨z0,z1,z2,z3,z4,z5⟩ := hf b hb
      exact ⟨z3,z1,z4,z5⟩
    · obtain ⟨v,o,ho,_⟩ := I2.cell x c e
      exact absurd (Nat.lt_of_lt_of_le (Heap.lt_size ho) hCle) (by rw [z]; exact Nat.lt_irrefl _)
    · have := (I2.pin z hz).1
      exact absurd (Nat.lt_of_lt_of_le (Heap.lt_size this) hCle) (by rw [e]; exact Nat.lt_irrefl _)
  have loop : codeAny (model X.prog X.w) X.A (.compLoop (.ListComp elt [⟨tg,iter,ifs,0⟩] scope pos) 0 (.ref it) (.ref s2.heap.objs.size) (compEnvC scope cl HH.objs.size X.env)) (RR (.ref s2.heap.objs.size) HH.objs.size)
      { s2 with heap := h₁,toks := s2.toks + ([] : List (Str × Value)).length } := by
    refine zn8 (fun n s' => ∃ (i : Nat) (σ' : L2.St) (H' : Hp) (G' : GH) (ws : List V) (done rest : List D),Inv XX [] σ' H' s'∧SI XX ⟨G2,H2,fun _ => none⟩ (capM nl cap m) (capR nl cap r) G' σ' H'∧tn i s'.heap∧(∀ b∈fp,H' b = none)∧Grow X.K G2 H2 G' H' ∧
        H' s2.heap.objs.size = some (.lst ws)∧G' s2.heap.objs.size = none∧RGs X.K G' ws done∧zd5 ft q fe (capR nl cap r) (ds.drop i) = .ok rest∧vs = done++rest∧done.length≤i∧i≤ds.length∧n = ds.length - i) ?_ ds.length
      ⟨0,_,_,G2,[],[],vs,IC,SC,hst₁,fun b hb => ?_,w0,zam,hG2p,.nil,hres,rfl,Nat.le_refl _,Nat.zero_le _,rfl⟩
    rotate_left
    · rw [zat (below b (hflt b hb).2).2]; exact (hf b hb).1
    rintro n s3 ⟨i,σ3,H3,G3,ws,done,rest,I3,S3,st3,fr3,w3,hp3,hg3,rs3,hr3,hv3,hd3,hi3,rfl⟩
    have weaken : ∀ {α : Type} {t : Sem α} {Q : α→Shared→Prop} {s' : Shared} {E' : Value→Shared→Prop},wpAny (model XX.prog XX.w) XX.A t Q XX.xe s'→wpAny (model X.prog X.w) X.A t Q E' s' := fun h => by
      rw [eP,eW,eA,eX] at h
      exact wpAny_mono h (fun _ _ z => z) fun _ _ z => z.elim
    by_cases hlt : i < ds.length
    · have hd : ds.drop i = ds[i]::ds.drop (i + 1) := List.drop_eq_getElem_cons hlt
      rw [hd] at hr3
      unfold zd5 at hr3
      have it3 := T.item XX eP eW eK eC i [] s3 σ3 H3 (notedBy (model X.prog X.w) X.A (compEnvC scope cl HH.objs.size X.env) fun e s' => RR (.ref s2.heap.objs.size) HH.objs.size (.error e) s') I3 (hfX H3 fr3) st3 (Y.go G3 H3 i w3 hlt)
      rw [eA] at it3
      refine thn it3 fun rr s4 ⟨u,hr,h4⟩ => ?_
      subst hr
      refine thn h4 fun _ s5 ⟨x,H5,I5,r5,y5,st5,fr5⟩ => ?_
      obtain ⟨G5,w5,rv5⟩ := Y.yld G3 H3 i x H5 ds[i] w3 y5 (List.getElem?_eq_getElem hlt)
      have w25 := w3.trans w5
      cases eft : ft ds[i] (capR nl cap r) with
      | none => rw [eft] at hr3; cases hr3
      | some r1 =>
        rw [eft] at hr3
        simp only [opt_some,bind_ok] at hr3
        have I5' := I5.pinned (hfX H5 fr5) (T.obj _ _ st5)
        have S5 : SI XX ⟨G2,H2,fun _ => none⟩ (capM nl cap m) (capR nl cap r) G5 σ3 H5 := S3.grow (by rw [eK]; exact w5)
        have rv5' : RG XX.K G5 x ds[i] := by rw [eK]; exact rv5
        have as5 := hg' _ s5 σ3 H5 x u (fun σ6 H6 => H6 = H5∧SI XX ⟨G2,H2,fun _ => none⟩ (capM nl cap m) r1 G5 σ6 H5) I5' r5 ⟨capR nl cap r,G5,ds[i],S5,rv5',r1,eft,fun σ6 si6 => ⟨rfl,si6⟩⟩
        rw [eE] at as5
        refine thn (weaken as5) fun _ s6 ⟨σ6,H6,I6,e6,S6⟩ => ?_
        subst e6
        obtain ⟨fl1,fl2⟩ := hft _ _ _ eft
        cases eq1 : q r1 with
        | stuck => rw [eq1] at hr3; cases hr3
        | exc xx => rw [eq1] at hr3; cases hr3
        | ok b1 =>
          rw [eq1] at hr3
          simp only [bind_ok] at hr3
          have te6 := hq' _ s6 σ6 H6 (fun b H7 => b = b1∧∃ G7,Grow X.K G5 H6 G7 H7) I6 ⟨r1,G5,S6,by rw [eq1]; exact fun G7 H7 w7 => ⟨rfl,G7,by rw [eK] at w7; exact w7⟩⟩
          rw [eE] at te6
          refine thn (weaken te6) fun b s7 ⟨H7,I7,eb,G7,w7⟩ => ?_
          subst eb
          have S7 : SI XX ⟨G2,H2,fun _ => none⟩ (capM nl cap m) r1 G7 σ6 H7 := S6.grow (by rw [eK]; exact w7)
          have w27 := w25.trans w7
          have hp7 : H7 s2.heap.objs.size = some (.lst ws) := w7.he _ _ (w5.he _ _ hp3)
          have hg7 : G7 s2.heap.objs.size = none := by
            rw [w7.gf _ (by rw [w5.he _ _ hp3]; simp),w5.gf _ (by rw [hp3]; simp)]; exact hg3
          have back : ∀ {σ8 : L2.St} {H8 : Hp} {G8 : GH} {s8 : Shared},Inv XX ([]++zgX fp s5.heap) σ8 H8 s8→Inv XX [] σ8 H8 s8∧tn (i + 1) s8.heap∧∀ b∈fp,H8 b = none := fun {σ8 H8 G8 s8} I8 => by
            refine ⟨I8.unpinned,T.keep _ _ _ st5 fun b hb o e => (I8.pin (b,o) (List.mem_append_right _ (List.mem_append_right _ (zdI hb e)))).1,fun b hb => ?_⟩
            obtain ⟨o,e,_⟩ := T.obj _ _ st5 b hb
            exact (I8.pin (b,o) (List.mem_append_right _ (List.mem_append_right _ (zdI hb e)))).2.1
          have less : ∀ {σ8 : L2.St} {H8 : Hp} {G8 : GH},SI XX ⟨G2,H2,fun _ => none⟩ (capM nl cap m) r1 G8 σ8 H8→SI XX ⟨G2,H2,fun _ => none⟩ (capM nl cap m) (capR nl cap r) G8 σ8 H8 := fun h => h.less fl1.symm fun j d hj => by
            by_cases hjn : j < nl
            · exact absurd hj (zkZ hjn d)
            · rw [fl2 j (by omega)]; exact hj
          cases b with
          | false =>
            rw [if_neg Bool.false_ne_true] at hr3 ⊢
            obtain ⟨I7',t7,f7⟩ := back (G8 := G7) I7
            exact ⟨ds.length - (i + 1),by omega,i + 1,σ6,H7,G7,ws,done,rest,I7',less S7,t7,f7,w27,hp7,hg7,rs3.mono (Gle.trans w5.ge w7.ge),hr3,hv3,by omega,hlt,rfl⟩
          | true =>
            rw [if_pos rfl] at hr3 ⊢
            cases ee1 : fe r1 with
            | stuck => rw [ee1] at hr3; cases hr3
            | exc xx => rw [ee1] at hr3; cases hr3
            | ok d1 =>
              rw [ee1] at hr3
              simp only [bind_ok] at hr3
              cases er : zd5 ft q fe (capR nl cap r) (ds.drop (i + 1)) with
              | stuck => rw [er] at hr3; cases hr3
              | exc xx => rw [er] at hr3; cases hr3
              | ok rest' =>
                rw [er] at hr3
                simp only [bind_ok] at hr3
                cases hr3
                have el7 := he' _ s7 σ6 H7 (fun v H8 => ∃ G8,Grow X.K G7 H7 G8 H8∧RG X.K G8 v d1) I7 ⟨r1,G7,S7,by rw [ee1]; exact fun v G8 H8 w8 rv => ⟨G8,by rw [eK] at w8; exact w8,by rw [eK] at rv; exact rv⟩⟩
                rw [eE] at el7
                refine thn (weaken el7) fun u8 s8 ⟨v8,H8,I8,r8,G8,w8,rv8⟩ => ?_
                have hp8 : H8 s2.heap.objs.size = some (.lst ws) := w8.he _ _ hp7
                have hg8 : G8 s2.heap.objs.size = none := by rw [w8.gf _ (by rw [hp7]; simp)]; exact hg7
                have S8 : SI XX ⟨G2,H2,fun _ => none⟩ (capM nl cap m) r1 G8 σ6 H8 := S7.grow (by rw [eK]; exact w8)
                have hlen := Paired.length rs3
                have ap8 := zdz (X := XX) _ s8 σ6 H8 (.ref s2.heap.objs.size) [v8] (.ref s2.heap.objs.size) [u8] (fun v H9 => H9 = upd H8 s2.heap.objs.size (.lst (ws++[v8]))) I8 rfl (.cons r8 .nil) ⟨_,ws,v8,rfl,rfl,hp8,by omega,rfl⟩
                refine thn (weaken ap8) fun u9 s9 ⟨v9,H9,I9,r9,e9⟩ => ?_
                subst e9
                obtain ⟨I9',t9,f9⟩ := back (G8 := G8) I9
                have rsn : RGs X.K G8 (ws++[v8]) (done++[d1]) := Paired.snoc (rs3.mono (Gle.trans (Gle.trans w5.ge w7.ge) w8.ge)) rv8
                have w28 := w27.trans w8
                refine ⟨ds.length - (i + 1),by omega,i + 1,σ6,_,G8,ws++[v8],done++[d1],rest',I9',less (S8.other hg8 hp2 zoa _),t9,f9,?_,zam,hg8,rsn,er,by rw [hv3,List.append_assoc]; rfl,by rw [List.length_append,List.length_singleton]; omega,hlt,rfl⟩
                refine ⟨fun b e hb => (w28.ok b e hb).mono (fun _ _ z => z) fun o z => ?_,fun b o hb => ?_,w28.ge,w28.gf⟩
                · rw [zat (by rintro rfl; rw [hg8] at hb; cases hb)]; exact z
                · rw [zat (by rintro rfl; rw [hp2] at hb; cases hb)]; exact w28.he b o hb
    · have e : i = ds.length := by omega
      subst e
      rw [List.drop_length] at hr3
      cases hr3
      rw [List.append_nil] at hv3
      subst hv3
      have dn := T.done XX eP eW eK eC ds.length [] s3 σ3 H3 (notedBy (model X.prog X.w) X.A (compEnvC scope cl HH.objs.size X.env) fun e s' => RR (.ref s2.heap.objs.size) HH.objs.size (.error e) s') I3 (hfX H3 fr3) st3 (Y.stop G3 H3 w3)
      rw [eA] at dn
      refine thn dn fun rr s4 ⟨hr,I4⟩ => ?_
      subst hr
      exact fin' I4 w3 hp3 hg3 rs3
  exact codeAny_compStart_list loop (T.self X.A 0 _ _ _ hst₁ loop)
end
end DL
end
section
namespace DL
open PySem PySem.Spec PyProof.Rows L2
noncomputable def noXL : Res (List D)→Res (List D)
  | .ok d => .ok d
  | _ => .stuck
@[simp] theorem noXL_ok (d : List D) : noXL (.ok d) = .ok d := rfl
noncomputable def zci (nl : Nat) (cap : List Nat) (fi : FI) (ft : FT) (q : FQ) (fe : FE) : FE := fun r => (fi r).bind fun ds => (opt (sz ds)).bind fun ds => (noXL (zd5 ft q fe (capR nl cap r) ds)).bind fun vs => .ok (.lst vs)
section
variable {X : Cx} {g : GE} {m mb : List Md} {scope : Scope} {N' : List Str} {nl : Nat} {cap : List Nat} {elt tg iter : Expr} {ifs : List Expr} {pos pos' spos : Pos} {fi : FI} {ft : FT} {q : FQ} {fe : FE} {ro : Bool}
theorem zhi {r : Rho} {P : D→Prop} {x : D→Prop} (h : fin (zci nl cap fi ft q fe r) P x) : fin (fi r) (fun ds => ∃ vs,ds.length≤sizeLine∧zd5 ft q fe (capR nl cap r) ds = .ok vs∧P (.lst vs)) x := by
  unfold zci at h
  refine zah (zaf h) fun ds h1 => ?_
  obtain ⟨ds',e2,h2⟩ := zav (zaf h1)
  obtain ⟨rfl,hl⟩ := zm3 e2
  cases e3 : zd5 ft q fe (capR nl cap r) ds' with
  | ok vs => rw [e3] at h2; exact ⟨vs,hl,rfl,h2⟩
  | exc x => rw [e3] at h2; exact h2.elim
  | stuck => rw [e3] at h2; exact h2.elim
theorem CompSc.clo {pins : List (Addr × Obj)} {σ : L2.St} {H : Hp} {s : Shared} (sc : CompSc X scope N' nl cap) (ok : X.Ok) : ∃ cl,closureFor scope X.env = pure cl∧(∀ x c,cl.lookup x = some c→X.env.cells.lookup x = some c)∧(∀ x,(x,NameKind.free)∈scope.names→∃ c,cl.lookup x = some c) :=
  zjd fun y hy hf => ok.has y.1 (sc.freeK y hy hf)
theorem zg7 (hN : X.N.Nodup) (hcalm : X.calm = true) (sc : CompSc X scope N' nl cap) (hi : SItC X g m tg iter fi) (hg : ∀ s0 H0 cl C fp g',SG (cxC X s0 H0 N' scope cl C fp) g' (capM nl cap m) tg ft (capM nl cap m)) (hft : FtOk ft nl)
    (hq : ∀ s0 H0 cl C fp g',SQs (cxC X s0 H0 N' scope cl C fp) g' (capM nl cap m) ifs q) (he : ∀ s0 H0 cl C fp g',SE (cxC X s0 H0 N' scope cl C fp) g' (capM nl cap m) elt fe)
    (hs : ∀ x,foldedSetIterable iter X.env x = pure x := by intro _; rfl) : SO X g m (.ListComp elt [⟨tg,iter,ifs,0⟩] scope pos) (zci nl cap fi ft q fe) := by
  intro pins s σ H Q I h
  obtain ⟨r,G,si,k⟩ := h
  obtain ⟨cl,hcl,h1,h2⟩ := sc.clo (pins := pins) (σ := σ) (H := H) (s := s) I.ok
  have k1 := zhi k
  rw [eval_ListComp]
  refine wpAny_comprehension_free (use := none) rfl hs hcl sc.kind sc.names (thn (hi pins s σ H (fun J H' => ∃ G' ds vs,Grow X.K G H G' H'∧YieldsC X.K J ds G' H'∧ds.length≤sizeLine∧zd5 ft q fe (capR nl cap r) ds = .ok vs ∧
    (∀ a G' H',Grow X.K G H G' H'→H a = none→Own X.K G' H' a (.lst vs)→Q (.ref a) H')) I ⟨r,G,si,zah k1 fun ds ⟨vs,z1,z2,z3⟩ J G' H' w y => ⟨G',ds,vs,w,y,z1,z2,z3⟩⟩) fun v s1 hv => thn hv fun itv s2 hv2 => ?_)
  obtain ⟨it,fp,tn,J,H2,rfl,I2,T,st,hf,G2,ds,vs,w2,Y,hsz,hres,hQ⟩ := hv2
  refine zhm (RR := fun acc C => compPost (model X.prog X.w) X.A X.xe none (EP X pins σ Q) acc C) hN hcalm sc h1 h2 I2 (si.grow w2) T st hf Y hsz (fun C => hg _ _ _ _ _ _) hft (fun C => hq _ _ _ _ _ _) (fun C => he _ _ _ _ _ _) hres ?_
  intro p C s' H' G' I' hns hC1 hC2 hC3 hC4 hC5 w' hp ho
  obtain ⟨mm,hn⟩ := hns
  refine ⟨mm,hn,fun h' hsb => ⟨.ref p,H',?_,rfl,hQ p G' H' (w2.trans w') (w2.back hp) ho⟩⟩
  exact I'.turned (it := C) (t' := s'.toks) (fun b o hb e => hsb.extBut b o hb e) hC1 hC2.symm.symm (.inr hC3) hC4 hC5
theorem zb4 (i : Nat) {y : Str} (hN : X.N.Nodup) (hcalm : X.calm = true) (hy : X.N[i]? = some y) (hyl : X.env.scope.names.lookup y = some .local) (sc : CompSc X scope N' nl cap) (hi : SItC X g m tg iter fi) (hg : ∀ s0 H0 cl C fp g',SG (cxC X s0 H0 N' scope cl C fp) g' (capM nl cap m) tg ft (capM nl cap m)) (hft : FtOk ft nl)
    (hq : ∀ s0 H0 cl C fp g',SQs (cxC X s0 H0 N' scope cl C fp) g' (capM nl cap m) ifs q) (he : ∀ s0 H0 cl C fp g',SE (cxC X s0 H0 N' scope cl C fp) g' (capM nl cap m) elt fe)
    (hsw : swapsWith (.ListComp elt [⟨tg,iter,ifs,0⟩] scope pos) (some (.Name y pos')) spos.line X.env = pure true := by rfl) (hs : ∀ x,foldedSetIterable iter X.env x = pure x := by intro _; rfl) :
    SS X g ro mb m (.Assign [.Name y pos'] (.ListComp elt [⟨tg,iter,ifs,0⟩] scope pos) spos) (setF m i (zci nl cap fi ft q fe)) (m.set i .ow) := by
  refine ⟨by simp,?_⟩
  intro pins s σ H D0 I h
  obtain ⟨r,G,si,k⟩ := h
  obtain ⟨cl,hcl,h1,h2⟩ := sc.clo (pins := pins) (σ := σ) (H := H) (s := s) I.ok
  have k1 := zhi (zcb si (m' := m.set i .ow) (by simp) k)
  rw [exec_Assign_Name_used _ _ _ _ hsw]
  refine wpAny_bind (wpAny_standAt (wpAny_bind ?_))
  show wpAny _ X.A (do let _ ← comprehension (.ListComp elt [⟨tg,iter,ifs,0⟩] scope pos) scope X.env _ (newList []) false (eval iter X.env) (some (assign (.Name y pos') X.env))) _ _ s
  refine wpAny_bind (wpAny_mono (wpAny_comprehension_free (use := some (assign (.Name y pos') X.env)) (Q := fun _ s' => SP X pins D0 .next s') rfl hs hcl sc.kind sc.names (thn (hi pins s σ H (fun J H' => ∃ G' ds vs,Grow X.K G H G' H'∧YieldsC X.K J ds G' H'∧ds.length≤sizeLine∧zd5 ft q fe (capR nl cap r) ds = .ok vs ∧
    (∀ σ' G' H',Gle G G'→SI X g (m.set i .ow) (r.set i (some (.lst vs))) G' σ' H'→D0.nx σ' H')) I ⟨r,G,si,zah k1 fun ds ⟨vs,z1,z2,z3⟩ J G' H' w y => ⟨G',ds,vs,w,y,z1,z2,z3⟩⟩) fun v s1 hv => thn hv fun itv s2 hv2 => ?_)) (fun _ s' hq => wpAny_pure (wpAny_pure hq)) fun _ _ e => e)
  obtain ⟨it,fp,tn,J,H2,rfl,I2,T,st,hf,G2,ds,vs,w2,Y,hsz,hres,hQ⟩ := hv2
  refine zhm (RR := fun acc C => compPost (model X.prog X.w) X.A X.xe (some (assign (.Name y pos') X.env)) (fun _ s' => SP X pins D0 .next s') acc C) hN hcalm sc h1 h2 I2 (si.grow w2) T st hf Y hsz (fun C => hg _ _ _ _ _ _) hft (fun C => hq _ _ _ _ _ _) (fun C => he _ _ _ _ _ _) hres ?_
  intro p C s' H' G' I' hns hC1 hC2 hC3 hC4 hC5 w' hp ho
  obtain ⟨mm,hn⟩ := hns
  show wpAny _ X.A (assign (.Name y pos') X.env (.ref p)) _ _ s'
  refine wpAny_assign_Name (zgH I' hN hy (.inl hyl) (v := .ref p) rfl (fun s'' I'' ⟨a,hsb,ha⟩ => ?_) (.inr hyl))
  have hCa : C≠a := by
    rcases ha with z | z
    · rw [z]; exact hC2
    · exact (hC4 y a z).symm
  refine ⟨mm,hn.sameBut hsb hCa,fun h' hsb' => ?_⟩
  refine ⟨_,H',I''.turned (it := C) (t' := s''.toks) (fun b o hb e => hsb'.extBut b o hb e) hC1 hC2 (.inr hC3) hC4 hC5,?_⟩
  exact hQ _ G' H' (w2.trans w').ge (si.setN (w2.trans w') i (w2.back hp) ho)
end
end DL
end
section
namespace DL
open PySem PySem.Spec PyProof.Rows L2
noncomputable def MutD (K : PySem.W.Frag) (r : V→List V→Hp→VK→Prop) (mk : D→List D→Option D) : Prop := ∀ (G : GH) (H : Hp) (a : Addr) (d : D) (vs : List V) (ds : List D) (d' : D) (Q : VK),GOk K G H→Own K G H a d→RGs K G vs ds→mk d ds = some d' →
  (∀ o',OwnO K G (upd H a o') a d'→Q .non (upd H a o'))→r (.ref a) vs H Q
noncomputable def tyB (T : String) : D→Bool
  | .lst _ => T == "list"
  | .dic _ => T == "dict"
  | _ => false
noncomputable def mutF (T : String) (m : List Md) (i : Nat) (fl : Rho→Res (List D)) (mk : D→List D→Option D) : FS := fun r => match r[i]? with
  | some (some d) => if tyB T d = true then onE m r (fl r) fun ds => (match mk d ds with
    | some d' => .nx (r.set i (some d'))
    | none => .stuck) else .stuck
  | _ => .stuck
theorem zon {K : PySem.W.Frag} {G : GH} {H : Hp} {a : Addr} {d : D} {T : String} (o : Own K G H a d) (t : tyB T d = true) : tyV K T (.ref a) H := by
  cases o.ob with
  | lst r s => exact .inl ⟨eq_of_beq t,_,SqL.of r⟩
  | dic r s => exact .inr (.inr (.inl ⟨eq_of_beq t,.inl ⟨_,.inl r⟩⟩))
section
variable {X : Cx} {g : GE} {m mb : List Md} {e a b o : Expr} {es : List Expr} {f fa fb : FE} {fl : Rho → Res (List D)} {pos pos' apos cpos : Pos} {ro : Bool} {x name : Str} {T id : String} {R : V → List V → Hp → VK → Prop} {mk : D → List D → Option D}
theorem zlV (i : Nat) (hm : m[i]? = some .ow) (hk : MutD X.K R mk) {D0 : Ends} {σ : L2.St} {H : Hp} (h : tS X g ro m m mb (mutF T m i fl mk) D0 σ H) :
    ∃ v,σ[i]? = some (some v)∧tyV X.K T v H∧tL X g m fl σ H fun xs H2 => R v xs H2 fun _ H1 => D0.nx σ H1 := by
  obtain ⟨r,G,si,k⟩ := h
  unfold mutF at k
  cases er : r[i]? with
  | none => simp only [er] at k; exact (show False from k).elim
  | some oo =>
    cases oo with
    | none => simp only [er] at k; exact (show False from k).elim
    | some d =>
      simp only [er] at k
      by_cases ht : tyB T d = true
      · rw [if_pos ht] at k
        obtain ⟨a,h1,h2,h3⟩ := si.mut hm er
        refine ⟨_,h1,zon h2 ht,r,G,si,zah (zcb si rfl k) fun ds k2 vs G' H' w rs => ?_⟩
        cases em : mk d ds with
        | none => simp only [em] at k2; exact (show False from k2).elim
        | some d' =>
          simp only [em] at k2
          obtain ⟨a',h1',h2',h3'⟩ := (si.grow w).mut hm er
          rw [h1] at h1'; cases h1'
          exact hk G' H' a d vs ds d' _ w.ok h2' rs em fun o' ob => k2 σ G' _ w.ge (h3' o' d' ob)
      · rw [if_neg ht] at k; exact (show False from k).elim
theorem zgQ (i : Nat) (hm : m[i]? = some .ow) (pa : PlainAttrs T) (slot : Slot T name id) (hty : typeOf (.builtin id) = pure (.type "method_descriptor")) (hmt : MtR X id R) (hk : MutD X.K R mk) (hN : X.N[i]? = some x) (hv : Vis X.env.scope x) (ha : SA X g m (e::es) fl)
    (hd : (x == ("__debug__" : Str)) = false := by decide) (hcd : (x == ("__classdict__" : Str)) = false := by decide)
    (hbase : attributeBase (.Name x pos') name X.env (eval (.Name x pos') X.env) = eval (.Name x pos') X.env := by rfl)
    (hfew : ((backTo cpos (starEach (e::es) X.env)).all (fun x => !x.1) && (backToKw cpos (keywordEach [] X.env)).all (fun x => x.1.isSome) && decide ((e::es).length + ([] : List Keyword).length + (if ([] : List Keyword).isEmpty then 0 else 1) < 30)) = true := by rfl)
    (hline : (apos.endLine == cpos.line) = true := by rfl) (hst : starEach (e::es) X.env = (false,eval e X.env)::starEach es X.env := by rfl) (hplain : (backTo cpos (starEach es X.env)).any (·.1) = false := by rfl) :
    SS X g ro mb m (.Expr (.Call (.Attribute (.Name x pos') name apos) (e::es) [] cpos) pos) (mutF T m i fl mk) m :=
  ⟨rfl,PS.imp (znm (zo5 pa slot hty hmt (zgY hN hv hd hcd) ha hbase hfew hline hst hplain)) fun D0 σ H h => zlV i hm hk h⟩
noncomputable def appD : D→List D→Option D
  | .lst ds,[d] => if ds.length < sizeLine then some (.lst (ds++[d])) else none
  | _,_ => none
theorem ziJ {K : PySem.W.Frag} : MutD K zjH appD := by
  intro G H a d vs ds d' Q gk ow rs e q
  unfold appD at e
  split at e
  · split at e
    · rename_i hl
      cases e
      cases ow.ob with
      | lst r s =>
        cases rs with
        | cons r1 t =>
          cases t
          have := Paired.length s
          exact ⟨a,_,_,rfl,rfl,r,by omega,q _ (.lst zam (Paired.snoc s r1))⟩
    · cases e
  · cases e
noncomputable def znX (x : Int) (n : Nat) : Nat := if x < 0 then (x + (n : Int)).toNat else min x.toNat n
noncomputable def insL {α : Type} (xs : List α) (x : Int) (y : α) : List α := xs.take (znX x xs.length)++y::xs.drop (znX x xs.length)
noncomputable def zjE : V→List V→Hp→VK→Prop := fun x vs H Q => ∃ l xs i y,x = .ref l∧vs = [.int i,y]∧H l = some (.lst xs)∧-(2 ^ 63)≤i∧i < 2 ^ 63∧xs.length < sizeLine∧Q .non (upd H l (.lst (insL xs i y)))
theorem zj4 : MtR X "list.insert" zjE := by
  intro pins s σ H x vs v us Q I rx rv h
  obtain ⟨l,xs,i,y,rfl,rfl,hH,h1,h2,hz,q⟩ := h
  cases rx
  obtain ⟨u,w',rfl,⟨t,rfl⟩,ry⟩ := zol rv
  obtain ⟨z,its,n,r,hl,e⟩ := I.lstM hH
  have hfit : ¬(!Builtin.List.listFitsIndex i) = true := by rw [fitsIndex_both h1 h2]; exact Bool.false_ne_true
  refine call_meets PySem.F.slot_list_insert ⟨_,e,rfl⟩ PySem.F.entry_list_insert (PySem.F.args_list_insert_3 _ _ _) (AutoListH.list_insert_list_int_val_1 l its.toArray n i t w' hfit (by rw [List.size_toArray]; omega)) ⟨e,?_⟩
  refine ⟨.non,_,I.lset (its' := insL its i w') hH e ?_ ?_ ?_,rfl,q⟩
  · show ((its.toArray.extract 0 (if i < 0 then (i + ((its.toArray.size : Nat) : Int)).toNat else min i.toNat its.toArray.size)).push w'++its.toArray.extract (if i < 0 then (i + ((its.toArray.size : Nat) : Int)).toNat else min i.toNat its.toArray.size)) = (insL its i w').toArray
    rw [List.size_toArray]
    unfold insL znX
    generalize (if i < 0 then (i + ((its.length : Nat) : Int)).toNat else min i.toNat its.length) = k
    apply Array.ext'
    simp
    exact List.take_of_length_le (by rw [List.length_drop]; exact Nat.le_refl _)
  · unfold insL
    rw [hl]
    exact Vals.append (r.take _) (.cons ry (r.drop _))
  · unfold insL
    rw [List.length_append,List.length_cons,List.length_take,List.length_drop]
    omega
noncomputable def insD : D→List D→Option D
  | .lst ds,[.int i,d] => if ds.length < sizeLine∧-(2 ^ 63)≤i∧i < 2 ^ 63 then some (.lst (insL ds i d)) else none
  | _,_ => none
theorem zpK {α β : Type} {F : α→β→Prop} {l : List α} {r : List β} {x : α} {y : β} (h : Paired F l r) (i : Int) (hxy : F x y) : Paired F (insL l i x) (insL r i y) := by
  unfold insL
  rw [Paired.length h]
  exact Paired.app (Paired.tk _ h) (.cons hxy (Paired.dr _ h))
theorem zpJ {K : PySem.W.Frag} : MutD K zjE insD := by
  intro G H a d vs ds d' Q gk ow rs e q
  unfold insD at e
  split at e
  · split at e
    · rename_i hl
      cases e
      cases ow.ob with
      | lst r s =>
        cases rs with
        | cons r1 t =>
          cases t with
          | cons r2 t =>
            cases t
            have := Paired.length s
            exact ⟨a,_,_,_,rfl,by rw [r1.int gk],r,hl.2.1,hl.2.2,by omega,q _ (.lst zam (zpK s _ r2))⟩
    · cases e
  · cases e
end
noncomputable def zaS : D→Bool
  | .non => true
  | .bl _ => true
  | .int _ => true
  | .str _ => true
  | _ => false
noncomputable def toV : D→V
  | .non => .non
  | .bl b => .bl b
  | .int i => .int i
  | .str x => .str x
  | _ => .non
noncomputable def eqs (a b : D) : Bool := eqV (toV a) (toV b)
@[simp] theorem eqs_int (a b : Int) : eqs (.int a) (.int b) = (a == b) := rfl
@[simp] theorem eqs_str (a b : Str) : eqs (.str a) (.str b) = (a == b) := rfl
@[simp] theorem eqs_non_int (b : Int) : eqs .non (.int b) = false := rfl
@[simp] theorem eqs_int_non (b : Int) : eqs (.int b) .non = false := rfl
section
variable {K : PySem.W.Frag} {G : GH} {H : Hp} {v : V} {d : D}
theorem RB.flat (h : RB K G H v d) (gk : GOk K G H) (hf : zaS d = true) : v = toV d∧zdv v = true := by
  cases d with
  | non => rw [h.non gk]; exact ⟨rfl,rfl⟩
  | bl b => rw [h.bl gk]; exact ⟨rfl,rfl⟩
  | int i => rw [h.int gk]; exact ⟨rfl,rfl⟩
  | str x => rw [h.str gk]; exact ⟨rfl,rfl⟩
  | _ => cases hf
theorem zn1 : ∀ {xs : List V} {ds : List D},RGs K G xs ds→GOk K G H→ds.all zaS = true→xs = ds.map toV∧xs.all zdv = true
  | _,_,.nil,_,_ => ⟨rfl,rfl⟩
  | _,_,.cons r t,gk,hf => by
    rw [List.all_cons,Bool.and_eq_true] at hf
    obtain ⟨e1,e2⟩ := RB.flat (H := H) r.rb gk hf.1
    obtain ⟨e3,e4⟩ := zn1 t gk hf.2
    exact ⟨by rw [List.map_cons,← e3,← e1],by rw [List.all_cons,e2,e4]; rfl⟩
end
noncomputable def keyD : D→Option Key
  | .int i => some (.inl i)
  | .str x => some (.inr x)
  | _ => none
noncomputable def hasK (kvs : List (Key × D)) (k : Key) : Bool := kvs.any fun kv => decide (kv.1 = k)
noncomputable def getK (kvs : List (Key × D)) (k : Key) : Option D := (kvs.find? fun kv => decide (kv.1 = k)).map (·.2)
noncomputable def inB (x c : D) : Option Bool := match c with
  | .lst ds => if zaS x = true∧ds.all zaS = true then some (ds.any fun y => eqs y x) else none
  | .tup ds => if zaS x = true∧ds.all zaS = true then some (ds.any fun y => eqs y x) else none
  | .dic kvs => (keyD x).map (hasK kvs)
  | .str y => match x with
    | .str z => some (!(Builtin.Str.occurrences y z 0 y.length 1).isEmpty)
    | _ => none
  | _ => none
noncomputable def inD (x c : D) : Option D := (inB x c).map .bl
noncomputable def ninD (x c : D) : Option D := (inB x c).map fun b => .bl (!b)
theorem zkD {K : PySem.W.Frag} {G : GH} {k : Key} : ∀ {ps : List (Key × V)} {kvs : List (Key × D)},RKs K G ps kvs→∀ d,getK kvs k = some d→∃ v,valV ps k = some v∧RG K G v d
  | _,_,.nil,d,e => by cases e
  | (k1,v1)::ps,(k2,d2)::kvs,.cons ⟨e1,r1⟩ t,d,e => by
    have e1' : k1 = k2 := e1
    subst e1'
    by_cases hk : k1 = k
    · subst hk
      have : d2 = d := by simpa [getK,List.find?_cons] using e
      subst this
      exact ⟨v1,zeZ rfl,r1⟩
    · have e' : getK kvs k = some d := by simpa [getK,List.find?_cons,hk] using e
      obtain ⟨v,h1,h2⟩ := zkD t d e'
      exact ⟨v,by rw [zeb hk]; exact h1,h2⟩
theorem zhh {K : PySem.W.Frag} {G : GH} {k : Key} : ∀ {ps : List (Key × V)} {kvs : List (Key × D)},RKs K G ps kvs→getK kvs k = none→valV ps k = none
  | _,_,.nil,e => rfl
  | (k1,v1)::ps,(k2,d2)::kvs,.cons ⟨e1,r1⟩ t,e => by
    have e1' : k1 = k2 := e1
    subst e1'
    by_cases hk : k1 = k
    · subst hk; simp [getK,List.find?_cons] at e
    · have e' : getK kvs k = none := by simpa [getK,List.find?_cons,hk] using e
      rw [zeb hk]; exact zhh t e'
theorem zpO (kvs : List (Key × D)) (k : Key) : hasK kvs k = (getK kvs k).isSome := by
  induction kvs with
  | nil => rfl
  | cons p r ih =>
    by_cases e : p.1 = k
    · simp [hasK,getK,List.find?_cons,e]
    · have h1 : hasK (p::r) k = hasK r k := by simp [hasK,e]
      have h2 : getK (p::r) k = getK r k := by simp [getK,List.find?_cons,e]
      rw [h1,h2,ih]
theorem zkl {K : PySem.W.Frag} {G : GH} {H : Hp} {v : V} {d : D} {k : Key} (gk : GOk K G H) (h : RB K G H v d) (e : keyD d = some k) : v = kV k := by
  cases d with
  | int i => cases e; exact h.int gk
  | str x => cases e; exact h.str gk
  | _ => cases e
section
variable {X : Cx} {g : GE} {m mb : List Md} {e a b o c : Expr} {f fa fb fc : FE} {pos pos' : Pos}
noncomputable def rInD (neg : Bool) : R2 := fun y x H Q => ∃ a o,x = .ref a∧DGet H a y o∧Q (.bl (if neg then !o.isSome else o.isSome)) H
theorem zpd (hu : X.A.units + 1 < cLine) : OpR X (compareOp .In) (rInD false) := by
  intro pins s σ H y x u v Q I ry rx h
  obtain ⟨a,oo,rfl,hg,q⟩ := h
  cases rx
  exact d_in hu I hg ry fun s' I' => ⟨.bl _,H,I',rfl,q⟩
theorem zny (hu : X.A.units + 1 < cLine) : OpR X (compareOp .NotIn) (rInD true) := by
  intro pins s σ H y x u v Q I ry rx h
  obtain ⟨a,oo,rfl,hg,q⟩ := h
  cases rx
  exact zn7 hu I hg ry fun s' I' => ⟨.bl _,H,I',rfl,q⟩
noncomputable def rInA (K : PySem.W.Frag) (neg : Bool) : R2 := fun x y H Q => rIn K neg x y H Q∨rInD neg x y H Q∨∃ i j,x = .str i∧y = .str j∧Q (.bl (if neg then !(!(Builtin.Str.occurrences j i 0 j.length 1).isEmpty) else !(Builtin.Str.occurrences j i 0 j.length 1).isEmpty)) H
theorem zpe (hu : X.A.units + 1 < cLine) : OpR X (compareOp .In) (rInA X.K false) := OpR.or zjS (OpR.or (zpd hu) zjR)
theorem znz (hu : X.A.units + 1 < cLine) : OpR X (compareOp .NotIn) (rInA X.K true) := OpR.or zg0 (OpR.or (zny hu) zgZ)
theorem zkx {K : PySem.W.Frag} (neg : Bool) : OpD K (rInA K neg) (fun x c => (inB x c).map fun b => .bl (if neg then !b else b)) := by
  intro G H v1 v2 d1 d2 d Q gk r1 r2 e q
  have seq : ∀ {xs : List V} {ds : List D} {p : Addr},RGs K G xs ds→v2 = .ref p→(SqL K H p xs∨SqT K H p xs)→zaS d1 = true→ds.all zaS = true→d = .bl (if neg then !(ds.any fun y => eqs y d1) else ds.any fun y => eqs y d1)→rInA K neg v1 v2 H Q := fun {xs ds p} rs e2 hs hf hfs ed => by
    obtain ⟨e1,f1⟩ := RB.flat r1 gk hf
    obtain ⟨e3,f3⟩ := zn1 rs gk hfs
    refine .inl ⟨p,xs,e2,hs,f1,f3,q _ G H (Grow.refl gk) ?_⟩
    have : inV v1 xs = ds.any fun y => eqs y d1 := by
      unfold inV
      rw [e3,List.any_map,e1]
      rfl
    rw [this,ed]
    exact .scl (.bl _)
  cases d2 with
  | lst ds =>
    by_cases hc : zaS d1 = true∧ds.all zaS = true
    · simp only [inB,if_pos hc,Option.map_some] at e
      obtain ⟨p,xs,e2,hs,rs⟩ := r2.lst gk
      exact seq rs e2 (.inl hs) hc.1 hc.2 (Option.some.inj e).symm
    · simp only [inB,if_neg hc,Option.map_none] at e
      cases e
  | tup ds =>
    by_cases hc : zaS d1 = true∧ds.all zaS = true
    · simp only [inB,if_pos hc,Option.map_some] at e
      obtain ⟨p,xs,e2,hs,rs⟩ := r2.tup gk
      exact seq rs e2 (.inr hs) hc.1 hc.2 (Option.some.inj e).symm
    · simp only [inB,if_neg hc,Option.map_none] at e
      cases e
  | dic kvs =>
    simp only [inB] at e
    cases ek : keyD d1 with
    | none => rw [ek] at e; cases e
    | some k =>
      rw [ek] at e
      cases e
      obtain ⟨p,ps,rfl,hs,rs⟩ := r2.dic gk
      refine .inr (.inl ⟨p,valV ps k,rfl,by rw [zkl gk r1 ek]; exact .inl ⟨ps,k,hs,rfl,rfl⟩,q _ G H (Grow.refl gk) ?_⟩)
      have : (valV ps k).isSome = hasK kvs k := by
        rw [zpO]
        cases eg : getK kvs k with
        | none => rw [zhh rs eg]; rfl
        | some d => obtain ⟨v,h1,_⟩ := zkD rs d eg; rw [h1]; rfl
      rw [this]
      exact .scl (.bl _)
  | str y =>
    cases d1 with
    | str z => cases e; exact .inr (.inr ⟨z,y,r1.str gk,r2.str gk,q _ G H (Grow.refl gk) (.scl (.bl _))⟩)
    | _ => cases e
  | _ => cases e
theorem zqU {K : PySem.W.Frag} : OpD K (rInA K false) inD := by
  have h := zkx (K := K) false
  have e : (fun x c => (inB x c).map fun b => D.bl (if false = true then !b else b)) = inD := by
    funext x c; unfold inD; cases inB x c <;> rfl
  rw [e] at h; exact h
theorem zpk {K : PySem.W.Frag} : OpD K (rInA K true) ninD := by
  have h := zkx (K := K) true
  have e : (fun x c => (inB x c).map fun b => D.bl (if true = true then !b else b)) = ninD := by
    funext x c; unfold ninD; cases inB x c <;> rfl
  rw [e] at h; exact h
theorem q_in (hu : X.A.units + 1 < cLine) (ha : SB X g m a fa) (hb : SB X g m b fb) (hm : behindInMarks .In b = false := by rfl) : SQ X g m (.Compare a [.In] [b] pos) (zax (f2 fa fb inD)) := zgW (zpe hu) zqU ha hb hm
theorem zlF (hu : X.A.units + 1 < cLine) (ha : SB X g m a fa) (hb : SB X g m b fb) (hm : behindInMarks .NotIn b = false := by rfl) : SQ X g m (.Compare a [.NotIn] [b] pos) (zax (f2 fa fb ninD)) := zgW (znz hu) zpk ha hb hm
noncomputable def isD : D→D→Option D
  | .non,.non => some (.bl true)
  | _,.non => some (.bl false)
  | _,_ => none
noncomputable def isnD : D→D→Option D
  | .non,.non => some (.bl false)
  | _,.non => some (.bl true)
  | _,_ => none
theorem RB.isnon {K : PySem.W.Frag} {G : GH} {H : Hp} {v : V} {d : D} (gk : GOk K G H) (h : RB K G H v d) : (v = .non↔d = .non) := by
  constructor
  · intro e
    subst e
    rcases h with h | ⟨a,e,_⟩
    · cases h with
      | scl s => cases s; rfl
    · cases e
  · intro e
    subst e
    exact h.non gk
theorem zpI {K : PySem.W.Frag} : OpD K (fun x y H Q => y = .non∧Q (.bl (decide (x = .non))) H) isD := by
  intro G H v1 v2 d1 d2 d Q gk r1 r2 e q
  have hn := r1.isnon gk
  cases d2 with
  | non =>
    refine ⟨r2.non gk,q _ G H (Grow.refl gk) ?_⟩
    cases d1 with
    | non => cases e; rw [decide_eq_true (hn.mpr rfl)]; exact .scl (.bl _)
    | _ => cases e; rw [decide_eq_false (fun z => by have := hn.mp z; cases this)]; exact .scl (.bl _)
  | _ => cases d1 <;> cases e
theorem zpH {K : PySem.W.Frag} : OpD K (fun x y H Q => y = .non∧Q (.bl (!decide (x = .non))) H) isnD := by
  intro G H v1 v2 d1 d2 d Q gk r1 r2 e q
  have hn := r1.isnon gk
  cases d2 with
  | non =>
    refine ⟨r2.non gk,q _ G H (Grow.refl gk) ?_⟩
    cases d1 with
    | non => cases e; rw [decide_eq_true (hn.mpr rfl)]; exact .scl (.bl _)
    | _ => cases e; rw [decide_eq_false (fun z => by have := hn.mp z; cases this)]; exact .scl (.bl _)
  | _ => cases d1 <;> cases e
theorem s_is (ha : SB X g m a fa) (hb : SB X g m b fb) : SE X g m (.Compare a [.Is] [b] pos) (f2 fa fb isD) := zjy zmF zpI ha hb (zdY _)
theorem q_is (ha : SB X g m a fa) (hb : SB X g m b fb) : SQ X g m (.Compare a [.Is] [b] pos) (zax (f2 fa fb isD)) := zgW zmF zpI ha hb (zdY _)
theorem zqA (ha : SB X g m a fa) (hb : SB X g m b fb) : SQ X g m (.Compare a [.IsNot] [b] pos) (zax (f2 fa fb isnD)) := zgW znx zpH ha hb (zdY _)
end
end DL
end
section
namespace DL
open PySem PySem.Spec PyProof.Rows L2
section
variable {X : Cx} {g : GE} {m mb : List Md} {e a b o c : Expr} {f fa fb fc : FE} {pos pos' p1 p2 : Pos} {ro : Bool} {x : Str}
noncomputable def rIxD : R2 := fun x y H Q => ∃ a v,x = .ref a∧DGet H a y (some v)∧Q v H
theorem zpF (hu : X.A.units + 1 < cLine) : IxR X rIxD := by
  intro value slice pins s σ H x y v u Q I rx ry h hs
  obtain ⟨a,w,rfl,hg,q⟩ := h
  cases rx
  exact tail_any (zhY I hg) PySem.F.slot_dict_getitem.lookup (zkR hu I hg ry fun w' s' I' rw' => ⟨w,H,I',rw',q⟩) hs
noncomputable def ixA : D→D→Option D
  | .dic kvs,k => (keyD k).bind (getK kvs)
  | c,k => ixD c k
theorem zpG {K : PySem.W.Frag} : OpD K (fun x y H Q => rIxD x y H Q∨rIx K x y H Q) ixA := by
  intro G H v1 v2 d1 d2 d Q gk r1 r2 e q
  cases d1 with
  | dic kvs =>
    obtain ⟨a,ps,rfl,hs,rs⟩ := r1.dic gk
    have e' : (keyD d2).bind (getK kvs) = some d := e
    cases ek : keyD d2 with
    | none => rw [ek] at e'; cases e'
    | some k =>
      rw [ek] at e'
      obtain ⟨v,h1,h2⟩ := zkD rs d e'
      refine .inl ⟨a,v,rfl,?_,q v G H (Grow.refl gk) h2⟩
      rw [zkl gk r2 ek,← h1]
      exact .inl ⟨ps,k,hs,rfl,rfl⟩
  | lst ds => exact .inr (znT G H v1 v2 _ d2 d Q gk r1 r2 e q)
  | tup ds => exact .inr (znT G H v1 v2 _ d2 d Q gk r1 r2 e q)
  | str ds => exact .inr (znT G H v1 v2 _ d2 d Q gk r1 r2 e q)
  | _ => cases e
theorem zaD (hu : X.A.units + 1 < cLine) (ha : SB X g m a fa) (hb : SB X g m b fb) (hs : zle b := by intro _ _; rfl) : SE X g m (.Subscript a b pos) (f2 fa fb ixA) := znd zpG (zqG (IxR.or (zpF hu) zpE) ha hb hs)
theorem zpi : SO X g m (.Dict [] [] pos) fun _ => .ok (.dic []) :=
  PE.imp zlP fun σ H Q ⟨r,G,si,q⟩ p hp => q p G _ (Grow.new si.gok hp _) hp ⟨si.gok.isN hp,.dic zam .nil⟩
noncomputable def putD (kvs : List (Key × D)) (k : Key) (d : D) : List (Key × D) := if (kvs.any fun kv => decide (kv.1 = k)) = true then kvs.map fun kv => if kv.1 = k then (kv.1,d) else kv else kvs++[(k,d)]
theorem ziK {K : PySem.W.Frag} {G : GH} {k : Key} : ∀ {ps : List (Key × V)} {kvs : List (Key × D)},RKs K G ps kvs→(ps.any fun kv => decide (kv.1 = k)) = kvs.any fun kv => decide (kv.1 = k)
  | _,_,.nil => rfl
  | _,_,.cons r t => by rw [List.any_cons,List.any_cons,ziK t,r.1]
theorem zqC {K : PySem.W.Frag} {G : GH} {ps : List (Key × V)} {kvs : List (Key × D)} {k : Key} {v : V} {d : D} (r : RKs K G ps kvs) (h : RG K G v d) : RKs K G (putK ps k v) (putD kvs k d) := by
  unfold putK putD
  rw [ziK r]
  by_cases hc : (kvs.any fun kv => decide (kv.1 = k)) = true
  · rw [if_pos hc,if_pos hc]
    clear hc
    induction r with
    | nil => exact .nil
    | @cons p q ps kvs r t ih =>
      refine .cons ?_ ih
      obtain ⟨p1,p2⟩ := p
      obtain ⟨q1,q2⟩ := q
      have e : p1 = q1 := r.1
      subst e
      by_cases hk : p1 = k
      · simp only [hk,if_true,true_and]; exact h
      · simp only [hk,if_false,true_and]; exact r.2
  · rw [if_neg hc,if_neg hc]
    exact Paired.snoc r ⟨rfl,h⟩
noncomputable def stoD : D→D→D→Option D
  | .lst ds,.int k,v => (ixN ds.length k).map fun j => .lst (ds.set j v)
  | .dic kvs,k,v => (keyD k).bind fun k => if kvs.length < sizeLine then some (.dic (putD kvs k v)) else none
  | _,_,_ => none
noncomputable def zoM : V→V→V→Hp→(Hp→Prop)→Prop := fun o i v H Q => ∃ p H',o = .ref p∧DPut H p i v H'∧Q H'
theorem zm8 (hu : X.A.units + 1 < cLine) : PSet X zoM := by
  intro pins s σ H o i v ov iv u Q I ro ri rv h
  obtain ⟨p,H',rfl,hp,q⟩ := h
  cases ro
  exact zkQ hu I hp ri rv fun s' I' => ⟨H',I',q⟩
theorem PSet.or {t t' : TSet} (h : PSet X t) (h' : PSet X t') : PSet X (fun o i v H Q => t o i v H Q∨t' o i v H Q) := by
  intro pins s σ H o i v ov iv u Q I ro ri rv q
  rcases q with q | q
  · exact h pins s σ H o i v ov iv u Q I ro ri rv q
  · exact h' pins s σ H o i v ov iv u Q I ro ri rv q
theorem zow {K : PySem.W.Frag} {G : GH} {H : Hp} {a : Addr} {d k v d' : D} {kv vv : V} {Q : Hp→Prop} (gk : GOk K G H) (ow : Own K G H a d) (rk : RB K G H kv k) (rv : RG K G vv v) (e : stoD d k v = some d') (q : ∀ o',OwnO K G (upd H a o') a d'→Q (upd H a o')) :
    zoL (.ref a) kv vv H Q∨zoM (.ref a) kv vv H Q := by
  cases ow.ob with
  | @lst xs ds r s =>
    cases k with
    | int k =>
      have e' : (ixN ds.length k).map (fun j => D.lst (ds.set j v)) = some d' := e
      cases ej : ixN ds.length k with
      | none => rw [ej] at e'; cases e'
      | some j =>
        rw [ej] at e'
        cases e'
        exact .inl ⟨a,xs,k,j,rfl,rk.int gk,r,by rw [Paired.length s]; exact ej,q _ (.lst zam (Paired.st rv j s))⟩
    | _ => cases e
  | @dic ps kvs r s =>
    have e' : (keyD k).bind (fun k => if kvs.length < sizeLine then some (D.dic (putD kvs k v)) else none) = some d' := e
    cases ek : keyD k with
    | none => rw [ek] at e'; cases e'
    | some k' =>
      rw [ek] at e'
      have e2 : (if kvs.length < sizeLine then some (D.dic (putD kvs k' v)) else none) = some d' := e'
      by_cases hl : kvs.length < sizeLine
      · rw [if_pos hl] at e2
        cases e2
        have := Paired.length s
        refine .inr ⟨a,_,rfl,?_,q _ (.dic zam (zqC s rv))⟩
        rw [zkl gk rk ek]
        exact DPut.k r (by omega)
      · rw [if_neg hl] at e2; cases e2
noncomputable def putF (m : List Md) (i : Nat) (fk fv : FE) : FS := fun r => onE m r (fv r) fun v => match r[i]? with
  | some (some d) => onE m r (fk r) fun k => (match stoD d k v with
    | some d' => .nx (r.set i (some d'))
    | none => .stuck)
  | _ => .stuck
theorem zlv (i : Nat) (hu : X.A.units + 1 < cLine) (hm : m[i]? = some .ow) (hN : X.N[i]? = some x) (hv : Vis X.env.scope x) (hk : SB X g m b fb) (he : SE X g m e f)
    (hd : (x == ("__debug__" : Str)) = false := by decide) (hcd : (x == ("__classdict__" : Str)) = false := by decide)
    (ha : ∀ v,assign (.Subscript (.Name x p1) b p2) X.env v = (do
      let ov ← holding [v] (eval (.Name x p1) X.env)
      let iv ← holding [v,ov] (eval b X.env)
      standAt p2
      holding [v,ov,iv] (setItem ov iv v)
      release [v,ov,iv] []) := by intro _; rfl)
    (hs : swapsWithSole [.Subscript (.Name x p1) b p2] e pos.line X.env = pure false := by rfl) (hw : swappedStores [.Subscript (.Name x p1) b p2] e X.env = pure none := by rfl)
    (h1 : (assignEach [.Subscript (.Name x p1) b p2] X.env).map (·.2) = [assign (.Subscript (.Name x p1) b p2) X.env] := by rfl) :
    SS X g ro mb m (.Assign [.Subscript (.Name x p1) b p2] e pos) (putF m i fb f) m := by
  refine ⟨rfl,PS.imp (zoU he (zoX (zgY hN hv hd hcd) hk (PSet.or zlt (zm8 hu)) ha) hs hw h1) fun D0 σ H ⟨r,G,si,k⟩ => ⟨r,G,si,?_⟩⟩
  refine zah (zcb si rfl k) fun v k1 vv G1 H1 w1 rv => ?_
  cases er : r[i]? with
  | none => simp only [er] at k1; exact (show False from k1).elim
  | some oo =>
    cases oo with
    | none => simp only [er] at k1; exact (show False from k1).elim
    | some d =>
      simp only [er] at k1
      obtain ⟨a,h1,h2,h3⟩ := (si.grow w1).mut hm er
      refine ⟨_,h1,r,G1,si.grow w1,?_⟩
      refine zah (zcb (m := m) (si.grow w1) rfl (oTo.gle k1 w1.ge)) fun kk k2 kv G2 H2 w2 rk => ?_
      cases es : stoD d kk v with
      | none => simp only [es] at k2; exact (show False from k2).elim
      | some d' =>
        simp only [es] at k2
        obtain ⟨a',h1',h2',h3'⟩ := ((si.grow w1).grow w2).mut hm er
        rw [h1] at h1'; cases h1'
        exact zow w2.ok h2' rk (rv.mono w2.ge) es fun o' ob => k2 σ G2 _ w2.ge (h3' o' d' ob)
end
mutual
noncomputable def toPy : D→PyData
  | .non => .none
  | .bl b => .bool b
  | .int i => .int i
  | .str x => .str x
  | .tup ds => .tuple (zcR ds)
  | .lst ds => .list (zcR ds)
  | .dic _ => .none
  | .obj _ _ => .none
noncomputable def zcR : List D→List PyData
  | [] => []
  | d::ds => toPy d::zcR ds
end
noncomputable def Shp : Nat→D→Prop
  | _,.non => True
  | _,.bl _ => True
  | _,.int _ => True
  | _,.str x => PyData.strOk x = true
  | 0,.tup _ => False
  | 0,.lst _ => False
  | k + 1,.tup ds => ∀ d∈ds,Shp k d
  | k + 1,.lst ds => ∀ d∈ds,Shp k d
  | _,.dic _ => False
  | _,.obj _ _ => False
theorem zd1 {k : Nat} {ds : List D} : Shp (k + 1) (.lst ds)↔∀ d∈ds,Shp k d := by simp only [Shp]
theorem zfb {k : Nat} {ds : List D} : Shp (k + 1) (.tup ds)↔∀ d∈ds,Shp k d := by simp only [Shp]
noncomputable def eqb (a b : D) : Bool := PyData.eqv (toPy a) (toPy b)
section
variable {X : Cx} {pins : List (Addr × Obj)} {σ : L2.St} {H : Hp} {s : Shared} {G : GH}
theorem zfe {k : Nat} (ih : ∀ (d : D) (v : V) (u : Value),Shp k d→RG X.K G v d→L2.RelV v u→∃ as,Reads s.heap u (toPy d) as) : ∀ (ds : List D) (vs : List V) (us : List Value),(∀ d∈ds,Shp k d)→RGs X.K G vs ds→Vals vs us→∃ as,ReadsAll s.heap us (zcR ds) as
  | [],_,_,_,.nil,.nil => ⟨[],.nil⟩
  | d::ds,_,_,h,.cons r t,.cons r' t' => by
    obtain ⟨a1,h1⟩ := ih d _ _ (h d List.mem_cons_self) r r'
    obtain ⟨a2,h2⟩ := zfe ih ds _ _ (fun x hx => h x (List.mem_cons_of_mem _ hx)) t t'
    exact ⟨a1++a2,.cons h1 h2⟩
theorem zdH (I : Inv X pins σ H s) (gk : GOk X.K G H) : ∀ (k : Nat) (d : D) (v : V) (u : Value),Shp k d→RB X.K G H v d→L2.RelV v u→∃ as,Reads s.heap u (toPy d) as := by
  intro k
  induction k with
  | zero =>
    intro d v u hs r ru
    cases d with
    | non => rw [r.non gk] at ru; cases ru; exact ⟨_,.none⟩
    | bl b => rw [r.bl gk] at ru; cases ru; exact ⟨_,.bool b⟩
    | int i => rw [r.int gk] at ru; obtain ⟨t,rfl⟩ := ru; exact ⟨_,.int i t⟩
    | str x => rw [r.str gk] at ru; obtain ⟨t,rfl⟩ := ru; exact ⟨_,.str x t⟩
    | tup _ => unfold Shp at hs; exact hs.elim
    | lst _ => unfold Shp at hs; exact hs.elim
    | dic _ => unfold Shp at hs; exact hs.elim
    | obj _ _ => unfold Shp at hs; exact hs.elim
  | succ k ih =>
    intro d v u hs r ru
    cases d with
    | non => rw [r.non gk] at ru; cases ru; exact ⟨_,.none⟩
    | bl b => rw [r.bl gk] at ru; cases ru; exact ⟨_,.bool b⟩
    | int i => rw [r.int gk] at ru; obtain ⟨t,rfl⟩ := ru; exact ⟨_,.int i t⟩
    | str x => rw [r.str gk] at ru; obtain ⟨t,rfl⟩ := ru; exact ⟨_,.str x t⟩
    | tup ds =>
      obtain ⟨a,xs,rfl,sq,rs⟩ := r.tup gk
      cases ru
      obtain ⟨its,rv,pl,_⟩ := I.tuple sq
      obtain ⟨o,ho,hc,n,hd⟩ := pl
      obtain ⟨as,h⟩ := zfe (k := k) (fun d v u h1 h2 h3 => ih d v u h1 h2.rb h3) ds xs its (zfb.mp hs) rs rv
      refine ⟨as,?_⟩
      unfold toPy
      exact .tuple ho hc hd (by simpa using h)
    | lst ds =>
      obtain ⟨a,xs,rfl,sq,rs⟩ := r.lst gk
      cases ru
      obtain ⟨its,rv,pl,_⟩ := I.list sq
      obtain ⟨o,ho,hc,n,hd⟩ := pl.isList
      obtain ⟨as,h⟩ := zfe (k := k) (fun d v u h1 h2 h3 => ih d v u h1 h2.rb h3) ds xs its (zd1.mp hs) rs rv
      refine ⟨a::as,?_⟩
      unfold toPy
      exact .list ho hc hd (by simpa using h)
    | dic _ => unfold Shp at hs; exact hs.elim
    | obj _ _ => unfold Shp at hs; exact hs.elim
theorem zf7 {k : Nat} (ih : ∀ d,Shp k d→PyData.canLay0 (toPy d) = true∧PyData.depth (toPy d)≤k) : ∀ ds : List D,(∀ d∈ds,Shp k d)→PyData.canLayAll0 (zcR ds) = true∧PyData.depthAll (zcR ds)≤k
  | [],_ => by unfold zcR PyData.canLayAll0 PyData.depthAll; exact ⟨rfl,Nat.zero_le _⟩
  | d::ds,h => by
    obtain ⟨a1,a2⟩ := ih d (h d List.mem_cons_self)
    obtain ⟨b1,b2⟩ := zf7 ih ds fun x hx => h x (List.mem_cons_of_mem _ hx)
    unfold zcR PyData.canLayAll0 PyData.depthAll
    rw [a1,b1]
    exact ⟨rfl,Nat.max_le.mpr ⟨a2,b2⟩⟩
theorem zju : ∀ (k : Nat) (d : D),Shp k d→PyData.canLay0 (toPy d) = true∧PyData.depth (toPy d)≤k := by
  intro k
  induction k with
  | zero =>
    intro d hs
    cases d with
    | non => unfold toPy PyData.canLay0 PyData.depth; exact ⟨rfl,Nat.zero_le _⟩
    | bl b => unfold toPy PyData.canLay0 PyData.depth; exact ⟨rfl,Nat.zero_le _⟩
    | int i => unfold toPy PyData.canLay0 PyData.depth; exact ⟨rfl,Nat.zero_le _⟩
    | str x => unfold Shp at hs; unfold toPy PyData.canLay0 PyData.depth; exact ⟨hs,Nat.zero_le _⟩
    | tup _ => unfold Shp at hs; exact hs.elim
    | lst _ => unfold Shp at hs; exact hs.elim
    | dic _ => unfold Shp at hs; exact hs.elim
    | obj _ _ => unfold Shp at hs; exact hs.elim
  | succ k ih =>
    intro d hs
    cases d with
    | non => unfold toPy PyData.canLay0 PyData.depth; exact ⟨rfl,Nat.zero_le _⟩
    | bl b => unfold toPy PyData.canLay0 PyData.depth; exact ⟨rfl,Nat.zero_le _⟩
    | int i => unfold toPy PyData.canLay0 PyData.depth; exact ⟨rfl,Nat.zero_le _⟩
    | str x => unfold Shp at hs; unfold toPy PyData.canLay0 PyData.depth; exact ⟨hs,Nat.zero_le _⟩
    | tup ds =>
      obtain ⟨b1,b2⟩ := zf7 ih ds (zfb.mp hs)
      unfold toPy PyData.canLay0 PyData.depth
      exact ⟨b1,Nat.succ_le_succ b2⟩
    | lst ds =>
      obtain ⟨b1,b2⟩ := zf7 ih ds (zd1.mp hs)
      unfold toPy PyData.canLay0 PyData.depth
      exact ⟨b1,Nat.succ_le_succ b2⟩
    | dic _ => unfold Shp at hs; exact hs.elim
    | obj _ _ => unfold Shp at hs; exact hs.elim
theorem zef {d : D} (h : Shp 60 d) : SeqAt.shaped (toPy d) = true := by
  obtain ⟨a,b⟩ := zju 60 d h
  unfold SeqAt.shaped
  rw [a,decide_eq_true (Nat.le_trans b (by decide))]
  rfl
end
section
variable {X : Cx} {g : GE} {m mb : List Md} {e a b o c : Expr} {f fa fb fc : FE} {pos pos' : Pos}
noncomputable def ziT (a b : D) : Bool := zaS a && zaS b && scal (toV a) (toV b)
open Classical in
noncomputable def eqB (a b : D) : Option Bool := if ziT a b = true then some (eqs a b) else if Shp 60 a∧Shp 60 b then some (eqb a b) else none
noncomputable def eqD (a b : D) : Option D := (eqB a b).map .bl
noncomputable def neD (a b : D) : Option D := (eqB a b).map fun c => .bl (!c)
theorem zgp {a b : D} (h : ziT a b = false) (h1 : Shp 60 a) (h2 : Shp 60 b) : eqB a b = some (eqb a b) := by
  unfold eqB
  rw [if_neg (by rw [h]; exact Bool.false_ne_true),if_pos ⟨h1,h2⟩]
theorem zgo {a b : D} (h : ziT a b = true) : eqB a b = some (eqs a b) := by
  unfold eqB
  rw [if_pos h]
@[simp] theorem eqB_int (a b : Int) : eqB (.int a) (.int b) = some (a == b) := zgo rfl
@[simp] theorem eqB_str (a b : Str) : eqB (.str a) (.str b) = some (a == b) := zgo rfl
theorem zii {a b : D} (h : scal (toV a) (toV b) = true) (fa : zaS a = true) (fb : zaS b = true) : decide (toV a = toV b) = eqs a b := by
  cases a <;> cases b <;> first
    | exact absurd (show false = true from fa) Bool.false_ne_true
    | exact absurd (show false = true from fb) Bool.false_ne_true
    | exact absurd (show false = true from h) Bool.false_ne_true
    | exact zh0
    | exact zkO
    | exact zhZ
    | rfl
    | simp [toV,eqs,eqV]
noncomputable def zge (K : PySem.W.Frag) (neg : Bool) : R2 := fun x y H Q => ∃ (G : GH) (d1 d2 : D),GOk K G H∧RB K G H x d1∧RB K G H y d2∧Shp 60 d1∧Shp 60 d2∧Q (.bl (if neg then !eqb d1 d2 else eqb d1 d2)) H
theorem zg6 (hu : X.A.units + 64 < cLine) : OpR X (compareOp .Eq) (zge X.K false) := by
  intro pins s σ H x y v u Q I rx ry h
  obtain ⟨G,d1,d2,gk,r1,r2,s1,s2,q⟩ := h
  obtain ⟨as,h1⟩ := zdH I gk 60 d1 x v s1 r1 rx
  obtain ⟨bs,h2⟩ := zdH I gk 60 d2 y u s2 r2 ry
  exact SeqAt.compareEq_shaped h1 h2 (zef s1) (zef s2) hu ⟨.bl _,H,I,rfl,q⟩
theorem zg1 (hu : X.A.units + 64 < cLine) : OpR X (compareOp .NotEq) (zge X.K true) := by
  intro pins s σ H x y v u Q I rx ry h
  obtain ⟨G,d1,d2,gk,r1,r2,s1,s2,q⟩ := h
  obtain ⟨as,h1⟩ := zdH I gk 60 d1 x v s1 r1 rx
  obtain ⟨bs,h2⟩ := zdH I gk 60 d2 y u s2 r2 ry
  exact SeqAt.compareNe_shaped h1 h2 (zef s1) (zef s2) hu ⟨.bl _,H,I,rfl,q⟩
theorem eq_cases {a b : D} {c : Bool} (h : eqB a b = some c) : (ziT a b = true∧c = eqs a b)∨(Shp 60 a∧Shp 60 b∧c = eqb a b) := by
  unfold eqB at h
  split at h
  · rename_i hs; cases h; exact .inl ⟨hs,rfl⟩
  · split at h
    · rename_i hs; cases h; exact .inr ⟨hs.1,hs.2,rfl⟩
    · cases h
theorem zp0 {K : PySem.W.Frag} : OpD K (fun x y H Q => rEq x y H Q∨zge K false x y H Q) eqD := by
  intro G H v1 v2 d1 d2 d Q gk r1 r2 e q
  unfold eqD at e
  cases ec : eqB d1 d2 with
  | none => rw [ec] at e; cases e
  | some c =>
    rw [ec] at e
    cases e
    rcases eq_cases ec with ⟨hs,rfl⟩ | ⟨s1,s2,rfl⟩
    · unfold ziT at hs
      rw [Bool.and_eq_true,Bool.and_eq_true] at hs
      obtain ⟨e1,_⟩ := RB.flat r1 gk hs.1.1
      obtain ⟨e2,_⟩ := RB.flat r2 gk hs.1.2
      refine .inl ⟨by rw [e1,e2]; exact hs.2,?_⟩
      rw [e1,e2,zii hs.2 hs.1.1 hs.1.2]
      exact q _ G H (Grow.refl gk) (.scl (.bl _))
    · exact .inr ⟨G,d1,d2,gk,r1,r2,s1,s2,q _ G H (Grow.refl gk) (.scl (.bl _))⟩
theorem zpm {K : PySem.W.Frag} : OpD K (fun x y H Q => rNe x y H Q∨zge K true x y H Q) neD := by
  intro G H v1 v2 d1 d2 d Q gk r1 r2 e q
  unfold neD at e
  cases ec : eqB d1 d2 with
  | none => rw [ec] at e; cases e
  | some c =>
    rw [ec] at e
    cases e
    rcases eq_cases ec with ⟨hs,rfl⟩ | ⟨s1,s2,rfl⟩
    · unfold ziT at hs
      rw [Bool.and_eq_true,Bool.and_eq_true] at hs
      obtain ⟨e1,_⟩ := RB.flat r1 gk hs.1.1
      obtain ⟨e2,_⟩ := RB.flat r2 gk hs.1.2
      refine .inl ⟨by rw [e1,e2]; exact hs.2,?_⟩
      rw [e1,e2,zii hs.2 hs.1.1 hs.1.2]
      exact q _ G H (Grow.refl gk) (.scl (.bl _))
    · exact .inr ⟨G,d1,d2,gk,r1,r2,s1,s2,q _ G H (Grow.refl gk) (.scl (.bl _))⟩
theorem s_eq (hu : X.A.units + 64 < cLine) (ha : SB X g m a fa) (hb : SB X g m b fb) : SE X g m (.Compare a [.Eq] [b] pos) (f2 fa fb eqD) := zjy (OpR.or zpf (zg6 hu)) zp0 ha hb (zdY _)
theorem s_ne (hu : X.A.units + 64 < cLine) (ha : SB X g m a fa) (hb : SB X g m b fb) : SE X g m (.Compare a [.NotEq] [b] pos) (f2 fa fb neD) := zjy (OpR.or zo9 (zg1 hu)) zpm ha hb (zdY _)
theorem q_eq (hu : X.A.units + 64 < cLine) (ha : SB X g m a fa) (hb : SB X g m b fb) : SQ X g m (.Compare a [.Eq] [b] pos) (zax (f2 fa fb eqD)) := zgW (OpR.or zpf (zg6 hu)) zp0 ha hb (zdY _)
theorem q_ne (hu : X.A.units + 64 < cLine) (ha : SB X g m a fa) (hb : SB X g m b fb) : SQ X g m (.Compare a [.NotEq] [b] pos) (zax (f2 fa fb neD)) := zgW (OpR.or zo9 (zg1 hu)) zpm ha hb (zdY _)
noncomputable def zhj (fa fb fc : FE) (k k' : D→D→Option D) : FE := fun r => (fa r).bind fun x => (fb r).bind fun y => (opt (k x y)).bind fun z => (opt (asB z)).bind fun c => if c = true then (fc r).bind fun w => opt (k' y w) else .ok (.bl false)
noncomputable def zni (K : PySem.W.Frag) : R2 := fun x y H Q => ∃ l b xs zs,x = .ref l∧y = .ref b∧SqL K H l xs∧SqL K H b zs∧xs.length + zs.length≤sizeLine∧∀ p,H p = none→Q (.ref p) (upd H p (.lst (xs++zs)))
theorem zjU : OpR X (binaryOp .Add) (zni X.K) := by
  intro pins s σ H x y v u Q I rx ry h
  obtain ⟨l,b,xs,zs,rfl,rfl,hH,hB,hz,q⟩ := h
  cases rx
  cases ry
  obtain ⟨its,r,pl,_⟩ := I.list hH
  obtain ⟨its2,r2,pl2,_⟩ := I.list hB
  have l1 := r.length
  have l2 := r2.length
  obtain ⟨⟨cls,dd,data,sl⟩,ho,hc,n,hd⟩ := pl.isList
  obtain ⟨⟨cls2,dd2,data2,sl2⟩,ho2,hc2,n2,hd2⟩ := pl2.isList
  simp only at hc hd hc2 hd2
  subst hc hd hc2 hd2
  have e : its.toArray++its2.toArray = (its++its2).toArray := by simp
  refine concat_meets ⟨_,ho,rfl⟩ ⟨_,ho2,rfl⟩ noFill_list_add seq_list_add PySem.F.slot_list_add PySem.F.entry_list_add (PySem.F.args_list_add_2 _ _) (list_addW _ _ its.toArray its2.toArray n n2 dd dd2 sl sl2 (by simp; omega)) ⟨ho,ho2,?_⟩
  rw [e]
  exact ⟨.ref _,_,I.lnew (t' := s.toks) (r.append r2) (by rw [List.length_append]; omega),rfl,q _ I.fresh⟩
noncomputable def addA : D→D→Option D
  | .int a,.int b => some (.int (a + b))
  | .str a,.str b => if a.length + b.length≤sizeLine then some (.str (a++b)) else none
  | .lst a,.lst b => if a.length + b.length≤sizeLine then some (.lst (a++b)) else none
  | .tup (x::a),.tup b => if (x::a).length + b.length≤sizeLine then some (.tup (x::a++b)) else none
  | _,_ => none
theorem zlb {K : PySem.W.Frag} : OpD K (fun x y H Q => (∃ i j,x = .int i∧y = .int j∧Q (.int (i + j)) H)∨(∃ i j,x = .str i∧y = .str j∧i.length + j.length≤sizeLine∧Q (.str (i++j)) H)∨zni K x y H Q∨znh K x y H Q) addA := by
  intro G H v1 v2 d1 d2 d Q gk r1 r2 e q
  unfold addA at e
  split at e
  · cases e
    exact .inl ⟨_,_,r1.int gk,r2.int gk,q _ G H (Grow.refl gk) (.scl (.int _))⟩
  · split at e
    · rename_i hl
      cases e
      exact .inr (.inl ⟨_,_,r1.str gk,r2.str gk,hl,q _ G H (Grow.refl gk) (.scl (.str _))⟩)
    · cases e
  · split at e
    · rename_i hl
      cases e
      obtain ⟨a,xs,rfl,s1,t1⟩ := r1.lst gk
      obtain ⟨b,ys,rfl,s2,t2⟩ := r2.lst gk
      have l1 := Paired.length t1
      have l2 := Paired.length t2
      exact .inr (.inr (.inl ⟨a,b,xs,ys,rfl,rfl,s1,s2,by omega,fun p hp => q _ _ _ (Grow.newF gk hp (.lst (.inl zam) (Paired.app t1 t2))) (.ref za9)⟩))
    · cases e
  · split at e
    · rename_i x0 a0 b0 hl
      cases e
      rcases r1 with r1 | ⟨a',_,oo⟩
      · obtain ⟨a,xs,rfl,s1,t1⟩ := r1.tup gk
        obtain ⟨b,ys,rfl,s2,t2⟩ := r2.tup gk
        have l1 := Paired.length t1
        have l2 := Paired.length t2
        refine .inr (.inr (.inr ⟨a,b,xs,ys,rfl,rfl,s1,s2,?_,by omega,fun hy => ?_,fun _ p hp => q _ _ _ (Grow.newF gk hp (.tup (.inl zam) (Paired.app t1 t2))) (.ref za9)⟩))
        · rintro rfl
          cases t1
        · subst hy
          cases t2
          refine q _ G H (Grow.refl gk) ?_
          rw [List.append_nil]
          exact r1
      · cases oo.ob
    · cases e
  · cases e
theorem zdq (ha : SB X g m a fa) (hb : SB X g m b fb) : SE X g m (.BinOp a .Add b pos) (f2 fa fb addA) := zhI (OpR.or zmG (OpR.or zfR (OpR.or zjU zjT))) zlb ha hb
end
end DL
end
section
namespace DL
open PySem PySem.Spec PyProof.Rows L2
structure DefAt (K : PySem.W.Frag) (mg : Str→Option Value) (x : Str) (st : Stmt) : Prop where
  ex : ∃ f fd,mg x = some (.ref f)∧Fun K x x st f fd
structure Callee (P : Program) (w : World) (K : PySem.W.Frag) (mg : Str→Option Value) (base : Heap) (x : Str) (ps : List Str) (ds : List Value) (k : Nat) (ro : Bool) (ms : List Md) (F : List D→Res D) : Prop where
  ex : ∃ f fd,mg x = some (.ref f)∧PySem.W.keepIn K (.ref f) = true∧zh6 K fd ps ds∧FnOk P w K mg base CX0 k f fd ps (spM K ro ms F)
section
variable {P : Program} {w : World} {K : PySem.W.Frag} {mg : Str → Option Value} {base : Heap}
theorem zaM {x : Str} {st : Stmt} {N ps : List Str} {k : Nat} {ro : Bool} {ms : List Md} {fs : FS} {m' : List Md} (A : DefAt K mg x st) (S : FnScope N ps (zac st)) (hms : ms.length = ps.length)
    (hb : ∀ (kV doc pm : Value) (an : Option Addr) (cdv ct : Value) (us : List Value),us.length = ps.length→bindArgs (PySem.W.fnOf x x (zdB st) (zcw st) (zac st) .none kV doc pm an cdv ct) ⟨us,[]⟩ = pure (ps.zip us))
    (hbody : ∀ (f : Addr) (cdv : Value) (A : Around) (outer : List Env) (s : Shared) (H : Hp) (g : GE) (E : XK),Room k (A.deeper (envOfC x (zac st) s.heap.objs.size f cdv)) →
      SSs (cxOf CX0 P w K mg base N x (zac st) f cdv A outer s H E).nox g ro [] (ze5 N.length ms) (zcw st) fs m') :
    Callee P w K mg base x ps [] (k + 1) ro ms fun ds => outR ro (fs (zaq N.length ds)) := by
  obtain ⟨f,fd,h1,F⟩ := A.ex
  exact ⟨f,fd,h1,F.kp,F.binds hb,zmU F S hms (hbody f)⟩
structure DefAtD (K : PySem.W.Frag) (mg : Str→Option Value) (x : Str) (st : Stmt) (dds : List Value) : Prop where
  ex : ∃ (f T : Addr) (o : Obj) (n : Nat) (oc : Value) (od : Option Addr) (kV doc pm : Value) (an : Option Addr) (cdv ct : Value) (osl : Array (Option Value)),
    mg x = some (.ref f)∧K.lookup T = some o∧o.data = .seq dds.toArray n∧K.lookup f = some ⟨oc,od,.func (PySem.W.fnOf x x (zdB st) (zcw st) (zac st) (.ref T) kV doc pm an cdv ct),osl⟩∧PySem.W.codeIn K cdv x = true∧PySem.W.keepIn K (.ref f) = true
end
section
variable {X : Cx} {g : GE} {m : List Md} {e : Expr} {es : List Expr} {fl : Rho → Res (List D)} {k : Nat} {ps : List Str} {F : List D → Res D} {dvs : List V} {ds : List Value} {dds : List D} {x : Str} {p pos : Pos} {i : Nat} {ms ms' : List Md}
theorem zaw (c : Callee X.prog X.w X.K X.mg X.base x ps ds k false ms' F) (hr : Room k X.A) (ha : SAM X g m (e::es) ms fl) (hms : ms' = ms++List.replicate dds.length .sh := by rfl) (hg : Gl X x := by rfl) (hd : Vals dvs ds := by exact .nil) (hsc : Paired Scl dvs dds := by exact .nil)
    (hdb : (x == ("__debug__" : Str)) = false := by decide) (he : starEach (e::es) X.env = (false,eval e X.env)::starEach es X.env := by rfl) (hpl : (backTo pos (starEach es X.env)).any (·.1) = false := by rfl) :
    SE X g m (.Call (.Name x p) (e::es) [] pos) (zaB fl dds F) := by
  subst hms
  obtain ⟨f,fd,h1,h2,h3,h4⟩ := c.ex
  exact zoG h4 hr hg h1 h2 h3 hd hsc ha hdb he hpl
theorem v_ (i : Nat) (hm : m[i]? = some .sh := by rfl) (hN : X.N[i]? = some x := by rfl) (hv : Vis X.env.scope x := by first | exact Or.inl rfl | exact Or.inr (Or.inl rfl) | exact Or.inr (Or.inr rfl)) (hd : (x == ("__debug__" : Str)) = false := by decide) (hcd : (x == ("__classdict__" : Str)) = false := by decide) :
    SE X g m (.Name x p) fun r => getV r i := zqt i hm hN hv hd hcd
theorem vb_ (i : Nat) (hm : i < m.length := by decide) (hN : X.N[i]? = some x := by rfl) (hv : Vis X.env.scope x := by first | exact Or.inl rfl | exact Or.inr (Or.inl rfl) | exact Or.inr (Or.inr rfl)) (hd : (x == ("__debug__" : Str)) = false := by decide) (hcd : (x == ("__classdict__" : Str)) = false := by decide) :
    SB X g m (.Name x p) fun r => getV r i := zoC i hm hN hv hd hcd
end
end DL
end
section
namespace DL
open PySem PySem.Spec PyProof.Rows L2
noncomputable def zkV (osc : Scope) (ON : List Str) (sc : Scope) (N' : List Str) (nl : Nat) (cap : List Nat) : Bool :=
  decide (sc.kind = .function) && sc.names.all (fun y => decide (y.2≠.cell)) && sc.names.all (fun y => decide (y.2≠.local) || decide (sc.names.lookup y.1 = some .local)) &&
  sc.names.all (fun y => decide (y.2≠.free) || (decide (osc.names.lookup y.1 = some .cell) || decide (osc.names.lookup y.1 = some .free))) && decide (N'.length = nl + cap.length) &&
  (List.range cap.length).all fun j => match N'[nl + j]?,ON[cap.getD j 0]? with
    | some x,some y => decide (x = y) && decide (sc.names.lookup x = some .free)
    | _,_ => false
theorem zaN {X : Cx} {osc : Scope} {ON : List Str} {sc : Scope} {N' : List Str} {nl : Nat} {cap : List Nat} (h1 : X.env.scope = osc) (h2 : X.N = ON) (h : zkV osc ON sc N' nl cap = true) : CompSc X sc N' nl cap := by
  subst h1 h2
  unfold zkV at h
  simp only [Bool.and_eq_true,List.all_eq_true,decide_eq_true_eq,Bool.or_eq_true] at h
  obtain ⟨⟨⟨⟨⟨a1,a2⟩,a3⟩,a4⟩,a5⟩,a6⟩ := h
  refine ⟨a1,a2,fun y hy hl => (a3 y hy).resolve_left fun z => z hl,fun y hy hf => (a4 y hy).resolve_left fun z => z hf,a5,fun j hj => ?_⟩
  have h6 := a6 j (List.mem_range.mpr hj)
  cases e1 : N'[nl + j]? with
  | none => rw [e1] at h6; cases h6
  | some x =>
    cases e2 : X.N[cap.getD j 0]? with
    | none => rw [e1,e2] at h6; cases h6
    | some y =>
      rw [e1,e2] at h6
      simp only [Bool.and_eq_true,decide_eq_true_eq] at h6
      exact ⟨x,rfl,by rw [h6.1],h6.2⟩
section
variable {X : Cx} {g : GE} {m mb : List Md} {e a b c : Expr} {f fa fb fc : FE} {pos pos' : Pos}
theorem zje {R R' : R2} {k k' : D→D→Option D} (ho : OpD X.K R k) (ho' : OpD X.K R' k') {σ : L2.St} {H : Hp} {Q : VK} (h : tE X g m (zhj fa fb fc k k') σ H Q) : zmw R R' (tB X g m fa) (tB X g m fb) (tB X g m fc) σ H Q := by
  obtain ⟨r,G,si,q⟩ := h
  refine seq2 si q fun d1 d2 v1 v2 G2 H2 w r1 r2 q2 => ?_
  obtain ⟨z,ez,q3⟩ := zav (zaf q2)
  obtain ⟨cc,ec,q4⟩ := zav (zaf q3)
  refine ho G2 H2 v1 v2 d1 d2 z _ w.ok r1 r2 ez fun v G3 H3 w3 rv => ?_
  cases z with
  | bl b' =>
    cases ec
    refine ⟨_,rv.bl w3.ok,?_⟩
    cases cc with
    | false => rw [if_neg Bool.false_ne_true] at q4 ⊢; exact q4 _ G3 H3 (w.trans w3) (.scl (.bl _))
    | true =>
      rw [if_pos rfl] at q4 ⊢
      refine ⟨r,G3,(si.grow w).grow w3,zaG (zaf q4) (w.trans w3) fun d3 q5 v3 G4 H4 w4 r3 => ?_⟩
      obtain ⟨d,e,q6⟩ := zav q5
      exact ho' G4 H4 v2 v3 d2 d3 d Q w4.ok ((r2.mono w3).mono w4) r3 e fun v G' H' w' z => q6 v G' H' (((w.trans w3).trans w4).trans w') z
  | _ => cases ec
theorem zly {op op' : CmpOp} {R R' : R2} {k k' : D→D→Option D} (hr : OpR X (compareOp op) R) (hr' : OpR X (compareOp op') R') (ho : OpD X.K R k) (ho' : OpD X.K R' k') (ha : SB X g m a fa) (hb : SB X g m b fb) (hc : SB X g m c fc)
    (hm : lastMarks [op,op'] [b,c] = false := by with_unfolding_all rfl) : SE X g m (.Compare a [op,op'] [b,c] pos) (zhj fa fb fc k k') := PE.imp (zlQ hr hr' ha hb hc hm) fun σ H Q h => zje ho ho' h
theorem zqL {K : PySem.W.Frag} : OpD K (rI0 fun i j => V.bl (decide (i < j))) ltI := zeu fun _ _ => .bl _
theorem zqM {K : PySem.W.Frag} : OpD K (rI0 fun i j => V.bl (decide (i≤j))) leI := zeu fun _ _ => .bl _
end
end DL
end
section
namespace DL
open PySem PySem.Spec PyProof.Rows L2
theorem zrf {K : PySem.W.Frag} {h : Heap} {mg : Str→Option Value} {x : Str} {st : Stmt} (KX : K.In h) (G : h.Ns mainGlobals mg) {f : Addr} {oc : Value} {od an : Option Addr} {osl : Array (Option Value)} {kV doc pm cdv ct : Value} (a : PySem.W.nsIn K mainGlobals x = some (some (.ref f)))
    (l : K.lookup f = some ⟨oc,od,.func (PySem.W.fnOf x x (zdB st) (zcw st) (zac st) .none kV doc pm an cdv ct),osl⟩) (c : PySem.W.codeIn K cdv x = true) (k : PySem.W.keepIn K (.ref f) = true) : DefAt K mg x st :=
  ⟨f,_,PySem.W.mg_of KX G a,zpU l c k⟩
theorem zre {P : Program} {w : World} {K : PySem.W.Frag} {mg : Str→Option Value} {x p : Str} {st : Stmt} {k : Nat} {F : List D→Res D} {fa : Addr} (hfa : mg x = some (.ref fa)) (A : DefAt K mg x st)
    (hb : ∀ (kV doc pm : Value) (an : Option Addr) (cdv ct : Value) (us : List Value),us.length = [p].length→bindArgs (PySem.W.fnOf x x (zdB st) (zcw st) (zac st) .none kV doc pm an cdv ct) ⟨us,[]⟩ = pure ([p].zip us))
    (C : ∀ (f : Addr) (fd : FuncData),Fun K x x st f fd→∀ base : Heap,FnOk P w K mg base CX0 k f fd [p] (spM K false [.sh] F)) :
    ∃ fd : FuncData,(∀ (s : Shared) (u : Value),BindsTo s fd ⟨[u],[]⟩ [(p,u)])∧∀ base : Heap,K.In base→base.Ns mainGlobals mg→FnOk P w K mg base CX0 k fa fd [p] (spM K false [.sh] F) := by
  obtain ⟨f,fd,h1,Fn⟩ := A.ex
  rw [hfa] at h1
  cases h1
  refine ⟨fd,fun s u => ?_,fun base _ _ => C fa fd Fn base⟩
  obtain ⟨oc,od,kV,doc,pm,an,cdv,ct,osl,rfl,lk,hcd⟩ := Fn.ex
  exact .of_eq (hb kV doc pm an cdv ct [u] rfl)
theorem zrg {l : PySem.W.OpenLaw} {k : Nat} {q : Program} {loose : List Str} {XP : (Str→Option Value)→Heap→Prop} {YP : World→Heap→Prop} {d : DefRec} {K : Params→PySem.W.Frag} {x : Str} {F : List D→Res D} (hn : l.most = some 63) (hdf : d.params.defaults = []) (hr : Room k callerA)
    (hY : ∀ (w : World) (h : Heap),YP w h→(K w.params).In h) (hF : ∀ ns : List Int,ns.length≤63→F [.lst (ns.map .int)] = .ok (.bl true))
    (C : ∀ (w : World) (mg : Str→Option Value) (fa : Addr) (h : Heap),(K w.params).In h→h.Ns mainGlobals mg→mg d.name = some (.ref fa) →
      ∃ fd : FuncData,(∀ (s : Shared) (u : Value),BindsTo s fd ⟨[u],[]⟩ [(x,u)])∧∀ base : Heap,(K w.params).In base→base.Ns mainGlobals mg→FnOk l.prog w (K w.params) mg base CX0 k fa fd [x] (spM (K w.params) false [.sh] F)) :
    PySem.W.WalkO q loose XP YP l.row.toRowW d [] (fun f vs => PySem.call f vs) := by
  refine L2.walk_of (n := 63) (k := k) (x := x) (CX := fun _ => CX0) (sp := fun w => spM (K w.params) false [.sh] F) hn (by decide) hdf hr hY C (fun w H a ns hl hO hS => ?_) fun _ _ _ _ _ z => z
  have intsP : ∀ (l : List Int),Paired Scl (l.map V.int) (l.map D.int) := fun l => by
    induction l with
    | nil => exact .nil
    | cons i l ih => exact .cons (.int i) ih
  rcases hS with hS | hS
  · refine ⟨fun b => if b = a then some (.lst (ns.map D.int)) else none,[.lst (ns.map .int)],fun b d' hb => ?_,.sh (.ref (if_pos rfl)) .nil,?_⟩
    · by_cases e : b = a
      · subst e
        have hb' : some (D.lst (ns.map D.int)) = some d' := (if_pos rfl).symm.trans hb
        cases hb'
        exact .lst hS (Paired.mono (fun _ _ z => .scl z) (intsP ns))
      · have hb' : (none : Option D) = some d' := (if_neg e).symm.trans hb
        cases hb'
    · rw [hF ns hl]
      intro v G' H' w' rv
      exact rv.bl w'.ok
  · refine ⟨fun _ => none,[.lst (ns.map .int)],fun b d' hb => (by cases hb),.sh (.kc (.lst (.inr hS) (intsP ns))) .nil,?_⟩
    rw [hF ns hl]
    intro v G' H' w' rv
    exact rv.bl w'.ok
end DL
end
section
namespace DL
open PySem PySem.Spec PyProof.Rows L2
open AutoSeq1 (wpAny_loadPart')
section
variable {prog : Program} {w : World} {A : Around} {E : Value → Shared → Prop} {s : Shared}
theorem zew {it t : Addr} {i : Nat} {items} {x : Value} {Q : Value→Shared→Prop} (hit : s.heap.IsTupleIter it t i) (ht : s.heap.IsTuple t items) (hx : items[i]? = some x)
    (hQ : ∀ h',h'.IsTupleIter it t (i + 1)→Heap.SameBut it s.heap h'→Q x { s with heap := h' }) : wpAny (model prog w) A (Builtin.SmallTypes.nextOf (.ref it)) Q E s := by
  obtain ⟨o,ho,hc,hd⟩ := id hit
  obtain ⟨ol,hol,_,nl,hdl⟩ := ht
  unfold Builtin.SmallTypes.nextOf
  refine wpAny_bind (wpAny_callSpecial?_slot (name := Str.ofString "__next__") hit.typeIs F.slot_tuple_iterator_next
    (wpAny_call_entry F.slot_tuple_iterator_next hit.typeIs F.entry_tuple_iterator_next ?_ (F.args_tuple_iterator_next_1 _)))
  show wpAny _ _ (field (.ref it) 0 >>= _) _ _ s
  refine wpAny_bind (wpAny_field ho hd (x := .ref t) rfl ?_)
  show wpAny _ _ (if (Value.ref t == Value.none) = true then _ else _) _ _ s
  rw [if_neg (show ¬ ((Value.ref t == Value.none) = true) from Bool.false_ne_true)]
  show wpAny _ _ (field (.ref it) 1 >>= _) _ _ s
  refine wpAny_bind (wpAny_field ho hd (x := .int i 0) rfl ?_)
  show wpAny _ _ (seqItems? (.ref t) >>= _) _ _ s
  refine wpAny_bind (wpAny_seqItems hol hdl ?_)
  simp only [Int.toNat_natCast,hx]
  refine wpAny_bind (wpAny_setField ho hd (by simp) (wpAny_pure ⟨x,rfl,wpAny_pure (hQ _ ?_ (Heap.SameBut.update ..))⟩))
  exact ⟨_,Heap.get?_update_self _ ho (Obj.isFreed_of_fields (Obj.data_mapFields hd _)),(Obj.cls_mapFields ..).trans hc,by
    rw [Obj.data_mapFields hd]; simp [rawInt]⟩
theorem zeX {it t : Addr} {i : Nat} {items} {Q : Value→Shared→Prop} (hh : A.handled = none) (hit : s.heap.IsTupleIter it t i) (ht : s.heap.IsTuple t items) (hx : items[i]? = none)
    (hE : ∀ h' e,Heap.ExtBut it s.heap h'→(∃ o,h'.get? e = some o∧o.cls = .type "StopIteration")→E (.ref e) { s with heap := h' }) : wpAny (model prog w) A (Builtin.SmallTypes.nextOf (.ref it)) Q E s := by
  obtain ⟨o,ho,hc,hd⟩ := id hit
  obtain ⟨ol,hol,_,nl,hdl⟩ := ht
  unfold Builtin.SmallTypes.nextOf
  refine wpAny_bind (wpAny_callSpecial?_slot (name := Str.ofString "__next__") hit.typeIs F.slot_tuple_iterator_next
    (wpAny_call_entry F.slot_tuple_iterator_next hit.typeIs F.entry_tuple_iterator_next ?_ (F.args_tuple_iterator_next_1 _)))
  show wpAny _ _ (field (.ref it) 0 >>= _) _ _ s
  refine wpAny_bind (wpAny_field ho hd (x := .ref t) rfl ?_)
  show wpAny _ _ (if (Value.ref t == Value.none) = true then _ else _) _ _ s
  rw [if_neg (show ¬ ((Value.ref t == Value.none) = true) from Bool.false_ne_true)]
  show wpAny _ _ (field (.ref it) 1 >>= _) _ _ s
  refine wpAny_bind (wpAny_field ho hd (x := .int i 0) rfl ?_)
  show wpAny _ _ (seqItems? (.ref t) >>= _) _ _ s
  refine wpAny_bind (wpAny_seqItems hol hdl ?_)
  simp only [Int.toNat_natCast,hx]
  refine wpAny_bind (wpAny_rule (wpAny_bind (wpAny_setField ho hd (by simp) ?_)))
  show wpAny _ _ (newExc (.type "StopIteration") [] >>= _) _ _ _
  refine wpAny_bind ?_
  simp only [newExc,newTuple]
  refine wpAny_bind (wpAny_newObj_type ?_ (by size_fits))
  refine wpAny_bind (m := firstArgMember _ _) (wpAny_of_eq (a := Value.none) (by first | rfl | (simp only [firstArgMember]; rfl)) ?_)
  refine wpAny_newObj_type ?_ (by size_fits)
  simp only [raiseNew]
  refine wpAny_bind (wpAny_handled ?_)
  first | rw [show A.in1.handled = none from hh] | rw [hh]
  refine wpAny_bind (wpAny_pure (wpAny_throw ?_))
  exact hE _ _ (((Heap.SameBut.update ..).extBut.push _).push _) ⟨_,Heap.get?_push_size _ rfl,rfl⟩
end
theorem zkM {prog : Program} {w : World} {A : Around} (hh : A.handled = none) (it l : Addr) (hne : l≠it) (items : Array Value) :
    Draws prog w A it [it,l] items.size (fun i v => items[i]? = some v) (fun i h => h.IsTupleIter it l i∧h.IsTuple l items) where
  live := fun _ _ st => let ⟨o,ho,_⟩ := st.1; ⟨o,ho⟩
  frame := fun _ _ _ st hk => ⟨let ⟨o,ho,r⟩ := st.1; ⟨o,hk it (by simp) o ho,r⟩,let ⟨o,ho,r⟩ := st.2; ⟨o,hk l (by simp) o ho,r⟩⟩
  item := fun i s Q E hi st hQ => by
    refine zew st.1 st.2 (x := items[i]) (by simp [hi]) fun h' hit' hs' => ?_
    exact hQ _ h' s.toks (by simp [hi]) ⟨hit',st.2.extBut hs'.extBut hne⟩ hs'
  done := fun s Q E st hE => zeX hh st.1 st.2 (by simp) hE
theorem zfj (l : Addr) (items : Array Value) (n : Nat) (dct : Option Addr) (sl : Array (Option Value)) :
    Meets (Builtin.«enumerate.__new__» ⟨[.type "enumerate",.ref l],[]⟩) (fun _ R s => s.heap.get? l = some { cls := .type "tuple",dict := dct,data := .seq items n,slots := sl } ∧
      R (.ok (.ret (.ref (s.heap.push { cls := .type "tuple_iterator",data := .fields #[.ref l,.int 0 0] }).objs.size)))
        { s with heap := (s.heap.push { cls := .type "tuple_iterator",data := .fields #[.ref l,.int 0 0] }).push { cls := .type "enumerate",data := .fields #[.none,.bool false,.ref s.heap.objs.size,rawInt 0,.none,.none] } }) :=
  .of_wp fun prog w A R s h => by
    obtain ⟨hp,g,d,tk,os⟩ := s; obtain ⟨hl,h⟩ := h
    have hsub := sub_enumerate
    have hL : Heap.IsTuple (Shared.heap ⟨hp,g,d,tk,os⟩) l items := ⟨_,hl,rfl,n,rfl⟩
    wp_walk using wpAny_loadPart' hl
    refine wpAny_stack_any fun st => wpAny_pure ?_
    split
    · rename_i c _ _ _ _ _
      cases (c == Value.type "enumerate")
      · wp_walk using wpAny_loadPart' hl,wpAny_pyIter_tuple hL
        exact ⟨_,rfl,h⟩
      · wp_walk using wpAny_loadPart' hl,wpAny_pyIter_tuple hL
        exact ⟨_,rfl,h⟩
    · wp_walk using wpAny_loadPart' hl,wpAny_pyIter_tuple hL
      exact ⟨_,rfl,h⟩
section
variable {prog : Program} {w : World} {A : Around} {E : Value → Shared → Prop} {s : Shared}
theorem zft {l : Addr} {items : Array Value} {Q : Value→Shared→Prop} (hL : s.heap.IsTuple l items)
    (h : ∀ h',IsEnum h' (s.heap.objs.size + 1) s.heap.objs.size 0 .none→h'.IsTupleIter s.heap.objs.size l 0→h'.objs.size = s.heap.objs.size + 2 →
      (∀ b o,s.heap.get? b = some o→h'.get? b = some o)→Q (.ref (s.heap.objs.size + 1)) { s with heap := h' }) :
    wpAny (model prog w) A (call (.type "enumerate") [.ref l]) Q E s := by
  obtain ⟨⟨c,dct,dt,sl⟩,hl,hc,n,hd⟩ := hL
  replace hc : c = .type "tuple" := hc
  replace hd : dt = .seq items n := hd
  subst hc hd
  refine callType_new F.called_enumerate (by decide) (F.typeCall_enumerate_1 _) (F.newCall_enumerate_1 _) (fun obj => F.args_object_init_2 obj _) F.entry_enumerate_new
    (zfj l items n dct sl) ⟨hl,?_⟩
  have hz : (s.heap.push { cls := .type "tuple_iterator",data := .fields #[.ref l,.int 0 0] }).objs.size = s.heap.objs.size + 1 := Heap.size_push ..
  show _∧_
  rw [hz]
  have he : IsEnum ((s.heap.push { cls := .type "tuple_iterator",data := .fields #[.ref l,.int 0 0] }).push
      { cls := .type "enumerate",data := .fields #[.none,.bool false,.ref s.heap.objs.size,rawInt 0,.none,.none] }) (s.heap.objs.size + 1) s.heap.objs.size 0 .none := by
    have := Heap.get?_push_size (s.heap.push { cls := .type "tuple_iterator",data := .fields #[.ref l,.int 0 0] })
      (o := { cls := .type "enumerate",data := .fields #[.none,.bool false,.ref s.heap.objs.size,rawInt 0,.none,.none] }) rfl
    rw [hz] at this; exact this
  refine ⟨⟨_,he,rfl⟩,h _ he ⟨_,Heap.get?_push_of_some _ (Heap.get?_push_size _ rfl),rfl,rfl⟩ (by rw [Heap.size_push,hz]) fun b o x => Heap.get?_push_of_some _ (Heap.get?_push_of_some _ x)⟩
end
theorem zgj {X : Cx} {pins : List (Addr × Obj)} {σ : L2.St} {H : Hp} {s : Shared} {h' : Heap} {ch : List Addr} {T : Addr} {o : HO} {t' : Nat} (I : Inv X pins σ H s)
    (hch : ∀ b∈ch,FpOk X pins H b) (k : ∀ b ob,b∉ch→s.heap.get? b = some ob→h'.get? b = some ob) (hT : s.heap.objs.size≤T) (new : zaZ X.prog X.w (upd H T o) h' T o) : Inv X pins σ (upd H T o) { s with heap := h',toks := t' } := by
  have hTn : H T = none := I.hok.fresh hT
  have trk : ∀ b u,H b = some u→b∉ch := fun b u e hb => by rw [(hch b hb).1] at e; cases e
  have neT : ∀ b ob,s.heap.get? b = some ob→b≠T := fun b ob e => Nat.ne_of_lt (Nat.lt_of_lt_of_le (Heap.lt_size e) hT)
  have keepU : ∀ b u,H b = some u→upd H T o b = some u := fun b u e => by rw [zat (zbw e hTn)]; exact e
  refine I.step (g' := s.gens) (d' := s.drawn) (ch := ch) (fun b hb => ?_) (fun b ob _ _ hc e _ => k b ob hc e) (fun b ob _ _ hc e _ => ⟨ob.slots,k b ob hc e⟩) (fun b ob hc e n => by rw [zat (neT b ob e)]; exact n)
    (fun b ob hc e => ⟨ob,k b ob hc e⟩) (fun b xs e => keepU b _ e) (fun b ob u e => keepU b _ e) (fun b ps e => ⟨#[],by rw [keepU b _ e]; simp⟩) (fun m hm => ?_) (fun b u e => ?_) I.bare
  · obtain ⟨z0,z1,z2,z3,z4,z5⟩ := hch b hb
    exact ⟨z3,z1,z4,z5⟩
  · obtain ⟨ob,es,ep,ho,r⟩ := hm
    exact ⟨ob,es,ep,k _ ob (fun hb => (hch _ hb).2.1 rfl) ho,r⟩
  · by_cases hb : b = T
    · subst hb
      rw [zam] at e
      cases e
      exact new
    · rw [zat hb] at e
      refine (I.hok b u e).stay (fun c v hc q => k c v ?_ q) (fun c q => keepU c _ q) fun c xs q => keepU c _ q
      rcases hc with z | z
      · rw [z]; exact trk b u e
      · exact trk c _ z
noncomputable def Ien (sq : Hp→List V→Prop) : It :=
  ⟨fun i H => ∃ xs x,sq H xs∧xs[i]? = some x,fun i H x H' => ∃ p v,H p = none∧x = .ref p∧H' = upd H p (.tup [.int i,v])∧∀ xs,sq H xs→xs[i]? = some v,fun i H => ∃ xs,sq H xs∧xs.length = i⟩
theorem zjQ {P : Program} {w : World} {H : Hp} {h : Heap} {T : Addr} {i : Nat} {tk : Tok} {x : Value} {v : V} (hT : h.get? T = some { cls := .type "tuple",data := .seq #[.int i tk,x] }) (r : L2.RelV v x) : zaZ P w H h T (.tup [.int i,v]) :=
  ⟨by show 2≤sizeLine; decide,[.int i tk,x],.cons ⟨tk,rfl⟩ (.cons r .nil),⟨_,hT,rfl,0,rfl⟩,_,hT,rfl⟩
theorem ziR {P : Program} {w : World} {K : PySem.W.Frag} {elts : List Expr} {k : Nat} {pos : Pos} (a it e : Addr) (hei : e≠it) : Turn P w K (.Tuple elts k pos) (Ien fun H xs => SqL K H a xs) [e,it] e (fun i h => (∃ old,IsEnum h e it i old)∧h.IsListIter it a i) where
  mem := by simp
  obj := fun i h st b hb => by
    obtain ⟨⟨old,he⟩,o,ho,hc,hd⟩ := st
    rcases List.mem_cons.mp hb with rfl | hb
    · exact ⟨_,he,fun v z => by have z' : Data.fields _ = Data.cell v := z; cases z'⟩
    · rw [List.mem_singleton.mp hb]
      exact ⟨o,ho,fun v z => by rw [hd] at z; cases z⟩
  keep := fun i h h' st kk => by
    obtain ⟨⟨old,he⟩,hi⟩ := st
    exact ⟨⟨old,kk e (by simp) _ he⟩,hi.at fun o q => kk it (by simp) o q⟩
  item := by
    intro X hP hw hK hc i pins s σ H E I hf st hg
    subst hP hw hK
    obtain ⟨xs,x,hq,hx⟩ := hg
    obtain ⟨its,rv,p,hz⟩ := I.list hq
    obtain ⟨⟨old,he⟩,hi⟩ := st
    obtain ⟨o1,ho1,hc1,hd1⟩ := id hi
    obtain ⟨o2,ho2,hc2,_⟩ := id p.isList
    have hai : a≠it := by rintro rfl; rw [ho1] at ho2; cases ho2; rw [hc1] at hc2; exact absurd hc2 (by decide)
    have hea : e≠a := by rintro rfl; rw [he] at ho2; cases ho2; exact absurd (show Value.type "enumerate" = _ from hc2) (by decide)
    have hlt : i < its.toArray.size := by
      have := (List.getElem?_eq_some_iff.mp hx).1
      rw [List.size_toArray,← rv.length]; exact this
    refine wpAny_pyNext_enum_itemD (Draws.list (A := X.A.in1) (show X.A.in1.handled = none from I.ok.hd hc) it a hai its.toArray) he ⟨hi,p.isList⟩ hlt hei (by simp [hei,hea]) fun y h' tk hP ho hs' hT hsz hk => ?_
    refine ⟨_,rfl,wpAny_letOwnedTupleGo_enum ho fun h'' he'' hs'' => ?_⟩
    obtain ⟨u,hu,ru⟩ := rv.get hx
    have hy : y = u := by
      have : its[i]? = some y := by simpa using hP
      rw [hu] at this; exact (Option.some.inj this).symm
    subst hy
    have hTe : s.heap.objs.size≠e := Nat.ne_of_gt (Heap.lt_size he)
    have hT'' : h''.get? s.heap.objs.size = some { cls := .type "tuple",data := .seq #[.int i tk,y] } := (hs''.2 _ hTe).trans hT
    refine ⟨.ref s.heap.objs.size,upd H s.heap.objs.size (.tup [.int i,x]),zgj (s := s) (h' := h'') (t' := tk + 1) (ch := [e,it]) I hf (fun b ob hb q => ?_) (Nat.le_refl _) (zjQ hT'' ru),rfl,⟨_,x,I.hok.fresh (Nat.le_refl _),rfl,rfl,fun ys hy => by rw [I.list_inj hy hq]; exact hx⟩,⟨⟨_,by simpa using he''⟩,hs'.1.extBut hs''.extBut (Ne.symm hei)⟩,fun b hb => ?_⟩
    · have hbe : b≠e := fun z => hb (by simp [z])
      exact (hs''.2 b hbe).trans (hk b ob hbe (fun z => hb (by simp [z])) q)
    · rw [zat ?_]
      · exact (hf b hb).1
      · rcases List.mem_cons.mp hb with rfl | hb
        · exact Nat.ne_of_lt (Heap.lt_size he)
        · rw [List.mem_singleton.mp hb]; exact Nat.ne_of_lt (Heap.lt_size ho1)
  done := by
    intro X hP hw hK hc i pins s σ H E I hf st hg
    subst hP hw hK
    obtain ⟨xs,hq,hx⟩ := hg
    obtain ⟨its,rv,p,hz⟩ := I.list hq
    obtain ⟨⟨old,he⟩,hi⟩ := st
    obtain ⟨o1,ho1,hc1,hd1⟩ := id hi
    obtain ⟨o2,ho2,hc2,_⟩ := id p.isList
    have hai : a≠it := by rintro rfl; rw [ho1] at ho2; cases ho2; rw [hc1] at hc2; exact absurd hc2 (by decide)
    obtain ⟨f0,f1,f2,f3,f4,f5⟩ := hf it (by simp)
    have hn : its.toArray.size = i := by rw [List.size_toArray,← rv.length]; exact hx
    refine wpAny_pyNext_enum_endD (Draws.list (A := X.A.in1) (show X.A.in1.handled = none from I.ok.hd hc) it a hai its.toArray) he ⟨by rw [hn]; exact hi,p.isList⟩ fun h' eb => ⟨rfl,I.turned (t' := s.toks) (fun b o hb q => eb b o hb q) f0 f1 f3 f4 f5⟩
  self := fun _ _ _ _ _ st h => let ⟨⟨_,he⟩,_⟩ := st; wpAny_pyIter_enum he h
theorem IsTupleIter.at' {h h' : Heap} {a t : Addr} {i : Nat} (x : h.IsTupleIter a t i) (hs : ∀ o,h.get? a = some o→h'.get? a = some o) : h'.IsTupleIter a t i := let ⟨o,ho,r⟩ := x; ⟨o,hs o ho,r⟩
theorem ziQ {P : Program} {w : World} {K : PySem.W.Frag} {elts : List Expr} {k : Nat} {pos : Pos} (a it e : Addr) (hei : e≠it) : Turn P w K (.Tuple elts k pos) (Ien fun H xs => SqT K H a xs) [e,it] e (fun i h => (∃ old,IsEnum h e it i old)∧h.IsTupleIter it a i) where
  mem := by simp
  obj := fun i h st b hb => by
    obtain ⟨⟨old,he⟩,o,ho,hc,hd⟩ := st
    rcases List.mem_cons.mp hb with rfl | hb
    · exact ⟨_,he,fun v z => by have z' : Data.fields _ = Data.cell v := z; cases z'⟩
    · rw [List.mem_singleton.mp hb]
      exact ⟨o,ho,fun v z => by rw [hd] at z; cases z⟩
  keep := fun i h h' st kk => by
    obtain ⟨⟨old,he⟩,hi⟩ := st
    exact ⟨⟨old,kk e (by simp) _ he⟩,IsTupleIter.at' hi fun o q => kk it (by simp) o q⟩
  item := by
    intro X hP hw hK hc i pins s σ H E I hf st hg
    subst hP hw hK
    obtain ⟨xs,x,hq,hx⟩ := hg
    obtain ⟨its,rv,p,hz⟩ := I.tuple hq
    obtain ⟨⟨old,he⟩,hi⟩ := st
    obtain ⟨o1,ho1,hc1,hd1⟩ := id hi
    obtain ⟨o2,ho2,hc2,_⟩ := id p
    have hai : a≠it := by rintro rfl; rw [ho1] at ho2; cases ho2; rw [hc1] at hc2; exact absurd hc2 (by decide)
    have hea : e≠a := by rintro rfl; rw [he] at ho2; cases ho2; exact absurd (show Value.type "enumerate" = _ from hc2) (by decide)
    have hlt : i < its.toArray.size := by
      have := (List.getElem?_eq_some_iff.mp hx).1
      rw [List.size_toArray,← rv.length]; exact this
    refine wpAny_pyNext_enum_itemD (zkM (A := X.A.in1) (show X.A.in1.handled = none from I.ok.hd hc) it a hai its.toArray) he ⟨hi,p⟩ hlt hei (by simp [hei,hea]) fun y h' tk hP ho hs' hT hsz hk => ?_
    refine ⟨_,rfl,wpAny_letOwnedTupleGo_enum ho fun h'' he'' hs'' => ?_⟩
    obtain ⟨u,hu,ru⟩ := rv.get hx
    have hy : y = u := by
      have : its[i]? = some y := by simpa using hP
      rw [hu] at this; exact (Option.some.inj this).symm
    subst hy
    have hTe : s.heap.objs.size≠e := Nat.ne_of_gt (Heap.lt_size he)
    have hT'' : h''.get? s.heap.objs.size = some { cls := .type "tuple",data := .seq #[.int i tk,y] } := (hs''.2 _ hTe).trans hT
    refine ⟨.ref s.heap.objs.size,upd H s.heap.objs.size (.tup [.int i,x]),zgj (s := s) (h' := h'') (t' := tk + 1) (ch := [e,it]) I hf (fun b ob hb q => ?_) (Nat.le_refl _) (zjQ hT'' ru),rfl,⟨_,x,I.hok.fresh (Nat.le_refl _),rfl,rfl,fun ys hy => by rw [I.tuple_inj hy hq]; exact hx⟩,⟨⟨_,by simpa using he''⟩,hs'.1.extBut hs''.extBut (Ne.symm hei)⟩,fun b hb => ?_⟩
    · have hbe : b≠e := fun z => hb (by simp [z])
      exact (hs''.2 b hbe).trans (hk b ob hbe (fun z => hb (by simp [z])) q)
    · rw [zat ?_]
      · exact (hf b hb).1
      · rcases List.mem_cons.mp hb with rfl | hb
        · exact Nat.ne_of_lt (Heap.lt_size he)
        · rw [List.mem_singleton.mp hb]; exact Nat.ne_of_lt (Heap.lt_size ho1)
  done := by
    intro X hP hw hK hc i pins s σ H E I hf st hg
    subst hP hw hK
    obtain ⟨xs,hq,hx⟩ := hg
    obtain ⟨its,rv,p,hz⟩ := I.tuple hq
    obtain ⟨⟨old,he⟩,hi⟩ := st
    obtain ⟨o1,ho1,hc1,hd1⟩ := id hi
    obtain ⟨o2,ho2,hc2,_⟩ := id p
    have hai : a≠it := by rintro rfl; rw [ho1] at ho2; cases ho2; rw [hc1] at hc2; exact absurd hc2 (by decide)
    obtain ⟨f0,f1,f2,f3,f4,f5⟩ := hf it (by simp)
    have hn : its.toArray.size = i := by rw [List.size_toArray,← rv.length]; exact hx
    refine wpAny_pyNext_enum_endD (zkM (A := X.A.in1) (show X.A.in1.handled = none from I.ok.hd hc) it a hai its.toArray) he ⟨by rw [hn]; exact hi,p⟩ fun h' eb => ⟨rfl,I.turned (t' := s.toks) (fun b o hb q => eb b o hb q) f0 f1 f3 f4 f5⟩
  self := fun _ _ _ _ _ st h => let ⟨⟨_,he⟩,_⟩ := st; wpAny_pyIter_enum he h
end DL
end
section
namespace DL
open PySem PySem.Spec PyProof.Rows L2
noncomputable def tyN : D→Option String
  | .non => some "NoneType"
  | .bl _ => some "bool"
  | .int _ => some "int"
  | .str _ => some "str"
  | .tup _ => some "tuple"
  | .lst _ => some "list"
  | .dic _ => some "dict"
  | .obj _ _ => none
noncomputable def subT (t T : String) : Bool := t == T || (t == "bool" && T == "int")
noncomputable def isiD (T : String) (d : D) : Option D := (tyN d).map fun t => .bl (subT t T)
noncomputable def TyD (K : PySem.W.Frag) (x : V) (H : Hp) (t : String) : Prop := match x with
  | .non => t = "NoneType"
  | .bl _ => t = "bool"
  | .int _ => t = "int"
  | .str _ => t = "str"
  | .ref p => (t = "list"∧∃ xs,SqL K H p xs)∨(t = "tuple"∧∃ xs,SqT K H p xs)∨(t = "dict"∧∃ kvs,Rd H p (.dK kvs))
  | _ => False
theorem zoq {K : PySem.W.Frag} {G : GH} {H : Hp} {v : V} {d : D} {t : String} (gk : GOk K G H) (h : RB K G H v d) (e : tyN d = some t) : TyD K v H t := by
  cases d with
  | non => cases e; rw [h.non gk]; rfl
  | bl b => cases e; rw [h.bl gk]; rfl
  | int i => cases e; rw [h.int gk]; rfl
  | str x => cases e; rw [h.str gk]; rfl
  | tup ds => cases e; obtain ⟨a,xs,rfl,s,r⟩ := h.tup gk; exact .inr (.inl ⟨rfl,xs,s⟩)
  | lst ds => cases e; obtain ⟨a,xs,rfl,s,r⟩ := h.lst gk; exact .inl ⟨rfl,xs,s⟩
  | dic ds => cases e; obtain ⟨a,xs,rfl,s,r⟩ := h.dic gk; exact .inr (.inr ⟨rfl,xs,s⟩)
  | obj _ _ => cases e
section
variable {X : Cx} {g : GE} {m : List Md} {e a : Expr} {f : FE} {pos p p2 : Pos}
theorem zmk : zdk X (.builtin "isinstance") (fun xs H Q => ∃ x t T b,xs = [x,.ty T]∧TyD X.K x H t∧PySem.W.kitOne X.K (.type t) (.type T) = some b∧Q (.bl b) H) := by
  intro pins s σ H xs us Q I r h
  obtain ⟨x,t,T,b,rfl,ty,e,q⟩ := h
  obtain ⟨u,w',rfl,rx,ry⟩ := zol r
  cases ry
  have fin : ∀ tk,EP X pins σ Q (.bool b) { s with toks := tk } := fun tk => ⟨.bl b,H,I.tok tk,rfl,q⟩
  cases x with
  | non => cases rx; cases (show t = "NoneType" from ty); exact PySem.W.kia_one PySem.W.kitx_none I.kIn True.intro e (fun z => nomatch z) fin
  | bl y => cases rx; cases (show t = "bool" from ty); exact PySem.W.kia_one PySem.W.kitx_bool I.kIn True.intro e (fun z => nomatch z) fin
  | int i => obtain ⟨t,rfl⟩ := rx; cases ty; exact PySem.W.kia_one PySem.W.kitx_int I.kIn True.intro e (fun z => nomatch z) fin
  | str i => obtain ⟨t,rfl⟩ := rx; cases ty; exact PySem.W.kia_one PySem.W.kitx_str I.kIn True.intro e (fun z => nomatch z) fin
  | ref p =>
    cases rx
    rcases ty with ⟨rfl,xs,hq⟩ | ⟨rfl,xs,hq⟩ | ⟨rfl,kvs,hq⟩
    · obtain ⟨its,_,pl,_⟩ := I.list hq
      obtain ⟨o,ho,hc,_⟩ := pl.isList
      exact PySem.W.kia_one PySem.W.kitx_list I.kIn ⟨o,ho,hc⟩ e (fun z => nomatch z) fin
    · obtain ⟨its,_,pl,_⟩ := I.tuple hq
      obtain ⟨o,ho,hc,_⟩ := pl
      exact PySem.W.kia_one PySem.W.kitx_tuple I.kIn ⟨o,ho,hc⟩ e (fun z => nomatch z) fin
    · obtain ⟨_,_,vs,_,pp⟩ := (show zaZ X.prog X.w H s.heap p (.dK kvs) from hq.ok I.hok)
      obtain ⟨o,es,ep,h1,h2,_⟩ := pp
      exact PySem.W.kia_one PySem.W.kitx_dict I.kIn ⟨o,h1,h2.1⟩ e (fun z => nomatch z) fin
  | _ => exact (show False from ty).elim
theorem zjx (x : Str) (T : String) (hv : bootBuiltins x = some (.type T)) (hk : ∀ (d : D) (t : String),tyN d = some t→PySem.W.kitOne X.K (.type t) (.type T) = some (subT t T)) (hg : Gl X "isinstance") (hm : X.mg "isinstance" = none) (hgT : Gl X x) (hmT : X.mg x = none) (he : SB X g m e f)
    (hn : x≠"__name__" := by decide) (hd : (x == ("__debug__" : Str)) = false := by decide) (hs1 : starEach [e,.Name x p2] X.env = (false,eval e X.env)::starEach [.Name x p2] X.env := by rfl) (hs2 : starEach [.Name x p2] X.env = (false,eval (.Name x p2) X.env)::starEach [] X.env := by rfl)
    (hpl : (backTo pos (starEach [.Name x p2] X.env)).any (·.1) = false := by rfl) :
    SE X g m (.Call (.Name "isinstance" p) [e,.Name x p2] [] pos) (f1 f (isiD T)) := by
  refine PE.imp (zej zmk hg hm (by first | exact PyProof.Rows.boot_isinstance | rfl) (zbJ he (zbJ (znu (v := .ty T) hgT hmT hv rfl hn hd) zdW hs2) hs1) (by decide) (by decide) hs1 hpl) fun σ H Q ⟨r,G,si,q⟩ => ⟨r,G,si,zah (zaf q) fun d q1 v G1 H1 w1 r1 => ?_⟩
  obtain ⟨d',e',q2⟩ := zav q1
  unfold isiD at e'
  cases et : tyN d with
  | none => rw [et] at e'; cases e'
  | some t =>
    rw [et] at e'
    cases e'
    exact ⟨v,t,T,_,rfl,zoq w1.ok r1 et,hk d t et,q2 _ G1 H1 w1 (.scl (.bl _))⟩
end
theorem zec {d : D} {t : String} (h : tyN d = some t) {P : String→Prop} (h1 : P "NoneType") (h2 : P "bool") (h3 : P "int") (h4 : P "str") (h5 : P "tuple") (h6 : P "list") (h7 : P "dict") : P t := by
  cases d <;> cases h <;> assumption
theorem znS (K : PySem.W.Frag) (d : D) (t : String) (h : tyN d = some t) : PySem.W.kitOne K (.type t) (.type "int") = some (subT t "int") := zec (P := fun t => PySem.W.kitOne K (.type t) (.type "int") = some (subT t "int")) h (by kernel_rfl) (by kernel_rfl) (by kernel_rfl) (by kernel_rfl) (by kernel_rfl) (by kernel_rfl) (by kernel_rfl)
theorem zl1 (K : PySem.W.Frag) (d : D) (t : String) (h : tyN d = some t) : PySem.W.kitOne K (.type t) (.type "bool") = some (subT t "bool") := zec (P := fun t => PySem.W.kitOne K (.type t) (.type "bool") = some (subT t "bool")) h (by kernel_rfl) (by kernel_rfl) (by kernel_rfl) (by kernel_rfl) (by kernel_rfl) (by kernel_rfl) (by kernel_rfl)
theorem zl0 (K : PySem.W.Frag) (d : D) (t : String) (h : tyN d = some t) : PySem.W.kitOne K (.type t) (.type "list") = some (subT t "list") := zec (P := fun t => PySem.W.kitOne K (.type t) (.type "list") = some (subT t "list")) h (by kernel_rfl) (by kernel_rfl) (by kernel_rfl) (by kernel_rfl) (by kernel_rfl) (by kernel_rfl) (by kernel_rfl)
theorem zha (K : PySem.W.Frag) (d : D) (t : String) (h : tyN d = some t) : PySem.W.kitOne K (.type t) (.type "tuple") = some (subT t "tuple") := zec (P := fun t => PySem.W.kitOne K (.type t) (.type "tuple") = some (subT t "tuple")) h (by kernel_rfl) (by kernel_rfl) (by kernel_rfl) (by kernel_rfl) (by kernel_rfl) (by kernel_rfl) (by kernel_rfl)
section
variable {X : Cx} {g : GE} {m : List Md} {e a b : Expr} {f fa : FE} {pos p pos2 p2 : Pos} {es : List Expr} {fl : Rho → Res (List D)}
noncomputable def rngV (lo : Int) (n : Nat) : List V := (List.range n).map fun (i : Nat) => V.int (lo + (i : Int))
theorem zoJ {K : PySem.W.Frag} {G : GH} (lo : Int) (n : Nat) : RGs K G (rngV lo n) (rngD lo n) := by
  unfold rngV rngD
  induction (List.range n) with
  | nil => exact .nil
  | cons i l ih => exact .cons (.scl (.int _)) ih
theorem zc4 : ∀ {xs : List V} {us : List Value},xs.length = us.length→(∀ (j : Nat) v u,xs[j]? = some v→us[j]? = some u→L2.RelV v u)→Vals xs us
  | [],[],_,_ => .nil
  | v::xs,u::us,hl,h => .cons (h 0 v u rfl rfl) (zc4 (by simpa using hl) fun j a b e1 e2 => h (j + 1) a b (by simpa using e1) (by simpa using e2))
  | [],_::_,hl,_ => by simp at hl
  | _::_,[],hl,_ => by simp at hl
theorem zlD {lo : Int} {n : Nat} {acc : Array Value} (h : ItemsOf (fun i v => ∃ t,v = .int (lo + i * 1) t) acc n) : Vals (rngV lo n) acc.toList := by
  refine zc4 (by simp [rngV,h.1]) fun j v u e1 e2 => ?_
  have hj : j < n := by
    have := (List.getElem?_eq_some_iff.mp e1).1
    simpa [rngV] using this
  unfold rngV at e1
  rw [List.getElem?_map,List.getElem?_range hj] at e1
  cases e1
  obtain ⟨t,rfl⟩ := h.2 j u (by rw [← Array.getElem?_toList]; exact e2)
  exact ⟨t,by simp⟩
theorem zk1 : zdk X (.type "range") (fun xs H Q => ∃ j,xs = [.int j]∧∀ p,H p = none→Q (.ref p) (upd H p (.rng 0 j))) := by
  intro pins s σ H xs us Q I r h
  obtain ⟨j,rfl,q⟩ := h
  obtain ⟨u,rfl,t,rfl⟩ := zea r
  refine call_range_1 ⟨.ref s.heap.objs.size,_,I.laid (o := .rng 0 j) (fun b o e => Heap.get?_push_of_some _ e) (Nat.le_refl _) ⟨_,_,_,Heap.get?_push_size _ rfl⟩,rfl,q _ (I.hok.fresh (Nat.le_refl _))⟩
theorem zgt (hc : X.calm = true) : zdk X (.type "list") (fun xs H Q => ∃ p lo hi,xs = [.ref p]∧H p = some (.rng lo hi)∧(-(2 ^ 62)≤lo∧lo < 2 ^ 62∧-(2 ^ 62)≤hi∧hi < 2 ^ 62)∧(hi - lo).toNat≤sizeLine∧∀ l,H l = none→Q (.ref l) (upd H l (.lst (rngV lo (hi - lo).toNat)))) := by
  intro pins s σ H xs us Q I r h
  obtain ⟨p,lo,hi,rfl,hp,⟨h1,h2,h3,h4⟩,hz,q⟩ := h
  obtain ⟨u,rfl,rx⟩ := zea r
  cases rx
  obtain ⟨t,u,v,ho⟩ := (show zaZ X.prog X.w H s.heap p (.rng lo hi) from I.hok p _ hp)
  have e2 : Builtin.Range.rangeSize lo hi 1 = (((hi - lo).toNat : Nat) : Int) := by rw [rangeSize_one]; split <;> omega
  refine call_list_range (I.ok.hd hc) (r := p) (a := lo) (b := hi) (c := 1) ho (small_one h1 h2 h3 h4) e2 (by rw [sizeLine_eq] at hz; omega) fun h' tk acc c' kp hS hacc => ?_
  refine ⟨.ref s.heap.objs.size,_,I.laid (t' := tk) kp (Nat.le_refl _) (show zaZ X.prog X.w _ h' _ (.lst (rngV lo (hi - lo).toNat)) from ⟨by unfold rngV; rw [List.length_map,List.length_range]; exact hz,acc.toList,c',zlD hacc,by rw [Array.toArray_toList]; exact hS⟩),rfl,q _ (I.hok.fresh (Nat.le_refl _))⟩
noncomputable def zhQ : List D→Option D
  | [.int j] => if -(2 ^ 62)≤j∧j < 2 ^ 62∧j.toNat≤sizeLine then some (.lst (rngD 0 j.toNat)) else none
  | _ => none
theorem zpW {H : Hp} {p l : Addr} {o : HO} (h : upd H p o l = none) : H l = none∧l≠p := by
  by_cases e : l = p
  · subst e; rw [zam] at h; cases h
  · rw [zat e] at h; exact ⟨h,e⟩
theorem zhM (hc : X.calm = true) (hgl : Gl X "list") (hml : X.mg "list" = none) (hg : Gl X "range") (hm : X.mg "range" = none) (ha : SAB X g m [a] fl)
    (hs : starEach [a] X.env = (false,eval a X.env)::starEach [] X.env := by rfl)
    (hs2 : starEach [.Call (.Name "range" p2) [a] [] pos2] X.env = (false,eval (.Call (.Name "range" p2) [a] [] pos2) X.env)::starEach [] X.env := by rfl) :
    SO X g m (.Call (.Name "list" p) [.Call (.Name "range" p2) [a] [] pos2] [] pos) (fC fl zhQ) := by
  refine PE.imp (zcY (zgt hc) hgl hml rfl (zbJ (zcY zk1 hg hm boot_range ha (by decide) (by decide) hs rfl) zdW hs2) (by decide) (by decide) hs2 rfl) fun σ H Q ⟨r,G,si,q⟩ => ⟨r,G,si,zah (zaf q) fun ds q1 vs G1 H1 w1 rs => ?_⟩
  obtain ⟨d,e,q2⟩ := zav q1
  unfold zhQ at e
  split at e
  · split at e
    · rename_i j hj
      cases e
      cases rs with
      | cons r1 t =>
        cases t
        refine ⟨j,by rw [r1.int w1.ok],fun p hp => ⟨p,0,j,rfl,zam,⟨by decide,by decide,hj.1,hj.2.1⟩,by simpa using hj.2.2,fun l hl => ?_⟩⟩
        obtain ⟨hl1,hl2⟩ := zpW hl
        have w2 := Grow.new w1.ok hp (.rng 0 j)
        have w3 := Grow.new w2.ok hl (.lst (rngV 0 (j - 0).toNat))
        refine q2 l G1 _ (w1.trans (w2.trans w3)) (w1.back hl1) ⟨w1.ok.isN hl1,.lst zam ?_⟩
        rw [show j - 0 = j by omega]
        exact zoJ 0 _
    · cases e
  · cases e
end
end DL
end
section
namespace DL
open PySem PySem.Spec PyProof.Rows L2
noncomputable def MtD (K : PySem.W.Frag) (r : V→List V→Hp→VK→Prop) (k : D→List D→Option D) : Prop := ∀ (G : GH) (H : Hp) (v : V) (d : D) (vs : List V) (ds : List D) (d' : D) (Q : VK),GOk K G H→RB K G H v d→Paired (RB K G H) vs ds→k d ds = some d' →
  (∀ v' G' H',Grow K G H G' H'→RG K G' v' d'→Q v' H')→r v vs H Q
noncomputable def tyM (T : String) : D→Bool
  | .lst _ => T == "list"
  | .tup _ => T == "tuple"
  | .dic _ => T == "dict"
  | .str _ => T == "str"
  | .int _ => T == "int"
  | _ => false
theorem zop {K : PySem.W.Frag} {G : GH} {H : Hp} {v : V} {d : D} {T : String} (gk : GOk K G H) (h : RB K G H v d) (t : tyM T d = true) : tyV K T v H := by
  cases d with
  | lst ds => obtain ⟨a,xs,rfl,s,r⟩ := h.lst gk; exact .inl ⟨eq_of_beq t,xs,s⟩
  | tup ds =>
    have e : T = "tuple" := eq_of_beq t
    rcases h with h | ⟨a,rfl,o⟩
    · cases h with
      | scl s => cases s
      | ref q =>
        cases gk _ _ q with
        | tup r s => exact .inr (.inl ⟨e,.inr ⟨_,r⟩⟩)
      | kc k =>
        cases k with
        | tup r s z => exact .inr (.inl ⟨e,.inl z⟩)
    · cases o.ob
  | dic ds => obtain ⟨a,xs,rfl,s,r⟩ := h.dic gk; exact .inr (.inr (.inl ⟨eq_of_beq t,.inl ⟨xs,s⟩⟩))
  | str x => rw [h.str gk]; exact eq_of_beq t
  | int x => rw [h.int gk]; exact eq_of_beq t
  | _ => cases t
noncomputable def fM (T : String) (fo : FE) (fl : Rho→Res (List D)) (k : D→List D→Option D) : FE := fun r => (fo r).bind fun d => if tyM T d = true then (fl r).bind fun ds => opt (k d ds) else .stuck
section
variable {X : Cx} {g : GE} {m mb : List Md} {e a b o : Expr} {es : List Expr} {f fa fb fo : FE} {fl : Rho → Res (List D)} {pos pos' apos cpos : Pos} {ro : Bool} {x name : Str} {T id : String} {R : V → List V → Hp → VK → Prop} {k : D → List D → Option D}
theorem s_bm (pa : PlainAttrs T) (slot : Slot T name id) (hty : typeOf (.builtin id) = pure (.type "method_descriptor")) (hmt : MtR X id R) (hk : MtD X.K R k) (ho : SB X g m o fo) (ha : SAB X g m (e::es) fl)
    (hbase : attributeBase o name X.env (eval o X.env) = eval o X.env := by rfl)
    (hfew : ((backTo cpos (starEach (e::es) X.env)).all (fun x => !x.1) && (backToKw cpos (keywordEach [] X.env)).all (fun x => x.1.isSome) && decide ((e::es).length + ([] : List Keyword).length + (if ([] : List Keyword).isEmpty then 0 else 1) < 30)) = true := by rfl)
    (hline : (apos.endLine == cpos.line) = true := by rfl) (hst : starEach (e::es) X.env = (false,eval e X.env)::starEach es X.env := by rfl) (hplain : (backTo cpos (starEach es X.env)).any (·.1) = false := by rfl) :
    SE X g m (.Call (.Attribute o name apos) (e::es) [] cpos) (fM T fo fl k) := by
  refine PE.imp (zo5 pa slot hty hmt ho ha hbase hfew hline hst hplain) fun σ H Q ⟨r,G,si,q⟩ => ⟨r,G,si,zah (zaf q) fun d q1 v G1 H1 w1 r1 => ?_⟩
  by_cases ht : tyM T d = true
  · rw [if_pos ht] at q1
    refine ⟨zop w1.ok r1 ht,r,G1,si.grow w1,zaG (zaf q1) w1 fun ds q2 vs G2 H2 w2 rs => ?_⟩
    obtain ⟨d',e',q3⟩ := zav q2
    exact hk G2 H2 v d vs ds d' Q w2.ok (r1.mono w2) rs e' fun v' G' H' w' z => q3 v' G' H' ((w1.trans w2).trans w') z
  · rw [if_neg ht] at q1; exact q1.elim
noncomputable def zfH (x : V) : List V→Option Nat
  | [] => none
  | y::xs => if eqV y x = true then some 0 else (zfH x xs).map (· + 1)
noncomputable def zep (x : D) : List D→Option Nat
  | [] => none
  | y::xs => if eqs y x = true then some 0 else (zep x xs).map (· + 1)
theorem zgl (x : D) : ∀ ds : List D,zfH (toV x) (ds.map toV) = zep x ds
  | [] => rfl
  | y::ds => by
    show (if eqV (toV y) (toV x) = true then some 0 else (zfH (toV x) (ds.map toV)).map (· + 1)) = if eqs y x = true then some 0 else (zep x ds).map (· + 1)
    rw [zgl x ds]; rfl
theorem ze3 {x : V} : ∀ {xs : List V} {us : List Value} {j : Nat},Vals xs us→xs.all zdv = true→zfH x xs = some j→∃ hj : j < us.length,eqU x us[j] = true∧∀ i (hi : i < us.length),i < j→eqU x us[i] = false
  | _,_,_,.nil,_,h => by cases h
  | y::xs,u::us,j,.cons r t,f,h => by
    rw [List.all_cons,Bool.and_eq_true] at f
    unfold zfH at h
    by_cases hy : eqV y x = true
    · rw [if_pos hy] at h
      cases h
      exact ⟨Nat.zero_lt_succ _,by show eqU x u = true; rw [ziB r f.1]; exact hy,fun i _ hlt => absurd hlt (Nat.not_lt_zero _)⟩
    · rw [if_neg hy] at h
      cases e : zfH x xs with
      | none => rw [e] at h; cases h
      | some z =>
        rw [e] at h
        cases h
        obtain ⟨a,b,c⟩ := ze3 t f.2 e
        refine ⟨Nat.succ_lt_succ a,b,fun i hi hlt => ?_⟩
        cases i with
        | zero => show eqU x u = false; rw [ziB r f.1]; simpa using hy
        | succ i => exact c i (Nat.lt_of_succ_lt_succ hi) (Nat.lt_of_succ_lt_succ hlt)
noncomputable def zjG (K : PySem.W.Frag) : V→List V→Hp→VK→Prop := fun x vs H Q => ∃ p xs y j,x = .ref p∧vs = [y]∧SqL K H p xs∧zdv y = true∧xs.all zdv = true∧zfH y xs = some j∧Q (.int j) H
noncomputable def zjF (K : PySem.W.Frag) : V→List V→Hp→VK→Prop := fun x vs H Q => ∃ p xs y j,x = .ref p∧vs = [y]∧SqT K H p xs∧zdv y = true∧xs.all zdv = true∧zfH y xs = some j∧Q (.int j) H
theorem zj5 : MtR X "list.index" (zjG X.K) := by
  intro pins s σ H x vs v us Q I rx rv h
  obtain ⟨p,xs,y,j,rfl,rfl,hq,fy,fx,e,q⟩ := h
  cases rx
  obtain ⟨u,rfl,ru⟩ := zea rv
  obtain ⟨its,r,pl,hz⟩ := I.list hq
  obtain ⟨o,n,ho,hc,hd,hs⟩ := pl
  obtain ⟨a,b,c⟩ := ze3 r fx e
  have hl := r.length
  obtain ⟨ocls,odict,odata,oslots⟩ := o
  simp only at hc hd hs
  subst hc hd hs
  refine call_meets PySem.F.slot_list_index ⟨_,ho,rfl⟩ PySem.F.entry_list_index (PySem.F.args_list_index_2 _ _)
    (SeqAt.list_indexAt p its.toArray n none oslots u (eqU y) j (by simpa using a) (by rw [sizeLine_eq] at hz; omega) (by simpa using b) (fun i hi hlt => by simpa using c i (by simpa using hi) hlt)) ⟨ho,fun w hw => zda ru fy r fx w (by simpa using hw),⟨.int j,H,I.tok _,⟨_,rfl⟩,q⟩⟩
theorem zek : MtR X "tuple.index" (zjF X.K) := by
  intro pins s σ H x vs v us Q I rx rv h
  obtain ⟨p,xs,y,j,rfl,rfl,hq,fy,fx,e,q⟩ := h
  cases rx
  obtain ⟨u,rfl,ru⟩ := zea rv
  obtain ⟨its,r,pl,hz⟩ := I.tuple hq
  obtain ⟨o,ho,hc,n,hs⟩ := pl
  obtain ⟨a,b,c⟩ := ze3 r fx e
  have hl := r.length
  obtain ⟨ocls,odict,odata,oslots⟩ := o
  simp only at hc hs
  subst hc hs
  refine call_meets PySem.F.slot_tuple_index ⟨_,ho,rfl⟩ PySem.F.entry_tuple_index (PySem.F.args_tuple_index_2 _ _)
    (zf5 p its.toArray n odict oslots u (eqU y) j (by simpa using a) (by simpa using b) (fun i hi hlt => by simpa using c i (by simpa using hi) hlt)) ⟨ho,fun w hw => zda ru fy r fx w (by simpa using hw),⟨.int j,H,I.tok _,⟨_,rfl⟩,q⟩⟩
noncomputable def zmQ : D→List D→Option D
  | .lst ds,[x] => if zaS x = true∧ds.all zaS = true then (zep x ds).map fun j => .int j else none
  | .tup ds,[x] => if zaS x = true∧ds.all zaS = true then (zep x ds).map fun j => .int j else none
  | _,_ => none
theorem zfW {K : PySem.W.Frag} {G : GH} {H : Hp} {ds : List D} {xs : List V} {x d' : D} {v : V} (gk : GOk K G H) (rs : RGs K G xs ds) (rx : RB K G H v x) (e : (if zaS x = true∧ds.all zaS = true then (zep x ds).map fun j => D.int j else none) = some d') :
    ∃ j : Nat,d' = .int j∧zdv v = true∧xs.all zdv = true∧zfH v xs = some j := by
  by_cases hc : zaS x = true∧ds.all zaS = true
  · rw [if_pos hc] at e
    obtain ⟨e1,f1⟩ := RB.flat rx gk hc.1
    obtain ⟨e3,f3⟩ := zn1 rs gk hc.2
    cases ef : zep x ds with
    | none => rw [ef] at e; cases e
    | some j =>
      rw [ef] at e
      cases e
      exact ⟨j,rfl,f1,f3,by rw [e1,e3,zgl]; exact ef⟩
  · rw [if_neg hc] at e; cases e
noncomputable def zhT (d : D) (ds : List D) : Option D := match d with
  | .lst _ => zmQ d ds
  | _ => none
noncomputable def zey (d : D) (ds : List D) : Option D := match d with
  | .tup _ => zmQ d ds
  | _ => none
theorem zkw {K : PySem.W.Frag} : MtD K (zjG K) zhT := by
  intro G H v d vs ds d' Q gk rv rs e q
  cases d with
  | lst zs =>
    cases ds with
    | nil => cases e
    | cons x t =>
      cases t with
      | nil =>
        cases rs with
        | cons r1 rt =>
          cases rt
          obtain ⟨a,xs,rfl,s,r⟩ := rv.lst gk
          obtain ⟨j,rfl,h1,h2,h3⟩ := zfW gk r r1 e
          exact ⟨a,xs,_,j,rfl,rfl,s,h1,h2,h3,q _ G H (Grow.refl gk) (.scl (.int _))⟩
      | cons _ _ => cases e
  | _ => cases e
theorem zeo {K : PySem.W.Frag} : MtD K (zjF K) zey := by
  intro G H v d vs ds d' Q gk rv rs e q
  cases d with
  | tup zs =>
    cases ds with
    | nil => cases e
    | cons x t =>
      cases t with
      | nil =>
        cases rs with
        | cons r1 rt =>
          cases rt
          obtain ⟨a,xs,rfl,s,r⟩ := rv.tup gk
          obtain ⟨j,rfl,h1,h2,h3⟩ := zfW gk r r1 e
          exact ⟨a,xs,_,j,rfl,rfl,s,h1,h2,h3,q _ G H (Grow.refl gk) (.scl (.int _))⟩
      | cons _ _ => cases e
  | _ => cases e
noncomputable def zeO (xs : List V) : Bool := xs.all fun x => match x with | .int _ => true | _ => false
theorem zh4 {xs : List V} (h : zeO xs = true) : xs.all zdv = true := by
  unfold zeO at h
  rw [List.all_eq_true] at h ⊢
  intro x hx
  have := h x hx
  cases x <;> first | rfl | exact absurd this Bool.false_ne_true
theorem zg8 {k : Int} {t : Tok} : ∀ {xs : List V} {us : List Value},Vals xs us→zeO xs = true→∀ u∈us,MeetsSeq.EqGives u (.int k t) (eqU (.int k) u)
  | _,_,.nil,_ => fun u hu => by cases hu
  | y::xs,u::us,.cons r rt,f => fun u' hu => by
    unfold zeO at f
    rw [List.all_cons,Bool.and_eq_true] at f
    cases y with
    | int i =>
      obtain ⟨t',rfl⟩ := r
      rcases List.mem_cons.mp hu with rfl | hu
      · exact MeetsSeq.EqGives.int i k t' t
      · exact zg8 rt f.2 u' hu
    | _ => exact absurd f.1 Bool.false_ne_true
noncomputable def zoN : V→List V→Hp→VK→Prop := fun x vs H Q => ∃ l xs k j,x = .ref l∧vs = [.int k]∧H l = some (.lst xs)∧zeO xs = true∧zfH (.int k) xs = some j∧Q .non (upd H l (.lst (xs.eraseIdx j)))
theorem zfh : MtR X "list.remove" zoN := by
  intro pins s σ H x vs v us Q I rx rv h
  obtain ⟨l,xs,k,j,rfl,rfl,hH,hi,e,q⟩ := h
  cases rx
  obtain ⟨u,rfl,t,rfl⟩ := zea rv
  obtain ⟨hz,its,n,r,hl,eo⟩ := I.lstM hH
  obtain ⟨a,b,c⟩ := ze3 r (zh4 hi) e
  have geq : ∀ y,y∈its.toArray→MeetsSeq.EqGives y (.int k t) (eqU (.int k) y) := fun y hy => zg8 r hi y (by simpa using hy)
  have hsz : its.toArray.size≤sizeLine := by rw [List.size_toArray]; omega
  refine call_meets PySem.F.slot_list_remove ⟨_,eo,rfl⟩ PySem.F.entry_list_remove (PySem.F.args_list_remove_2 _ _) (MeetsSeq.list_remove l its.toArray n (.int k t) (eqU (.int k)) geq j (by simpa using a) (by simpa using b) (fun i hi hlt => by simpa using c i (by simpa using hi) hlt) hsz) ⟨eo,?_⟩
  refine ⟨.non,_,I.lset (its' := its.eraseIdx j) hH eo ?_ ?_ ?_,rfl,q⟩
  · apply Array.toList_inj.mp
    simp [Array.toList_eraseIdxIfInBounds]
  · exact Vals.eraseIdx j r
  · have := List.length_eraseIdx_le xs j
    omega
noncomputable def isInt : D→Bool
  | .int _ => true
  | _ => false
theorem zmP {K : PySem.W.Frag} {G : GH} {H : Hp} : ∀ {xs : List V} {ds : List D},RGs K G xs ds→GOk K G H→ds.all isInt = true→zeO xs = true∧xs = ds.map toV
  | _,_,.nil,_,_ => ⟨rfl,rfl⟩
  | _,d::ds,.cons r t,gk,hf => by
    rw [List.all_cons,Bool.and_eq_true] at hf
    obtain ⟨h1,h2⟩ := zmP t gk hf.2
    cases d with
    | int i =>
      have e := r.int gk
      subst e
      refine ⟨?_,by rw [List.map_cons,← h2]; rfl⟩
      show zeO _ = true
      unfold zeO at h1 ⊢
      rw [List.all_cons,h1]; rfl
    | _ => exact absurd hf.1 Bool.false_ne_true
noncomputable def remD : D→List D→Option D
  | .lst ds,[.int k] => if ds.all isInt = true then (zep (.int k) ds).map fun j => .lst (ds.eraseIdx j) else none
  | _,_ => none
theorem zjC {K : PySem.W.Frag} : MutD K zoN remD := by
  intro G H a d vs ds d' Q gk ow rs e q
  unfold remD at e
  split at e
  · split at e
    · rename_i zs k hall
      cases ef : zep (.int k) zs with
      | none => rw [ef] at e; cases e
      | some j =>
        rw [ef] at e
        cases e
        cases ow.ob with
        | lst r s =>
          cases rs with
          | cons r1 t =>
            cases t
            obtain ⟨h1,h2⟩ := zmP s gk hall
            refine ⟨a,_,k,j,rfl,by rw [r1.int gk],r,h1,?_,q _ (.lst zam (Paired.er j s))⟩
            rw [h2]
            exact (zgl (.int k) zs).trans ef
    · cases e
  · cases e
noncomputable def zqi : D→Option D
  | .dic kvs => some (.lst (kvs.map (·.2)))
  | _ => none
end
end DL
end
section
namespace DL
open PySem PySem.Spec PyProof.Rows L2
noncomputable def enuD : Nat→List D→List D
  | _,[] => []
  | i,d::ds => .tup [.int i,d]::enuD (i + 1) ds
theorem zgq : ∀ (i : Nat) (ds : List D),(enuD i ds).length = ds.length
  | _,[] => rfl
  | i,d::ds => congrArg (· + 1) (zgq (i + 1) ds)
theorem ziD : ∀ (i j : Nat) (ds : List D),(enuD i ds)[j]? = (ds[j]?).map fun d => D.tup [.int ((i + j : Nat) : Int),d]
  | _,_,[] => by simp [enuD]
  | i,0,d::ds => by simp [enuD]
  | i,j + 1,d::ds => by
    show (enuD (i + 1) ds)[j]? = _
    rw [ziD (i + 1) j ds]
    simp only [List.getElem?_cons_succ]
    rw [show i + 1 + j = i + (j + 1) by omega]
theorem zjn {K : PySem.W.Frag} {ds : List D} {G0 : GH} {sq : Hp→List V→Prop} (h : ∀ G H,Gle G0 G→GOk K G H→∃ xs,sq H xs∧RGs K G xs ds) : Yields K (Ien sq) (enuD 0 ds) G0 := by
  refine ⟨fun G H i w gk hi => ?_,fun G H i x H' d w gk y e => ?_,fun G H w gk => ?_⟩
  · obtain ⟨xs,s,r⟩ := h G H w gk
    rw [zgq] at hi
    have hl := Paired.length r
    exact ⟨xs,xs[i],s,List.getElem?_eq_getElem (by omega)⟩
  · obtain ⟨xs,s,r⟩ := h G H w gk
    obtain ⟨p,v,hp,rfl,rfl,hv⟩ := y
    rw [ziD] at e
    cases ed : ds[i]? with
    | none => rw [ed] at e; cases e
    | some d0 =>
      rw [ed] at e
      simp only [Option.map_some,Option.some.injEq,Nat.zero_add] at e
      subst e
      obtain ⟨v',e1,rv⟩ := Paired.get r ed
      have := hv xs s
      rw [e1] at this; cases this
      exact ⟨_,Grow.newF gk hp (.tup (.inl zam) (.cons (.scl (.int _)) (.cons rv .nil))),.ref za9⟩
  · obtain ⟨xs,s,r⟩ := h G H w gk
    rw [zgq]
    exact ⟨xs,s,Paired.length r⟩
noncomputable def fEnu (f : FE) : FI := fun r => (f r).bind fun d => (opt (zbm d)).bind fun ds => .ok (enuD 0 ds)
section
variable {X : Cx} {g : GE} {m : List Md} {e a : Expr} {f : FE} {pos p pos2 : Pos} {elts : List Expr} {kk : Nat}
theorem znp {te : TE} (hg : Gl X "enumerate") (hm : X.mg "enumerate" = none) (he : PE X e te) (hs : starEach [e] X.env = (false,eval e X.env)::starEach [] X.env := by rfl) : PI X (.Tuple elts kk pos2) (.Call (.Name "enumerate" p) [e] [] pos) (fun σ H R => te σ H fun x H1 =>
      (∃ a,x = .ref a∧(∃ xs,SqL X.K H1 a xs)∧R (Ien fun H xs => SqL X.K H a xs) H1)∨∃ a,x = .ref a∧(∃ xs,SqT X.K H1 a xs)∧R (Ien fun H xs => SqT X.K H a xs) H1) := by
  intro pins s σ H R I h
  refine Call_ (zfU I hg hm boot_enumerate (PyProof.Rows.callWith_type1 (thn (zbJ he zdW hs pos pins s σ H (fun vs H1 => match vs with
    | [x] => (∃ a,x = .ref a∧(∃ xs,SqL X.K H1 a xs)∧R (Ien fun H xs => SqL X.K H a xs) H1)∨∃ a,x = .ref a∧(∃ xs,SqT X.K H1 a xs)∧R (Ien fun H xs => SqT X.K H a xs) H1
    | _ => False) I h) fun us s1 ⟨vs,H1,I1,r1,q1⟩ => ?_) hs rfl))
  · cases r1 with
    | nil => exact q1.elim
    | @cons x u xs us rx rt =>
    cases rt with
    | cons _ _ => exact q1.elim
    | nil =>
    have fin : ∀ {h' : Heap},h'.objs.size = s1.heap.objs.size + 2→(∀ b o,s1.heap.get? b = some o→h'.get? b = some o)→∀ b∈[s1.heap.objs.size + 1,s1.heap.objs.size],FpOk X pins H1 b := fun hz kp b hb => by
      have hge : s1.heap.objs.size≤b := by
        rcases List.mem_cons.mp hb with rfl | hb
        · exact Nat.le_succ _
        · rw [List.mem_singleton.mp hb]; exact Nat.le_refl _
      exact I1.fpOk hge (I1.hok.fresh hge)
    rcases q1 with ⟨a,rfl,⟨xs,hq⟩,q⟩ | ⟨a,rfl,⟨xs,hq⟩,q⟩
    · cases rx
      obtain ⟨its,rv,pl,hz⟩ := I1.list hq
      refine call_enumerate_list pl.isList fun h' he hi hsz kp => wpAny_pyIter_enum he ?_
      exact ⟨_,[s1.heap.objs.size + 1,s1.heap.objs.size],_,_,H1,rfl,I1.kept (t' := s1.toks) kp,ziR a _ _ (Nat.ne_of_gt (Nat.lt_succ_self _)),⟨⟨_,he⟩,hi⟩,fin hsz kp,q⟩
    · cases rx
      obtain ⟨its,rv,pl,hz⟩ := I1.tuple hq
      refine zft (show s1.heap.IsTuple a its.toArray from pl) fun h' he hi hsz kp => wpAny_pyIter_enum he ?_
      exact ⟨_,[s1.heap.objs.size + 1,s1.heap.objs.size],_,_,H1,rfl,I1.kept (t' := s1.toks) kp,ziQ a _ _ (Nat.ne_of_gt (Nat.lt_succ_self _)),⟨⟨_,he⟩,hi⟩,fin hsz kp,q⟩
theorem zmS (hg : Gl X "enumerate") (hm : X.mg "enumerate" = none) (he : SE X g m e f) (hs : starEach [e] X.env = (false,eval e X.env)::starEach [] X.env := by rfl) : SIt X g m (.Tuple elts kk pos2) (.Call (.Name "enumerate" p) [e] [] pos) (fEnu f) := by
  refine PI.imp (znp hg hm he hs) fun σ H R ⟨r,G,si,q⟩ => ⟨r,G,si,zah (zaf q) fun d q v G' H' w rv => ?_⟩
  obtain ⟨ds,e,q⟩ := zav (zaf q)
  cases d with
  | lst ds' =>
    cases e
    obtain ⟨a,xs,rfl,s,rs⟩ := rv.lst w.ok
    refine .inl ⟨a,rfl,⟨xs,s⟩,q _ G' H' w (zjn fun G H le gk => ?_)⟩
    obtain ⟨b,ys,e,s',r'⟩ := (rv.mono le).lst gk
    cases e
    exact ⟨ys,s',r'⟩
  | tup ds' =>
    cases e
    obtain ⟨a,xs,rfl,s,rs⟩ := rv.tup w.ok
    refine .inr ⟨a,rfl,⟨xs,s⟩,q _ G' H' w (zjn fun G H le gk => ?_)⟩
    obtain ⟨b,ys,e,s',r'⟩ := (rv.mono le).tup gk
    cases e
    exact ⟨ys,s',r'⟩
  | _ => cases e
end
end DL
end
section
namespace DL
open PySem PySem.Spec PyProof.Rows L2
inductive TupI (h : Heap) : Value→List Int→Prop where
  | mk {a : Addr} {items : Array Value} {ns : List Int} : IsTup h a items→IntsAre items.toList ns→TupI h (.ref a) ns
inductive TupsI (h : Heap) : List Value→List (List Int)→Prop where
  | nil : TupsI h [] []
  | cons {p : Value} {k : List Int} {ps : List Value} {ks : List (List Int)} : TupI h p k→TupsI h ps ks→TupsI h (p::ps) (k::ks)
theorem TupsI.length {h : Heap} : ∀ {ps : List Value} {ks : List (List Int)},TupsI h ps ks→ps.length = ks.length
  | _,_,.nil => rfl
  | _,_,.cons _ t => congrArg (· + 1) t.length
section
variable {prog : Program} {w : World} {A : Around} {s : Shared}
inductive TupR (h : Heap) : Value→List (List Int)→Prop where
  | mk {a : Addr} {items : List Value} {ks : List (List Int)} : IsTup h a items.toArray→TupsI h items ks→ks≠[]→TupR h (.ref a) ks
end
end DL
end
section
namespace DL
open PySem PySem.Spec PyProof.Rows L2
noncomputable def zcv (ns : List Int) : List Int := ns.foldl step_dedup []
theorem zhW (ns : List Int) : firstMet (fun i => ns.getD i 0) ns.length = zcv ns := by
  unfold firstMet zcv
  congr 1
  refine List.ext_getElem (by simp) fun i h1 h2 => ?_
  simp [List.getD_eq_getElem?_getD,h2]
noncomputable def zc0 : List D→Option (List Int)
  | [] => some []
  | .int i::ds => (zc0 ds).map (i::·)
  | _ => none
theorem zgw {K : PySem.W.Frag} {G : GH} {H : Hp} (gk : GOk K G H) : ∀ {ds : List D} {xs : List V} {ns : List Int},RGs K G xs ds→zc0 ds = some ns→xs = ns.map V.int
  | [],_,_,.nil,e => by cases e; rfl
  | d::ds,_,ns,.cons r t,e => by
    cases d with
    | int i =>
      have e' : (zc0 ds).map (i::·) = some ns := e
      cases q : zc0 ds with
      | none => rw [q] at e'; cases e'
      | some ms =>
        rw [q] at e'
        cases e'
        have h1 := r.int gk
        have h2 := zgw gk t q
        rw [h1,h2]; rfl
    | _ => cases e
section
variable {X : Cx} {g : GE} {m : List Md} {e a : Expr} {f : FE} {pos p pos2 p2 : Pos}
theorem zk0 (hc : X.calm = true) : zdk X (.type "set") (fun xs H Q => ∃ p ns,xs = [.ref p]∧(SqL X.K H p (ns.map V.int)∨SqT X.K H p (ns.map V.int))∧ns.length + 1 < scanBound∧∀ l,H l = none→Q (.ref l) (upd H l (.set (fun k => (zcv ns).any (· == k)) (zcv ns).length))) := by
  intro pins s σ H xs us Q I r h
  obtain ⟨p,ns,rfl,hq,hb,q⟩ := h
  obtain ⟨u,rfl,rx⟩ := zea r
  cases rx
  have fin : ∀ (its : List Value) (h' : Heap) (tk : Nat),its.length = ns.length→h'.SetOf (intKind X.prog X.w) s.heap.objs.size (fun k => (firstMet (fun i => ns.getD i 0) its.toArray.size).any (· == k)) (firstMet (fun i => ns.getD i 0) its.toArray.size).length →
      (∀ b o,b < s.heap.objs.size→s.heap.get? b = some o→h'.get? b = some o)→EP X pins σ Q (.ref s.heap.objs.size) { s with heap := h',toks := tk } := fun its h' tk hl hS kp => by
    rw [show its.toArray.size = ns.length by rw [List.size_toArray]; exact hl,zhW] at hS
    exact ⟨.ref s.heap.objs.size,_,I.laid (t' := tk) (fun b o e => kp b o (Heap.lt_size e) e) (Nat.le_refl _) (show zaZ X.prog X.w _ h' _ (.set _ _) from hS),rfl,q _ (I.hok.fresh (Nat.le_refl _))⟩
  rcases hq with hq | hq
  · obtain ⟨its,r',pl,hz⟩ := I.list hq
    have hl := r'.length
    rw [List.length_map] at hl
    exact call_set_list (I.ok.hd hc) pl.isList (by simpa using zex r') (by rw [List.size_toArray]; omega) fun h' tk hS kp => fin its h' tk hl.symm hS kp
  · obtain ⟨its,r',pl,hz⟩ := I.tuple hq
    have hl := r'.length
    rw [List.length_map] at hl
    exact zhp (I.ok.hd hc) (show s.heap.IsTuple p its.toArray from pl) (by simpa using zex r') (by rw [List.size_toArray]; omega) fun h' tk he => fin its h' tk hl.symm he.1 he.2
theorem zk2 : zdk X (.builtin "len") (fun xs H Q => ∃ p S n,xs = [.ref p]∧H p = some (.set S n)∧Q (.int n) H) := by
  intro pins s σ H xs us Q I r h
  obtain ⟨p,S,n,rfl,hp,q⟩ := h
  obtain ⟨u,rfl,rx⟩ := zea r
  cases rx
  obtain ⟨o,es,ep,t,ho,hex,hd,_,_,hb,hf,hn⟩ := (show zaZ X.prog X.w H s.heap p (.set S n) from I.hok p _ hp)
  refine call_len_set ho hex hd hf ?_ ⟨.int n,H,I.tok _,⟨_,by rw [hn]⟩,q⟩
  have h4 : (es.size : Int) < 4096 := by unfold scanBound at hb; omega
  exact Int.lt_of_lt_of_le h4 (by decide)
noncomputable def zm7 : D→Option D
  | .lst ds => (zc0 ds).bind fun ns => if ns.length + 1 < scanBound then some (.int (zcv ns).length) else none
  | .tup ds => (zc0 ds).bind fun ns => if ns.length + 1 < scanBound then some (.int (zcv ns).length) else none
  | _ => none
theorem zlw (hc : X.calm = true) (hg : Gl X "len") (hm : X.mg "len" = none) (hgs : Gl X "set") (hms : X.mg "set" = none) (ha : SB X g m a f)
    (hs : starEach [a] X.env = (false,eval a X.env)::starEach [] X.env := by rfl)
    (hs2 : starEach [.Call (.Name "set" p2) [a] [] pos2] X.env = (false,eval (.Call (.Name "set" p2) [a] [] pos2) X.env)::starEach [] X.env := by rfl) :
    SE X g m (.Call (.Name "len" p) [.Call (.Name "set" p2) [a] [] pos2] [] pos) (f1 f zm7) := by
  refine PE.imp (zej zk2 hg hm PySem.boot_len (zbJ (zcY (zk0 hc) hgs hms (by first | exact PyProof.Rows.boot_set | rfl) (zbJ ha zdW hs) (by decide) (by decide) hs rfl) zdW hs2) (by decide) (by decide) hs2 rfl) fun σ H Q ⟨r,G,si,q⟩ => ⟨r,G,si,zah (zaf q) fun d q1 v G1 H1 w1 r1 => ?_⟩
  obtain ⟨d',e,q2⟩ := zav q1
  have core : ∀ {ds : List D} {xs : List V} {b : Addr},RGs X.K G1 xs ds→v = .ref b→(SqL X.K H1 b xs∨SqT X.K H1 b xs)→(zc0 ds).bind (fun ns => if ns.length + 1 < scanBound then some (D.int (zcv ns).length) else none) = some d' →
      ∃ p ns,[v] = [V.ref p]∧(SqL X.K H1 p (ns.map V.int)∨SqT X.K H1 p (ns.map V.int))∧ns.length + 1 < scanBound∧∀ l,H1 l = none→∃ p S n,[V.ref l] = [V.ref p]∧upd H1 l (.set (fun k => (zcv ns).any (· == k)) (zcv ns).length) p = some (.set S n)∧Q (.int n) (upd H1 l (.set (fun k => (zcv ns).any (· == k)) (zcv ns).length)) := fun {ds xs b} rs ev hs he => by
    cases ea : zc0 ds with
    | none => rw [ea] at he; cases he
    | some ns =>
      rw [ea] at he
      have he' : (if ns.length + 1 < scanBound then some (D.int (zcv ns).length) else none) = some d' := he
      by_cases hl : ns.length + 1 < scanBound
      · rw [if_pos hl] at he'
        cases he'
        have ex := zgw w1.ok rs ea
        subst ex
        exact ⟨b,ns,by rw [ev],hs,hl,fun l hl' => ⟨l,_,_,rfl,zam,q2 _ G1 _ (w1.trans (Grow.new w1.ok hl' _)) (.scl (.int _))⟩⟩
      · rw [if_neg hl] at he'; cases he'
  cases d with
  | lst ds => obtain ⟨b,xs,ev,hs,rs⟩ := r1.lst w1.ok; exact core rs ev (.inl hs) e
  | tup ds => obtain ⟨b,xs,ev,hs,rs⟩ := r1.tup w1.ok; exact core rs ev (.inr hs) e
  | _ => cases e
end
end DL
end
section
namespace DL
open PySem PySem.Spec PyProof.Rows L2
theorem zaZ.isS {P : Program} {w : World} {H : Hp} {h : Heap} {a : Addr} {o : HO} (x : zaZ P w H h a o) : h.get? a≠none := by
  have s : ∀ {u : Obj},h.get? a = some u→h.get? a≠none := fun e z => by rw [z] at e; cases e
  cases o with
  | lst xs => obtain ⟨_,_,_,_,e⟩ := x; exact s e
  | tup xs => obtain ⟨_,_,_,⟨_,e,_⟩,_⟩ := x; exact s e
  | dK kvs => obtain ⟨_,_,_,_,o,_,_,e,_⟩ := x; exact s e
  | dT kvs => obtain ⟨_,_,_,_,o,_,_,e,_⟩ := x; exact s e
  | set S n => obtain ⟨o,_,_,_,e,_⟩ := x; exact s e
  | ins C dx fs => obtain ⟨_,_,_,e,_⟩ := x; exact s e
  | own y => obtain ⟨_,e⟩ := x; exact s e
  | xd fs => obtain ⟨_,⟨_,_,_,e,_⟩,_⟩ := x; exact s e
  | rng lo hi => obtain ⟨_,_,_,e⟩ := x; exact s e
  | frz ob u => obtain ⟨e,_⟩ := x; exact s e
  | tbl ps => exact s (show h.get? a = some _ from x)
  | met f y => exact s (show h.get? a = some _ from x)
  | ext φ => obtain ⟨_,⟨_,e⟩,_⟩ := x; exact s e
section
variable {X : Cx} {pins : List (Addr × Obj)} {σ : L2.St} {H : Hp} {s : Shared}
theorem zgD {ys : List V} {us : List Value} (r : Vals ys us) : ∀ (ix : List Nat),(∀ i∈ix,i < ys.length)→Vals (ix.map fun i => ys.getD i .non) (ix.map fun i => us.getD i Value.none)
  | [],_ => .nil
  | i::ix,h => by
    refine .cons ?_ (zgD r ix fun j hj => h j (List.mem_cons_of_mem _ hj))
    have hi := h i List.mem_cons_self
    obtain ⟨u,h1,h2⟩ := r.get (i := i) (x := ys[i]) (List.getElem?_eq_getElem hi)
    have e1 : ys.getD i .non = ys[i] := by simp [List.getD_eq_getElem?_getD,hi]
    have e2 : us.getD i Value.none = u := by rw [List.getD_eq_getElem?_getD,h1]; rfl
    show L2.RelV (ys.getD i .non) (us.getD i Value.none)
    rw [e1,e2]; exact h2
theorem Inv.laidN {D : Addr} {ys : List V} {its : List Value} {c : Nat} {h' : Heap} (I : Inv X pins σ H s) (hD : s.heap.get? D = none) (hDL : D≠X.env.locals) (k : ∀ b o,b≠X.env.locals→s.heap.get? b = some o→h'.get? b = some o)
    (hns : ∀ m,s.heap.Ns X.env.locals m→h'.Ns X.env.locals m) (ho : h'.get? D = some { cls := .type "list",data := .seq its.toArray c }) (rv : Vals ys its) (hz : ys.length≤sizeLine) (t' : Nat) :
    Inv X pins σ (upd H D (.lst ys)) { s with heap := h',toks := t' } := by
  have hHD : H D = none := by
    cases q : H D with
    | none => rfl
    | some u =>
      exact absurd hD (zaZ.isS (I.hok D u q))
  have neD : ∀ b o,s.heap.get? b = some o→b≠D := fun b o e z => by rw [z,hD] at e; cases e
  have keepU : ∀ b u,H b = some u→upd H D (.lst ys) b = some u := fun b u e => by rw [zat (zbw e hHD)]; exact e
  have trkL : ∀ b u,H b = some u→b≠X.env.locals := fun b u e z => by rw [z,I.free] at e; cases e
  refine I.step (g' := s.gens) (d' := s.drawn) (ch := []) (fun b hb => absurd hb (by simp)) (fun b ob hL _ _ e _ => k b ob hL e) (fun b ob hL _ _ e _ => ⟨ob.slots,k b ob hL e⟩) (fun b ob _ e n => by rw [zat (neD b ob e)]; exact n)
    (fun b ob _ e => ?_) (fun b xs e => keepU b _ e) (fun b ob u e => keepU b _ e) (fun b ps e => ⟨#[],by rw [keepU b _ e]; simp⟩) hns (fun b u e => ?_) I.bare
  · by_cases hb : b = X.env.locals
    · subst hb
      obtain ⟨m,hn,_⟩ := I.loc
      obtain ⟨o,_,_,ho',_⟩ := hns m hn
      exact ⟨o,ho'⟩
    · exact ⟨ob,k b ob hb e⟩
  · by_cases hb : b = D
    · subst hb
      rw [zam] at e
      cases e
      exact ⟨hz,its,c,rv,ho⟩
    · rw [zat hb] at e
      refine (I.hok b u e).stay (fun cc v hc q => k cc v ?_ q) (fun cc q => keepU cc _ q) fun cc xs q => keepU cc _ q
      rcases hc with z | z
      · rw [z]; exact trkL b u e
      · exact trkL cc _ z
theorem znJ {h : Heap} {L : Addr} {m m' : Str→Option Value} (a : h.Ns L m) (b : h.Ns L m') : m = m' := by
  obtain ⟨o,es,ep,e,d,_,f⟩ := a
  obtain ⟨o',es',ep',e',d',_,f'⟩ := b
  rw [e] at e'; cases e'
  rw [d] at d'; cases d'
  funext x
  rw [← f,← f']
theorem ze9 {n : Nat} {c : Nat→Nat→Bool} {i : Nat} (h : i∈zfA n c) : i < n := List.mem_range.mp ((zet n c).mem_iff.mp h)
end
end DL
end
section
namespace DL
open PySem PySem.Spec PyProof.Rows L2
section
variable {K : PySem.W.Frag} {G : GH} {H : Hp}
theorem zim {xs : List V} {ds : List D} (r : RGs K G xs ds) : ∀ (ix : List Nat),(∀ i∈ix,i < ds.length)→RGs K G (ix.map fun i => xs.getD i .non) (ix.map fun i => ds.getD i .non)
  | [],_ => .nil
  | i::ix,h => by
    refine .cons ?_ (zim r ix fun j hj => h j (List.mem_cons_of_mem _ hj))
    have hi := h i List.mem_cons_self
    obtain ⟨u,h1,h2⟩ := Paired.get r (List.getElem?_eq_getElem hi)
    show RG K G (xs.getD i .non) (ds.getD i .non)
    rw [List.getD_eq_getElem?_getD,h1,List.getD_eq_getElem?_getD,List.getElem?_eq_getElem hi]
    exact h2
end
section
variable {X : Cx} {g : GE} {m : List Md} {a : Expr} {fl : Rho → Res (List D)} {pos p : Pos} {k : Nat}
end
end DL
end
section
namespace DL
open PySem PyProof.Rows PySem.SeqAt PySem.MeetsSeq PySem.MeetsSeq2 PySem.MeetsSeq3 L2
open PySem.AutoSeq1 (wpAny_loadPart')
theorem zhl {α : Type} {xs : List α} {i : Nat} {y : α} {ys : List α} (h : xs.drop i = y::ys) : xs[i]? = some y∧xs.drop (i + 1) = ys∧i < xs.length := by
  have h1 : xs[i]? = some y := by
    have := congrArg (fun l => l[0]?) h
    simpa using this
  refine ⟨h1,?_,(List.getElem?_eq_some_iff.mp h1).1⟩
  have := congrArg List.tail h
  simpa using this
theorem znL (l b : Addr) (items items2 : Array Value) (n n2 : Nat) (dd dd2 : Option Addr) (sl sl2 : Array (Option Value)) : ∀ (ns ms : List Int) (i : Nat),i≤items.size→i≤items2.size→IntsAre (items.toList.drop i) ns→IntsAre (items2.toList.drop i) ms →
    Meets (Builtin.«list.__eq__.loop» ⟨[.ref l,.ref b,rawInt (i : Nat),rawInt 0],[]⟩)
      (fun _ R s => s.heap.get? l = some { cls := .type "list",dict := dd,data := .seq items n,slots := sl }∧s.heap.get? b = some { cls := .type "list",dict := dd2,data := .seq items2 n2,slots := sl2 } ∧
        R (.ok (.ret (.bool (HT.lexLt ns ms)))) s) := by
  intro ns
  induction ns with
  | nil =>
    intro ms i h1 h2 hi hj
    refine .of_wp fun prog w A R s h => ?_
    obtain ⟨hp,g,d,tk,os⟩ := s; obtain ⟨hl,hb,h⟩ := h
    have l1 := hi.length
    have l2 := hj.length
    simp at l1 l2
    have e1 : items[(i : Int).toNat]? = none := by rw [Int.toNat_natCast,Array.getElem?_eq_none]; omega
    have hv : HT.lexLt [] ms = decide (items.size < items2.size) := by
      cases ms with
      | nil => simp at l2; rw [HT.lexLt_nil_nil]; exact (decide_eq_false (by omega)).symm
      | cons c ms => simp at l2; rw [HT.lexLt_nil_cons]; exact (decide_eq_true (by omega)).symm
    rw [hv] at h
    wp_walk using wpAny_loadPart' hl,wpAny_loadPart' hb
    rw [e1]
    wp_walk using wpAny_loadPart' hl,wpAny_loadPart' hb
    exact ⟨_,rfl,h⟩
  | cons a ns ih =>
    intro ms i h1 h2 hi hj
    generalize hdi : items.toList.drop i = di at hi
    cases hi with
    | cons a t hi =>
      obtain ⟨i1,i2,i3⟩ := zhl hdi
      have i1' : items[(i : Int).toNat]? = some (.int a t) := by rw [Int.toNat_natCast]; simpa using i1
      cases ms with
      | nil =>
        refine .of_wp fun prog w A R s h => ?_
        obtain ⟨hp,g,d,tk,os⟩ := s; obtain ⟨hl,hb,h⟩ := h
        have l2 := hj.length
        simp at l2
        have e1 : items2[(i : Int).toNat]? = none := by rw [Int.toNat_natCast,Array.getElem?_eq_none]; omega
        have hv : HT.lexLt (a::ns) [] = decide (items.size < items2.size) := by
          rw [HT.lexLt_cons_nil]; exact (decide_eq_false (by omega)).symm
        rw [hv] at h
        wp_walk using wpAny_loadPart' hl,wpAny_loadPart' hb
        rw [e1,i1']
        wp_walk using wpAny_loadPart' hl,wpAny_loadPart' hb
        exact ⟨_,rfl,h⟩
      | cons c ms =>
        generalize hdj : items2.toList.drop i = dj at hj
        cases hj with
        | cons c u hj =>
          obtain ⟨j1,j2,j3⟩ := zhl hdj
          have j1' : items2[(i : Int).toNat]? = some (.int c u) := by rw [Int.toNat_natCast]; simpa using j1
          intro prog w A R s h
          obtain ⟨hp,g,d,tk,os⟩ := s; obtain ⟨hl,hb,h⟩ := h
          rw [HT.lexLt_cons] at h
          wp_walk using wpAny_loadPart' hl,wpAny_loadPart' hb
          rw [i1',j1']
          obtain ⟨e,he,hiff⟩ := HT.eqAt_int A.in1 ⟨hp,g,d,tk,os⟩ a t c u
          refine wpAny_bind (he prog w _ _ ?_)
          cases e with
          | true =>
            rw [if_pos (hiff.mp rfl)] at h
            rw [← i2] at hi
            rw [← j2] at hj
            have M := ih ms (i + 1) (by simp at i3; omega) (by simp at j3; omega) hi hj
            have e : ((i + 1 : Nat) : Int) = (i : Int) + 1 := rfl
            rw [e] at M
            exact (meets_again rfl (by decide +kernel) entry_eq_loop M) prog w A R _ ⟨hl,hb,h⟩
          | false =>
            rw [if_neg (fun q => absurd (hiff.mpr q) Bool.false_ne_true)] at h
            have hri := HT.rcLt_int A.in1 ⟨hp,g,d,tk,os⟩ a t c u prog w
            wp_walk using wpAny_loadPart' hl,wpAny_loadPart' hb
            rw [i1',j1']
            wp_walk using hri
            exact h
theorem zg9 (l b : Addr) (items items2 : Array Value) (n n2 : Nat) (dd dd2 : Option Addr) (sl sl2 : Array (Option Value)) (ns ms : List Int) (hi : IntsAre items.toList ns) (hj : IntsAre items2.toList ms) :
    Meets (Builtin.«list.__lt__» ⟨[.ref l,.ref b],[]⟩)
      (fun _ R s => s.heap.get? l = some { cls := .type "list",dict := dd,data := .seq items n,slots := sl }∧s.heap.get? b = some { cls := .type "list",dict := dd2,data := .seq items2 n2,slots := sl2 } ∧
        R (.ok (.ret (.bool (HT.lexLt ns ms)))) s) := by
  intro prog w A R s h
  obtain ⟨hp,g,d,tk,os⟩ := s; obtain ⟨hl,hb,h⟩ := h
  have f2 := AutoSeq1.sub_list_list
  have M := znL l b items items2 n n2 dd dd2 sl sl2 ns ms 0 (Nat.zero_le _) (Nat.zero_le _) (by simpa using hi) (by simpa using hj)
  have hag := (meets_again (t := again (Code.builtin "list.__eq__.loop" ⟨[.ref l,.ref b,rawInt 0,rawInt 0],[]⟩)) rfl (by decide +kernel) entry_eq_loop M) prog w A R ⟨hp,g,d,tk,os⟩ ⟨hl,hb,h⟩
  have e : Builtin.«list.__lt__» ⟨[.ref l,.ref b],[]⟩ = (do
      let t ← isInstance (.ref b) (.type "list")
      if (!t) = true then ret Value.notImplemented else again (Code.builtin "list.__eq__.loop" ⟨[.ref l,.ref b,rawInt 0,rawInt 0],[]⟩)) := by
    first | rfl | kernel_rfl
  rw [e]
  have key : ∀ (Q : Bool→Shared→Prop) (E : Value→Shared→Prop),Q true ⟨hp,g,d,tk,os⟩→wpAny (model prog w) A.in1 (isInstance (.ref b) (.type "list")) Q E ⟨hp,g,d,tk,os⟩ := by
    intro Q E hQ
    wp_walk using wpAny_loadPart' hb
    exact hQ
  exact wpAny_bind (key _ _ hag)
end DL
end
section
namespace DL
open PySem PyProof.Rows L2
section
variable {prog : Program} {w : World} {A : Around} {E : Value → Shared → Prop} {s : Shared}
noncomputable def LisI (h : Heap) (u : Value) (ns : List Int) : Prop := ∃ a its,u = .ref a∧h.IsList a its∧IntsAre its.toList ns
theorem zpq {p q : Value} {ns ms : List Int} {Q : Bool→Shared→Prop} (hp : LisI s.heap p ns) (hq : LisI s.heap q ms) (hu : A.units < cLine) (h : Q (HT.lexLt ns ms) s) : wpAny (model prog w) A (keyLt' oneType' p q) Q E s := by
  obtain ⟨a,its,rfl,⟨⟨c1,d1,x1,s1⟩,o1,e1,n1,f1⟩,i1⟩ := hp
  obtain ⟨b,its2,rfl,⟨⟨c2,d2,x2,s2⟩,o2,e2,n2,f2⟩,i2⟩ := hq
  simp only at e1 f1 e2 f2
  subst e1 f1 e2 f2
  rw [keyLt'_oneType,oneLt'_eq]
  refine wpAny_bind (wpAny_cRoomFor hu (wpAny_bind (wpAny_callSpecialIfBound?_slot (T := "list") (id := "list.__lt__") ⟨_,o1,rfl⟩ PySem.F.slot_list_lt ?_)))
  refine call_meets PySem.F.slot_list_lt ⟨_,o1,rfl⟩ PySem.F.entry_list_lt (PySem.F.args_list_lt_2 _ _) (zg9 a b its its2 n1 n2 d1 d2 s1 s2 ns ms i1 i2) ⟨o1,o2,?_⟩
  show wpAny (model prog w) A (truthOfDropped (.bool (HT.lexLt ns ms))) Q E s
  exact wpAny_pure h
theorem LisI.looks {M : Model} {h : Heap} {u : Value} {ns : List Int} (x : LisI h u ns) : PySem.W.Looks M h (typeOf u) (.type "list") := by
  obtain ⟨a,its,rfl,⟨o,o1,e1,n1,f1⟩,_⟩ := x
  rw [← e1]
  exact (PySem.W.Looks.ld o1).andThen .now
theorem zkC {M : Model} {A : Around} {E : Value→Shared→Prop} {u : Value} {ns : List Int} {Q : Option Value→Shared→Prop} (h : LisI s.heap u ns) (hq : Q none s) : wpAny M A (firstOfTuple' u) Q E s := by
  rw [PySem.W.kas_first_eq]
  refine wpAny_bind (PySem.W.Looks.here h.looks ?_)
  rw [if_pos (by decide)]
  exact wpAny_pure hq
theorem zhA {M : Model} {A : Around} {E : Value→Shared→Prop} {α β : Type} {f : α→Sem β} {g : α→β} : ∀ (vs : List α) (Q : List β→Shared→Prop),(∀ v∈vs,∀ (Q : β→Shared→Prop),Q (g v) s→wpAny M A (f v) Q E s)→Q (vs.map g) s→wpAny M A (List.mapM f vs) Q E s
  | [],Q,_,h => by rw [List.mapM_nil]; exact wpAny_pure h
  | v::vs,Q,hf,h => by
    rw [List.mapM_cons]
    refine wpAny_bind (hf v List.mem_cons_self _ (wpAny_bind (zhA vs _ (fun x hx => hf x (List.mem_cons_of_mem _ hx)) (wpAny_pure ?_))))
    exact h
theorem zl2 {M : Model} {A : Around} {E : Value→Shared→Prop} {vs : List Value} {kss : List (List Int)} {Q : SortKind→Shared→Prop} (h : Paired (fun u ns => LisI s.heap u ns) vs kss) (hn : 0 < vs.length) (hq : Q oneType' s) : wpAny M A (keyKind' vs.toArray) Q E s := by
  have all : ∀ v∈vs,∃ ns,LisI s.heap v ns := by
    intro v hv
    obtain ⟨i,hi⟩ := List.getElem?_of_mem hv
    clear hn hq
    induction h generalizing i with
    | nil => cases hv
    | cons x t ih =>
      rcases List.mem_cons.mp hv with rfl | z
      · exact ⟨_,x⟩
      · obtain ⟨j,hj⟩ := List.getElem?_of_mem z
        exact ih z j hj
  rw [keyKind'_eq,List.mapM_toArray]
  simp only [bind_map_left]
  refine wpAny_bind (zhA (g := fun _ => none) vs _ (fun v hv Q hQ => zkC (all v hv).choose_spec hQ) ?_)
  cases vs with
  | nil => simp at hn
  | cons v vs =>
    have e1 : ((List.map (fun _ => (none : Option Value)) (v::vs)).toArray.all fun x => x.isSome) = false := by simp
    have e2 : (((List.map (fun _ => (none : Option Value)) (v::vs)).toArray)[0]?.bind id).isSome = false := by simp
    rw [if_neg (by rw [e1]; exact Bool.false_ne_true),if_neg (by rw [e2]; exact Bool.false_ne_true),oneTypeOnly'_eq,List.mapM_toArray]
    simp only [bind_map_left,bind_assoc]
    refine wpAny_bind (zhA (g := fun _ => Value.type "list") (v::vs) _ (fun v hv Q hQ => PySem.W.Looks.here (all v hv).choose_spec.looks hQ) ?_)
    have e3 : ((List.map (fun _ => Value.type "list") (v::vs)).toArray)[0]? = some (Value.type "list") := by simp
    have e4 : ((List.map (fun _ => Value.type "list") (v::vs)).toArray.all fun x => x == Value.type "list") = true := by simp
    rw [e3]
    simp only [e4,if_true,pure_bind]
    exact wpAny_pure hq
end
end DL
end
section
namespace DL
open PySem PySem.Spec PyProof.Rows L2
noncomputable def LI2 (K : PySem.W.Frag) (H : Hp) (x : V) (k : List Int) : Prop := ∃ b,x = .ref b∧SqL K H b (k.map V.int)
noncomputable def zgL {α : Type} (d : α) (ys : List α) (kss : List (List Int)) : List α := (zfA ys.length fun i j => HT.lexLt (kss.getD i []) (kss.getD j [])).map fun i => ys.getD i d
section
variable {X : Cx} {pins : List (Addr × Obj)} {σ : L2.St} {H : Hp} {s : Shared}
theorem LisI.stay {h h' : Heap} {L : Addr} {mm : Str→Option Value} (hL : h.Ns L mm) (k : ∀ b o,b≠L→h.get? b = some o→h'.get? b = some o) {p : Value} {ns : List Int} (x : LisI h p ns) : LisI h' p ns := by
  obtain ⟨a,its,rfl,⟨o,h1,h2,n,h3⟩,hi⟩ := x
  refine ⟨a,its,rfl,⟨o,k _ _ ?_ h1,h2,n,h3⟩,hi⟩
  rintro rfl
  obtain ⟨o',es,ep,e,d,_⟩ := hL
  rw [h1] at e; cases e
  rw [h3] at d; cases d
theorem znO (I : Inv X pins σ H s) {x : V} {k : List Int} {u : Value} (h : LI2 X.K H x k) (r : L2.RelV x u) : LisI s.heap u k := by
  obtain ⟨b,rfl,hq⟩ := h
  cases r
  obtain ⟨its,rv,pl,_⟩ := I.list hq
  exact ⟨b,its.toArray,rfl,pl.isList,by simpa using zex rv⟩
theorem ziw (I : Inv X pins σ H s) : ∀ {ys : List V} {kss : List (List Int)} {us : List Value},Paired (LI2 X.K H) ys kss→Vals ys us→Paired (fun u ks => LisI s.heap u ks) us kss
  | _,_,_,.nil,.nil => .nil
  | _,_,_,.cons h t,.cons r q => .cons (znO I h r) (ziw I t q)
theorem zho {k : Nat} (hr : Room k X.A) : zdk X (.builtin "sorted") (fun xs H Q => ∃ p ys kss,xs = [.ref p]∧SqL X.K H p ys∧Paired (LI2 X.K H) ys kss∧ys.length < 64∧∀ l,H l = none→Q (.ref l) (upd H l (.lst (zgL .non ys kss)))) := by
  intro pins s σ H xs us Q I r h
  obtain ⟨p,ys,kss,rfl,hq,hk,h64,q⟩ := h
  obtain ⟨u,rfl,rx⟩ := zea r
  cases rx
  obtain ⟨its,rv,pl,hz⟩ := I.list hq
  have hl := rv.length
  have hkl := Paired.length hk
  by_cases h2 : its.length < 2
  · refine zgK pl.isList h2 fun h' c D kp hD ho => ?_
    have hs : s.heap.get? D = none := Heap.get?_none_of_le hD
    refine ⟨.ref D,_,Inv.laidN I hs (Nat.ne_of_gt (Nat.lt_of_lt_of_le I.lt hD)) (fun b o _ e => kp b o e) (fun m ⟨o,es,ep,e,z⟩ => ⟨o,es,ep,kp _ _ e,z⟩) ho rv (by omega) s.toks,rfl,?_⟩
    have e : zgL V.non ys kss = ys := by
      unfold zgL zfA
      rw [if_pos (by omega)]
      refine List.ext_getElem (by simp) fun i a b => ?_
      simp [List.getD_eq_getElem?_getD,b]
    have := q D (I.hok.fresh hD)
    rw [e] at this
    exact this
  · obtain ⟨mF,F⟩ := I.fr
    have trs := ziw I hk rv
    refine PySem.W.kat_sorted F (zlU (g := X.base) (h := s.heap) (L := X.env.locals)) pl.isList (by omega) (by omega) fun D e1 h' F' N' hlt => ?_
    have hDs : s.heap.get? D = none := by
      cases z : s.heap.get? D with
      | none => rfl
      | some o =>
        have zn := (N' _ (List.mem_cons_self)).2
        exact absurd (hlt (D,o) (zfi zn.1 zn.2 z)) (Nat.lt_irrefl _)
    have keepN : ∀ {h2 : Heap} {oD : Obj},Fr X.base X.env.locals h2 mF→News X.base X.env.locals h2 ((D,oD)::zfw X.base s.heap X.env.locals)→∀ b o,b≠X.env.locals→s.heap.get? b = some o→h2.get? b = some o := fun {h2 oD} F2 N2 b o hb e => by
      cases z : X.base.get? b with
      | some o' =>
        have := I.bk b o' z
        rw [e] at this; cases this
        exact F2.keep b o z
      | none => exact (N2 (b,o) (List.mem_cons_of_mem _ (zfi hb z e))).1
    have k1 := keepN F' N'
    have trs' : Paired (fun u ks => LisI h' u ks) its kss := Paired.mono (fun _ _ x => x.stay F.ns k1) trs
    refine zl2 trs' (by omega) ?_
    have hn : 0 < its.length := by omega
    refine zkm (n := its.length) (c := fun i j => HT.lexLt (kss.getD i []) (kss.getD j [])) (fun i j C hi hj hC => ?_) (zhw hn) ?_
    · have gi : ∀ i,i < its.length→LisI h' (its.getD i Value.none) (kss.getD i []) := fun i hi => by
        have hki : i < kss.length := by omega
        obtain ⟨a,ha,hx⟩ := Paired.get trs' (List.getElem?_eq_getElem hki)
        rw [List.getD_eq_getElem?_getD,ha,List.getD_eq_getElem?_getD,List.getElem?_eq_getElem hki]
        exact hx
      exact zpq (gi i hi) (gi j hj) (by have := hr.un; show X.A.units + 1 + 1 < cLine; omega) hC
    · refine PySem.W.KasFin.intro F' N' (.head fun q hq z => ?_) fun h3 c F3 N3 => ?_
      · have := hlt q hq
        rw [z] at this
        exact Nat.lt_irrefl _ this
      · have oD := (N3 _ List.mem_cons_self)
        have hix : ∀ i∈zfA ys.length (fun i j => HT.lexLt (kss.getD i []) (kss.getD j [])),i < ys.length := fun i hi => ze9 hi
        have e0 : (zhc (fun i j => HT.lexLt (kss.getD i []) (kss.getD j [])) (PySem.W.kas_sort its.length)).toList = zfA ys.length (fun i j => HT.lexLt (kss.getD i []) (kss.getD j [])) := by
          unfold zfA
          rw [if_neg (by omega),hl]
        rw [e0] at oD
        refine ⟨.ref D,_,Inv.laidN (t' := _) (its := (zfA ys.length fun i j => HT.lexLt (kss.getD i []) (kss.getD j [])).map fun i => its.getD i Value.none) I hDs oD.2.1 (keepN F3 N3) (fun m hm => by rw [znJ hm F.ns]; exact F3.ns) oD.1 (zgD rv _ hix) ?_,rfl,q D ?_⟩
        · have := (zet ys.length fun i j => HT.lexLt (kss.getD i []) (kss.getD j [])).length_eq
          rw [List.length_map,this,List.length_range]; omega
        · cases z : H D with
          | none => rfl
          | some u => exact absurd hDs (zaZ.isS (I.hok D u z))
end
noncomputable def zix : D→Option (List Int)
  | .lst ds => zc0 ds
  | _ => none
noncomputable def zgh : List D→Option (List (List Int))
  | [] => some []
  | d::ds => (zix d).bind fun k => (zgh ds).map (k::·)
noncomputable def zid : List D→Option D
  | [.lst ds] => (zgh ds).bind fun kss => if ds.length < 64 then some (.lst (zgL .non ds kss)) else none
  | _ => none
section
variable {K : PySem.W.Frag} {G : GH} {H : Hp}
theorem zpr (gk : GOk K G H) {v : V} {d : D} {k : List Int} (r : RG K G v d) (e : zix d = some k) : LI2 K H v k := by
  cases d with
  | lst ds =>
    obtain ⟨a,xs,rfl,s,rs⟩ := (RG.rb (H := H) r).lst gk
    have := zgw gk rs e
    subst this
    exact ⟨a,rfl,s⟩
  | _ => cases e
theorem zkd (gk : GOk K G H) : ∀ {ds : List D} {xs : List V} {ks : List (List Int)},RGs K G xs ds→zgh ds = some ks→Paired (LI2 K H) xs ks
  | [],_,_,.nil,e => by cases e; exact .nil
  | d::ds,_,ks,.cons r t,e => by
    have e' : (zix d).bind (fun k => (zgh ds).map (k::·)) = some ks := e
    cases e1 : zix d with
    | none => rw [e1] at e'; cases e'
    | some k =>
      rw [e1] at e'
      cases e2 : zgh ds with
      | none => rw [e2] at e'; cases e'
      | some ks' => rw [e2] at e'; cases e'; exact .cons (zpr gk r e1) (zkd gk t e2)
end
section
variable {X : Cx} {g : GE} {m : List Md} {a : Expr} {fl : Rho → Res (List D)} {pos p : Pos} {k : Nat}
theorem zj1 (hr : Room k X.A) (hg : Gl X "sorted") (hm : X.mg "sorted" = none) (ha : SAB X g m [a] fl) (hs : starEach [a] X.env = (false,eval a X.env)::starEach [] X.env := by rfl) :
    SO X g m (.Call (.Name "sorted" p) [a] [] pos) (fC fl zid) := by
  refine zoF (R := fun xs H Q => ∃ p ys kss,xs = [.ref p]∧SqL X.K H p ys∧Paired (LI2 X.K H) ys kss∧ys.length < 64∧∀ l,H l = none→Q (.ref l) (upd H l (.lst (zgL .non ys kss)))) ?_ (zej (zho hr) hg hm (by first | exact PyProof.Rows.boot_sorted | rfl) ha (by decide) (by decide) hs rfl)
  intro G H vs ds d Q gk rs e q
  unfold zid at e
  split at e
  · rename_i zs
    cases ek : zgh zs with
    | none => rw [ek] at e; cases e
    | some kss =>
      rw [ek] at e
      have e' : (if zs.length < 64 then some (D.lst (zgL .non zs kss)) else none) = some d := e
      by_cases h64 : zs.length < 64
      · rw [if_pos h64] at e'
        cases e'
        cases rs with
        | cons r1 t =>
          cases t
          obtain ⟨b,xs,rfl,s,r⟩ := r1.lst gk
          have hl := Paired.length r
          refine ⟨b,xs,kss,rfl,s,zkd gk r ek,by omega,fun l hl' => q l G _ (Grow.new gk hl' _) hl' ⟨gk.isN hl',.lst zam ?_⟩⟩
          unfold zgL
          rw [hl]
          exact zim r _ fun i hi => ze9 hi
      · rw [if_neg h64] at e'; cases e'
  · cases e
end
end DL
end
section
namespace DL
open PySem PySem.Spec PyProof.Rows L2
section
variable {X : Cx} {pins : List (Addr × Obj)} {σ : L2.St} {H : Hp} {s : Shared}
theorem Inv.keptN {h' : Heap} (I : Inv X pins σ H s) (k : ∀ b o,b≠X.env.locals→s.heap.get? b = some o→h'.get? b = some o)
    (hns : ∀ m,s.heap.Ns X.env.locals m→h'.Ns X.env.locals m) (t' : Nat) : Inv X pins σ H { s with heap := h',toks := t' } := by
  have trkL : ∀ b u,H b = some u→b≠X.env.locals := fun b u e z => by rw [z,I.free] at e; cases e
  refine I.step (g' := s.gens) (d' := s.drawn) (ch := []) (fun b hb => absurd hb (by simp)) (fun b ob hL _ _ e _ => k b ob hL e) (fun b ob hL _ _ e _ => ⟨ob.slots,k b ob hL e⟩) (fun b ob _ e n => n)
    (fun b ob _ e => ?_) (fun b xs e => e) (fun b ob u e => e) (fun b ps e => ⟨#[],by rw [e]; simp⟩) hns (fun b u e => ?_) I.bare
  · by_cases hb : b = X.env.locals
    · subst hb
      obtain ⟨m,hn,_⟩ := I.loc
      obtain ⟨o,_,_,ho',_⟩ := hns m hn
      exact ⟨o,ho'⟩
    · exact ⟨ob,k b ob hb e⟩
  · refine (I.hok b u e).stay (fun cc v hc q => k cc v ?_ q) (fun cc q => q) fun cc xs q => q
    rcases hc with z | z
    · rw [z]; exact trkL b u e
    · exact trkL cc _ z
end
section
variable {X : Cx} {g : GE} {m : List Md} {e a b : Expr} {es : List Expr} {fl : Rho → Res (List D)} {fa fb : FE} {pos p : Pos}
noncomputable def zoO (K : PySem.W.Frag) : R2 := fun x y H Q => ∃ a b ys,x = .ref a∧y = .ref b∧SqT K H a []∧SqT K H b ys∧Q (.ref b) H
theorem znC : OpR X (binaryOp .Add) (zoO X.K) := by
  intro pins s σ H x y v u Q I rx ry h
  obtain ⟨a,b,ys,rfl,rfl,ha,hb,q⟩ := h
  cases rx
  cases ry
  obtain ⟨its,r1,p1,_⟩ := I.tuple ha
  obtain ⟨its2,r2,p2,_⟩ := I.tuple hb
  cases r1
  obtain ⟨⟨cls,dd,data,sl⟩,ho,hc,n,hd⟩ := id p1
  obtain ⟨⟨cls2,dd2,data2,sl2⟩,ho2,hc2,n2,hd2⟩ := id p2
  simp only at hc hd hc2 hd2
  subst hc hd hc2 hd2
  exact concat_meets ⟨_,ho,rfl⟩ ⟨_,ho2,rfl⟩ noFill_tuple_add seq_tuple_add PySem.F.slot_tuple_add PySem.F.entry_tuple_add (PySem.F.args_tuple_add_2 _ _)
    (tuple_addW0 a b _ _ n n2 dd dd2 sl sl2 rfl) ⟨ho,ho2,⟨.ref b,H,I,rfl,q⟩⟩
noncomputable def addE : D→D→Option D
  | .tup [],.tup b => some (.tup b)
  | a,b => addA a b
theorem zod {K : PySem.W.Frag} : OpD K (fun x y H Q => zoO K x y H Q∨((∃ i j,x = .int i∧y = .int j∧Q (.int (i + j)) H)∨(∃ i j,x = .str i∧y = .str j∧i.length + j.length≤sizeLine∧Q (.str (i++j)) H)∨zni K x y H Q∨znh K x y H Q)) addE := by
  intro G H v1 v2 d1 d2 d Q gk r1 r2 e q
  unfold addE at e
  split at e
  · cases e
    rcases r1 with r1 | ⟨a',_,oo⟩
    · rcases r2 with r2 | ⟨a',_,oo⟩
      · obtain ⟨a,xs,rfl,s1,t1⟩ := r1.tup gk
        obtain ⟨b,ys,rfl,s2,t2⟩ := r2.tup gk
        cases t1
        exact .inl ⟨a,b,ys,rfl,rfl,s1,s2,q _ G H (Grow.refl gk) r2⟩
      · cases oo.ob
    · cases oo.ob
  · exact .inr (zlb G H v1 v2 d1 d2 d Q gk r1 r2 e q)
theorem zik (ha : SB X g m a fa) (hb : SB X g m b fb) : SE X g m (.BinOp a .Add b pos) (f2 fa fb addE) := zhI (OpR.or znC (OpR.or zmG (OpR.or zfR (OpR.or zjU zjT)))) zod ha hb
end
end DL
end
section
namespace DL
open PySem PyProof.Rows L2
open PySem.AutoSeq1 (wpAny_loadPart')
section
variable {X : Cx}
end
end DL
end
section
namespace DL
open PySem PyProof.Rows PySem.W
section
variable {n : Nat} {c : Nat → Nat → Bool} (as : ∀ i j, c i j = true → c j i = false) (tr : ∀ i j k, c j i = false → c k j = false → c k i = false)
noncomputable def Le (c : Nat→Nat→Bool) (i j : Nat) : Prop := c j i = false
noncomputable def Eqv (c : Nat→Nat→Bool) (i j : Nat) : Prop := Le c i j∧Le c j i
include tr in
theorem Eqv.trans {i j k : Nat} (h1 : Eqv c i j) (h2 : Eqv c j k) : Eqv c i k := ⟨tr _ _ _ h1.1 h2.1,tr _ _ _ h2.2 h1.2⟩
theorem Eqv.symm {i j : Nat} (h : Eqv c i j) : Eqv c j i := ⟨h.2,h.1⟩
include as tr in
include tr in
include as tr in
include as tr in
include as tr in
include as tr in
include as tr in
include as tr in
include as tr in
include as tr in
include as tr in
end
end DL
end
section
namespace DL
section
variable {α : Type} {lt : α → α → Bool} {d : α}
end
end DL
end
section
namespace DL
open PySem PySem.Spec PyProof.Rows L2
section
variable {X : Cx} {pins : List (Addr × Obj)} {σ : L2.St} {H : Hp} {s : Shared}
end
section
variable {X : Cx} {g : GE} {m : List Md} {a : Expr} {fl : Rho → Res (List D)} {pos p : Pos} {k : Nat}
end
end DL
end
section
namespace DL
open PySem PySem.Spec PyProof.Rows L2
section
variable {X : Cx} {pins : List (Addr × Obj)} {σ : L2.St} {H : Hp} {s : Shared}
theorem zla (bs : List Bool) : ((List.range bs.length).all fun i => bs.getD i true) = bs.all id := by
  rw [Bool.eq_iff_iff,List.all_eq_true,List.all_eq_true]
  constructor
  · intro h b hb
    obtain ⟨i,hi,rfl⟩ := List.getElem_of_mem hb
    have := h i (List.mem_range.mpr hi)
    simpa [List.getD_eq_getElem?_getD,hi] using this
  · intro h i hi
    have hi := List.mem_range.mp hi
    have := h bs[i] (List.getElem_mem _)
    simpa [List.getD_eq_getElem?_getD,hi] using this
theorem ziN (hc : X.calm = true) (I : Inv X pins σ H s) {p : Addr} {bs : List Bool} (hq : SqL X.K H p (bs.map V.bl)) {A : Around} (hA : A.handled = none) {E : Value→Shared→Prop} {Q : Value→Shared→Prop}
    (h : ∀ I fp wr n P St tr it s₂,it = Value.ref I→Walks X.prog X.w A I fp wr n P St→St 0 s₂.heap→TruthOf X.prog X.w A P tr→n = bs.length→(∀ i,tr i = bs.getD i true) →
      (∀ (h' : Heap) (tk : Nat),(∀ (b : Addr) (o : Obj),¬b∈wr→s₂.heap.get? b = some o→h'.get? b = some o)→Inv X pins σ H { heap := h',gens := s₂.gens,drawn := s₂.drawn,toks := tk,os := s₂.os })→Q it s₂) :
    wpAny (model X.prog X.w) A (pyIter (.ref p)) Q E s := by
  obtain ⟨its,rv,pl,hz⟩ := I.list hq
  have hl := rv.length
  rw [List.length_map] at hl
  refine PySem.Flt.iter_list_ pl.isList fun s₂ e2 hi hlt hne => ?_
  refine h s.heap.objs.size [s.heap.objs.size,p] [s.heap.objs.size] its.toArray.size _ _ (fun i => bs.getD i true) _ s₂ rfl (Walks.list hA _ p hne its.toArray) hi ?_ (by rw [List.size_toArray,hl]) (fun i => rfl) fun h' tk k => ?_
  · intro i v s' Q' E' hv hq'
    have hv' : its[i]? = some v := by simpa using hv
    have hi : i < its.length := (List.getElem?_eq_some_iff.mp hv').1
    have hki : i < (bs.map V.bl).length := by rw [List.length_map]; omega
    obtain ⟨u,h1,h3⟩ := rv.get (i := i) (x := (bs.map V.bl)[i]) (List.getElem?_eq_getElem hki)
    rw [hv'] at h1
    cases h1
    rw [List.getElem_map] at h3
    have h3' : v = Value.bool bs[i] := h3
    subst h3'
    have e : bs.getD i true = bs[i] := by
      have hb : i < bs.length := by omega
      simp [List.getD_eq_getElem?_getD,hb]
    have hq2 : Q' (bs.getD i true) s' := hq'
    rw [e] at hq2
    exact wpAny_pure hq2
  · subst e2
    have ne : ∀ b o,s.heap.get? b = some o→¬ b∈[s.heap.objs.size] := fun b o e z => by
      have := List.mem_singleton.mp z
      subst this
      exact absurd (Heap.lt_size e) (Nat.lt_irrefl _)
    exact Inv.keptN I (fun b o _ e => k b o (ne b o e) (Heap.get?_push_of_some _ e)) (fun m ⟨o,es,ep,e,z⟩ => ⟨o,es,ep,k _ _ (ne _ _ e) (Heap.get?_push_of_some _ e),z⟩) tk
theorem zml (hc : X.calm = true) : zdk X (.builtin "all") (fun xs H Q => ∃ (p : Addr) (bs : List Bool),xs = [.ref p]∧SqL X.K H p (bs.map V.bl)∧Q (.bl (bs.all id)) H) := by
  intro pins s σ H xs us Q I r h
  obtain ⟨p,bs,rfl,hq,q⟩ := h
  obtain ⟨u,rfl,rx⟩ := zea r
  cases rx
  refine call_all_walk (ziN hc I hq (show X.A.in1.handled = none from I.ok.hd hc) fun J fp wr n P St tr it s₂ e1 e2 e3 e4 e5 e6 e7 => ⟨J,fp,wr,n,P,St,tr,e1,e2,e3,e4,fun h' tk k => ?_⟩)
  have et : tr = fun i => bs.getD i true := funext e6
  rw [e5,et,zla]
  exact ⟨.bl (bs.all id),H,e7 h' tk k,rfl,q⟩
end
noncomputable def zgy : List D→Option (List Bool)
  | [] => some []
  | .bl b::ds => (zgy ds).map (b::·)
  | _ => none
theorem zk7 {K : PySem.W.Frag} {G : GH} {H : Hp} (gk : GOk K G H) : ∀ {ds : List D} {xs : List V} {bs : List Bool},RGs K G xs ds→zgy ds = some bs→xs = bs.map V.bl
  | [],_,_,.nil,e => by cases e; rfl
  | d::ds,_,bs,.cons r t,e => by
    cases d with
    | bl b =>
      have e' : (zgy ds).map (b::·) = some bs := e
      cases e1 : zgy ds with
      | none => rw [e1] at e'; cases e'
      | some bs' =>
        rw [e1] at e'; cases e'
        rw [zk7 gk t e1,List.map_cons,(RG.rb (H := H) r).bl gk]
    | _ => cases e
noncomputable def allD : List D→Option D
  | [.lst ds] => (zgy ds).map fun bs => .bl (bs.all id)
  | _ => none
theorem zqb {K : PySem.W.Frag} : zmt K (fun xs H Q => ∃ (p : Addr) (bs : List Bool),xs = [.ref p]∧SqL K H p (bs.map V.bl)∧Q (.bl (bs.all id)) H) allD := by
  intro G H vs ds d Q gk rs e q
  unfold allD at e
  split at e
  · rename_i zs
    cases ek : zgy zs with
    | none => rw [ek] at e; cases e
    | some bs =>
      rw [ek] at e; cases e
      cases rs with
      | cons r1 t =>
        cases t
        obtain ⟨b,xs,rfl,s,r⟩ := r1.lst gk
        have ex := zk7 gk r ek
        subst ex
        exact ⟨b,bs,rfl,s,q _ G H (Grow.refl gk) (.scl (.bl _))⟩
  · cases e
section
variable {X : Cx} {g : GE} {m : List Md} {e : Expr} {es : List Expr} {fl : Rho → Res (List D)} {pos p : Pos}
theorem zqz (hc : X.calm = true) (hg : Gl X "all") (hm : X.mg "all" = none) (ha : SAB X g m (e::es) fl) (he : starEach (e::es) X.env = (false,eval e X.env)::starEach es X.env := by rfl) (hpl : (backTo pos (starEach es X.env)).any (·.1) = false := by rfl) :
    SE X g m (.Call (.Name "all" p) (e::es) [] pos) (fC fl allD) := s_cb zqb (zej (zml hc) hg hm PyProof.Rows.boot_all ha (by decide) (by decide) he hpl)
end
end DL
end
section
namespace DL
open PySem PySem.Spec PyProof.Rows L2
section
variable {X : Cx} {pins : List (Addr × Obj)} {σ : L2.St} {H : Hp} {s : Shared}
end
section
variable {X : Cx} {g : GE} {m : List Md} {e : Expr} {es : List Expr} {fl : Rho → Res (List D)} {pos p : Pos}
end
end DL
end
section
namespace DL
open PySem PySem.Spec PyProof.Rows L2
noncomputable def zh5 (h0 H : Hp) : Prop := ∀ a o,h0 a = some o→H a = some o
structure YieldsB (K : PySem.W.Frag) (h0 : Hp) (J : It) (ds : List D) (G0 : GH) : Prop where
  go : ∀ G H (i : Nat),Gle G0 G→GOk K G H→zh5 h0 H→i < ds.length→J.go i H
  yld : ∀ G H (i : Nat) x H' d,Gle G0 G→GOk K G H→zh5 h0 H→J.yld i H x H'→ds[i]? = some d→∃ G',Grow K G H G' H'∧RG K G' x d
  stop : ∀ G H,Gle G0 G→GOk K G H→zh5 h0 H→J.stop ds.length H
theorem Yields.toH {K : PySem.W.Frag} {h0 : Hp} {J : It} {ds : List D} {G0 : GH} (y : Yields K J ds G0) : YieldsB K h0 J ds G0 :=
  ⟨fun G H i w gk _ hi => y.go G H i w gk hi,fun G H i x H' d w gk _ q e => y.yld G H i x H' d w gk q e,fun G H w gk _ => y.stop G H w gk⟩
noncomputable def tIB (X : Cx) (g : GE) (m : List Md) (f : FI) : TI := fun σ H R => ∃ r G,SI X g m r G σ H∧fin (f r) (fun ds => ∀ J G' H',Grow X.K G H G' H'→YieldsB X.K g.h0 J ds G'→R J H') (XW X σ G H)
noncomputable def SItB (X : Cx) (g : GE) (m : List Md) (tg iter : Expr) (f : FI) : Prop := PI X tg iter (tIB X g m f)
noncomputable def tBw (X : Cx) (g : GE) (m : List Md) (f : FE) : TE := fun σ H Q => ∃ r G,SI X g m r G σ H∧fin (f r) (fun d => ∀ v G' H',Grow X.K G H G' H'→Bw X.K g.h0 G' H' v d→Q v H') (XW X σ G H)
noncomputable def SBw (X : Cx) (g : GE) (m : List Md) (e : Expr) (f : FE) : Prop := PE X e (tBw X g m f)
section
variable {X : Cx} {g : GE} {m m' mb : List Md} {tg e a iter : Expr} {f : FE} {pos p pos2 : Pos} {ro : Bool} {sts : List Stmt} {s1 : FS} {elts : List Expr} {kk : Nat}
theorem vw_ (i : Nat) {x : Str} (hm : m[i]? = some .bw := by rfl) (hN : X.N[i]? = some x := by rfl) (hv : Vis X.env.scope x := by first | exact Or.inl rfl | exact Or.inr (Or.inl rfl) | exact Or.inr (Or.inr rfl)) (hd : (x == ("__debug__" : Str)) = false := by decide) (hcd : (x == ("__classdict__" : Str)) = false := by decide) :
    SBw X g m (.Name x pos) fun r => getV r i := by
  refine PE.imp (zgY hN hv hd hcd) fun σ H Q ⟨r,G,si,q⟩ => ?_
  obtain ⟨d,e,k⟩ := zgn q
  obtain ⟨v,e1,e2⟩ := si.bw i d e hm
  exact ⟨v,e1,k _ G H (Grow.refl si.gok) e2⟩
theorem znv {K : PySem.W.Frag} {h0 : Hp} {G0 G : GH} {H0 H : Hp} {a : Addr} {ds : List D} (o : Own K G0 H0 a (.lst ds)) (h : h0 a≠none) (o0 : zh5 h0 H0) (le : Gle G0 G) (o1 : zh5 h0 H) : ∃ xs,SqL K H a xs∧RGs K G xs ds := by
  cases e : h0 a with
  | none => exact absurd e h
  | some u =>
    have h1 := o0 a u e
    have h2 := o1 a u e
    cases o.ob with
    | lst r s =>
      rw [h1] at r
      cases r
      exact ⟨_,SqL.of h2,RGs.mono s le⟩
theorem zok {K : PySem.W.Frag} {h0 : Hp} {ds : List D} {G0 : GH} {a : Addr} (h : ∀ G H,Gle G0 G→GOk K G H→zh5 h0 H→∃ xs,SqL K H a xs∧RGs K G xs ds) : YieldsB K h0 (Itl K a) ds G0 := by
  refine ⟨fun G H i w gk o hi => ?_,fun G H i x H' d w gk o y e => ?_,fun G H w gk o => ?_⟩
  · obtain ⟨xs,s,r⟩ := h G H w gk o
    have hl := Paired.length r
    exact ⟨xs,xs[i],s,List.getElem?_eq_getElem (by omega)⟩
  · obtain ⟨xs,s,r⟩ := h G H w gk o
    obtain ⟨rfl,y⟩ := y
    obtain ⟨v,e1,rv⟩ := Paired.get r e
    have := y xs s
    rw [e1] at this; cases this
    exact ⟨G,Grow.refl gk,rv⟩
  · obtain ⟨xs,s,r⟩ := h G H w gk o
    exact ⟨xs,s,Nat.le_of_eq (Paired.length r)⟩
theorem SI.oldIn {r : Rho} {G : GH} {st : L2.St} {H : Hp} (s : SI X g m r G st H) : zh5 g.h0 H := s.old
theorem zmR (h : SBw X g m e f) : SItB X g m tg e (fSeq zbm f) := by
  refine PI.imp (zjN h) fun σ H R ⟨r,G,si,q⟩ => ⟨r,G,si,zah (zaf q) fun d q v G' H' w rv => ?_⟩
  obtain ⟨ds,e,q⟩ := zav q
  cases d with
  | lst ds' =>
    cases e
    rcases rv with rv | ⟨a,rfl,o,ho⟩
    · obtain ⟨a,xs,rfl,s,rs⟩ := rv.lst w.ok
      exact .inl ⟨a,rfl,⟨xs,s⟩,q _ G' H' w (zhz rv).toH⟩
    · cases o.ob with
      | lst r s => exact .inl ⟨a,rfl,⟨_,SqL.of r⟩,q _ G' H' w (zok fun G2 H2 le _ o2 => znv o ho (si.grow w).oldIn le o2)⟩
  | tup ds' =>
    cases e
    rcases rv with rv | ⟨a,rfl,o,ho⟩
    · obtain ⟨a,xs,rfl,s,rs⟩ := rv.tup w.ok
      exact .inr ⟨a,rfl,⟨xs,s⟩,q _ G' H' w (zjm rv).toH⟩
    · cases o.ob
  | _ => cases e
theorem zmB (hp : PassesOwn (model X.prog X.w) X.A X.env X.xe) (hc : X.calm = true) {ft : FT} {fi : FI} (hi : SItB X g m tg iter fi) (hg : SG X g m tg ft m) (hb : SSs X g ro m m sts s1 m)
    (hs : ∀ x,foldedSetIterable iter X.env x = pure x := by intro _; rfl) : SS X g ro mb m (.For tg iter sts [] pos) (zcH m fi ft s1) m := by
  refine ⟨rfl,PS.imp (zjJ hp hc hi hg.2 hb.2 hs) fun D σ H ⟨r,G,si,q⟩ => ⟨r,G,si,zah (zcb si rfl q) fun ds q J G0 H0 w0 Y => ?_⟩⟩
  refine ⟨fun i n σ H => ∃ r G,SI X g m r G σ H∧Gle G0 G∧i≤ds.length∧n = ds.length - i∧oTo X g ro m mb G D (forF ft s1 (ds.drop i) r),⟨ds.length,r,G0,si.grow w0,Gle.refl G0,Nat.zero_le _,rfl,oTo.gle q w0.ge⟩,?_⟩
  rintro i n σ1 H1 ⟨r1,G1,si1,le1,hi,rfl,q1⟩
  by_cases hlt : i < ds.length
  · have hd : ds.drop i = ds[i]::ds.drop (i + 1) := List.drop_eq_getElem_cons hlt
    rw [hd] at q1
    unfold forF at q1
    refine .inr ⟨Y.go G1 H1 i le1 si1.gok si1.oldIn hlt,fun σ' H' => ∃ r G,SI X g m r G σ' H'∧Gle G0 G∧oTo X g ro m mb G D (forF ft s1 (ds.drop (i + 1)) r),fun σ' H' ⟨r',G',si',le',q'⟩ => ⟨ds.length - (i + 1),by omega,r',G',si',le',hlt,rfl,q'⟩,fun x H' y => ?_⟩
    obtain ⟨G',w',rv⟩ := Y.yld G1 H1 i x H' ds[i] le1 si1.gok si1.oldIn y (List.getElem?_eq_getElem hlt)
    have le' : Gle G0 G' := le1.trans w'.ge
    cases eft : ft ds[i] r1 with
    | none => simp only [eft] at q1; exact q1.elim
    | some r2 =>
      simp only [eft] at q1
      refine ⟨r1,G',ds[i],si1.grow w',rv,r2,eft,fun σ2 si2 => ⟨r2,G',si2,?_⟩⟩
      cases eb : s1 r2 with
      | nx r' => simp only [eb] at q1; exact fun σ3 G3 H3 le3 si3 => ⟨r',G3,si3,le'.trans le3,oTo.gle q1 (Gle.trans w'.ge le3)⟩
      | ct r' => simp only [eb] at q1; exact fun σ3 G3 H3 le3 si3 => ⟨r',G3,si3,le'.trans le3,oTo.gle q1 (Gle.trans w'.ge le3)⟩
      | bk r' => simp only [eb] at q1; exact fun σ3 G3 H3 le3 si3 => q1 σ3 G3 H3 (Gle.trans w'.ge le3) si3
      | rt d => simp only [eb] at q1; exact q1
      | exc x r' => simp only [eb] at q1; exact fun pins e s' σ3 G3 H3 le3 => q1 pins e s' σ3 G3 H3 (Gle.trans w'.ge le3)
      | stuck => simp only [eb] at q1; exact q1
  · have e : i = ds.length := by omega
    subst e
    rw [List.drop_length] at q1
    exact .inl ⟨Y.stop G1 H1 le1 si1.gok si1.oldIn,q1 σ1 G1 H1 (Gle.refl _) si1⟩
end
end DL
end
section
namespace DL
open PySem PySem.Spec PyProof.Rows L2
open HT (sIx)
section
variable {prog : Program} {w : World} {A : Around} {E : Value → Shared → Prop} {s : Shared}
theorem zgk {t sl : Addr} {items : Array Value} {vl vu : Value} {lo hi : Option Int} {Q : Value→Shared→Prop} (ht : IsTup s.heap t items) (hs : s.heap.IsSliceOf sl vl vu .none) (pl : IsPart vl lo) (pu : IsPart vu hi)
    (hw : sIx items.size 0 lo = 0∧sIx items.size items.size hi = items.size) (h : Q (.ref t) s) : wpAny (model prog w) A (getItem (.ref t) (.ref sl)) Q E s := by
  obtain ⟨os,hos,hcs,hds⟩ := id hs
  have hTs : s.TypeIs (.ref sl) "slice" := ⟨os,hos,hcs⟩
  unfold getItem
  try with_reducible refine wpAny_holding ?_
  first | refine wpAny_bind (wpAny_pure ?_) | skip
  refine wpAny_bind (wpAny_sequenceKey ht.typeIs (by decide) (wpAny_bind (wpAny_callSpecial?_slot (name := Str.ofString "__getitem__") ht.typeIs PyProof.Rows.slot_tuple_getitem (wpAny_call_entry PyProof.Rows.slot_tuple_getitem ht.typeIs PyProof.Rows.entry_tuple_getitem ?_ (PyProof.Rows.args_tuple_getitem _ _)))))
  show wpAny _ _ (Builtin.Tuple.tupleItemsOf (.ref t) >>= _) _ _ s
  refine wpAny_bind (PyProof.Rows.tupleItemsOf_ ht (wpAny_bind (wpAny_typeOf hTs ?_)))
  rw [if_pos (by decide)]
  refine wpAny_bind (HT.sliceApplied_gen hs pl pu ?_)
  rw [hw.1,hw.2]
  show wpAny _ _ (if (((0 : Nat) : Int) == 0 && (1 : Int) == 1 && (items.size - 0) == items.size) = true then _ else _) _ _ s
  rw [if_pos (by simp)]
  show wpAny _ _ (Builtin.Tuple.tupleIsExact (.ref t) >>= _) _ _ s
  unfold Builtin.Tuple.tupleIsExact
  refine wpAny_bind (wpAny_bind (wpAny_typeOf ht.typeIs (wpAny_pure ?_)))
  rw [if_pos (by decide)]
  refine wpAny_bind (wpAny_rule ?_)
  show wpAny _ _ (ret (.ref t)) _ _ s
  exact wpAny_pure ⟨_,rfl,wpAny_pure h⟩
end
noncomputable def rSlW (K : PySem.W.Frag) : V→Option Int→Option Int→Hp→VK→Prop := fun x lo hi H Q => ∃ a xs,x = .ref a∧SqT K H a xs∧(sIx xs.length 0 lo = 0∧sIx xs.length xs.length hi = xs.length)∧Q (.ref a) H
theorem zlr {X : Cx} : SlR X (rSlW X.K) := by
  intro pins s σ H x v vl vu lo hi sl Q I rx hs pl pu h
  obtain ⟨a,xs,rfl,hx,hw,q⟩ := h
  cases rx
  obtain ⟨its,r,ht,hz⟩ := I.tuple hx
  have hlen : its.toArray.size = xs.length := by rw [List.size_toArray]; exact r.length.symm
  exact ⟨"tuple",_,PyProof.Rows.slot_tuple_getitem.lookup,ht.typeIs,zgk ht hs pl pu (by rw [hlen]; exact hw) ⟨.ref a,H,I,rfl,q⟩⟩
noncomputable def slA (d : D) (lo hi : Option Int) : Option D := match d with
  | .tup ds => some (.tup (cutL ds lo hi))
  | .lst ds => some (.lst (cutL ds lo hi))
  | _ => none
noncomputable def fSlA (fa : FE) (fl fh : FP) : FE := fun r => (fa r).bind fun d => (fl r).bind fun lo => (fh r).bind fun hi => opt (slA d lo hi)
section
variable {X : Cx} {g : GE} {m : List Md} {e : Expr} {f fa : FE} {pos p2 : Pos}
theorem zm6 {R : V→Option Int→Option Int→Hp→Prop} {fl fh : FP} {r : Rho} {G : GH} {σ : L2.St} {H : Hp} {q : D→Prop} (si : SI X g m r G σ H) (h : fin (fSlA fa fl fh r) q (XW X σ G H))
    (hk : ∀ d lo hi v G2 H2 d',Grow X.K G H G2 H2→RB X.K G2 H2 v d→slA d lo hi = some d'→q d'→R v lo hi H2) :
    tB X g m fa σ H fun x H1 => tP X g m fl σ H1 fun l H2 => tP X g m fh σ H2 fun u H3 => R x l u H3 := by
  refine ⟨r,G,si,zah (zaf h) fun d h1 v G1 H1 w1 r1 => ⟨r,G1,si.grow w1,zaG (zaf h1) w1 fun lo h2 G2 H2 w2 => ⟨r,G2,(si.grow w1).grow w2,?_⟩⟩⟩
  refine zaG (zaf h2) (w1.trans w2) fun hi h3 G3 H3 w3 => ?_
  obtain ⟨d',e,h4⟩ := zav h3
  exact hk d lo hi v G3 H3 d' ((w1.trans w2).trans w3) ((r1.mono w2).mono w3) e h4
theorem zkU {α : Type} {ds : List α} {lo hi : Option Int} (h : sIx ds.length 0 lo = 0∧sIx ds.length ds.length hi = ds.length) : cutL ds lo hi = ds := by
  unfold cutL
  rw [h.1,h.2]; simp
theorem zhG {lo hi : Option Expr} {fl fh : FP} (he : SB X g m e f) (hl : SP1 X g m lo fl) (hu : SP1 X g m hi fh) : SE X g m (.Subscript e (.Slice lo hi none p2) pos) (fSlA f fl fh) := by
  refine PE.imp (zlN (SlR.or zlr (SlR.or zm4 zoz)) he hl hu) fun σ H Q ⟨r,G,si,q⟩ => ?_
  refine zm6 si q fun d lo hi v G2 H2 d' w r1 e q2 => ?_
  cases d with
  | tup ds =>
    cases e
    rcases r1 with r1 | ⟨a',_,oo⟩
    · obtain ⟨a,xs,rfl,s,r⟩ := r1.tup w.ok
      by_cases hw : sIx ds.length 0 lo = 0∧sIx ds.length ds.length hi = ds.length
      · refine .inl ⟨a,xs,rfl,s,by rw [Paired.length r]; exact hw,?_⟩
        rw [zkU hw] at q2
        exact q2 _ G2 H2 w r1
      · rw [← Paired.length r] at hw
        refine .inr (.inr ⟨a,xs,rfl,s,hw,fun p hp => ?_⟩)
        exact q2 _ _ _ (w.trans (Grow.newF w.ok hp (.tup (.inl zam) (zp7 r lo hi)))) (.ref za9)
    · cases oo.ob
  | lst ds =>
    cases e
    obtain ⟨a,xs,rfl,s,r⟩ := r1.lst w.ok
    exact .inr (.inl ⟨a,xs,rfl,s,fun p hp => q2 _ _ _ (w.trans (Grow.newF w.ok hp (.lst (.inl zam) (zp7 r lo hi)))) (.ref za9)⟩)
  | _ => cases e
end
end DL
end
section
namespace DL
open PySem PySem.Spec PyProof.Rows L2
open AutoSeq1 (wpAny_loadPart')
structure ZA (zp ti to u1 u2 : Addr) (f1 f2 : List Addr) : Prop where
  a1 : ti≠zp
  a2 : to≠zp
  a3 : u1≠zp
  a4 : u2≠zp
  a5 : to≠u1
  a6 : to≠u2
  a7 : u1≠u2
  a8 : ti≠to∧ti≠u1∧ti≠u2
  b1 : zp∉f1∧to∉f1∧u2∉f1
  b2 : zp∉f2∧to∉f2∧u1∉f2
theorem _root_.PySem.Draws.at' {prog : Program} {w : World} {A : Around} {it : Addr} {fp : List Addr} {n : Nat} {P : Nat→Value→Prop} {St : Nat→Heap→Prop} (D : Draws prog w A it fp n P St) {i : Nat} {h h' : Heap} {c : Addr} (st : St i h) (e : Heap.ExtBut c h h') (hc : c∉fp) : St i h' :=
  D.frame i h h' st fun b hb o q => e b o (by rintro rfl; exact hc hb) q
section
variable {prog : Program} {w : World} {A : Around} {E : Value → Shared → Prop} {s : Shared} {zp ti to u1 u2 : Addr} {f1 f2 : List Addr} {n1 n2 : Nat} {P1 P2 : Nat → Value → Prop} {St1 St2 : Nat → Heap → Prop} {p q : Value}
theorem zjl {i : Nat} {Q : Value→Shared→Prop} (Z : ZA zp ti to u1 u2 f1 f2) (D1 : Draws prog w A u1 f1 n1 P1 St1) (D2 : Draws prog w A u2 f2 n2 P2 St2) (hz : IsZip s.heap zp ti to .none) (hi : IsPair s.heap ti (.ref u1) (.ref u2)) (ho : IsPair s.heap to p q)
    (s1 : St1 i s.heap) (s2 : St2 i s.heap) (l1 : i < n1) (l2 : i < n2)
    (hQ : ∀ x y h' tk,P1 i x→P2 i y→IsZip h' zp ti to (rawInt s.heap.objs.size)→IsPair h' to x y→St1 (i + 1) h'→St2 (i + 1) h'→IsPair h' s.heap.objs.size x y→h'.objs.size = s.heap.objs.size + 1 →
      (∀ c o,c≠zp→c≠to→c≠u1→c≠u2→s.heap.get? c = some o→h'.get? c = some o)→Q (.ref s.heap.objs.size) { s with heap := h',toks := tk }) :
    wpAny (model prog w) A (Builtin.«zip.__next__» ⟨[.ref zp],[]⟩) (fun fin s' => ∃ v,fin = .done (.ret v)∧Q v s') E s := by
  show wpAny _ _ (field (.ref zp) 2 >>= _) _ _ _
  refine wpAny_bind (wpAny_field hz rfl (x := .bool false) rfl ?_)
  show wpAny _ _ (field (.ref zp) 3 >>= _) _ _ _
  refine wpAny_bind (wpAny_field hz rfl (x := .ref ti) rfl (wpAny_bind (wpAny_seqItems hi rfl ?_)))
  show wpAny _ _ (Builtin.SmallTypes.ownedTupleIsFree (.ref zp) >>= _) _ _ _
  refine wpAny_bind ?_
  unfold Builtin.SmallTypes.ownedTupleIsFree
  refine wpAny_bind (wpAny_field hz rfl (x := .none) rfl (wpAny_pure ?_))
  simp only [if_true]
  refine wpAny_bind (wpAny_rule (wpAny_bind (wpAny_field hz rfl (x := .ref to) rfl (wpAny_bind (wpAny_setField_rec hz (by simp) fun g1 hz1 k1 => ?_)))))
  replace hz1 : IsZip g1 zp ti to .ellipsis := hz1
  refine wpAny_bind ?_
  simp only [List.zipIdx_cons,List.zipIdx_nil,List.forIn_cons,List.forIn_nil]
  refine wpAny_bind (wpAny_bind (wpAny_onRaise ?_))
  show wpAny _ _ (Builtin.SmallTypes.nextOf (.ref u1) >>= _) _ _ _
  refine wpAny_bind (D1.item i _ _ _ l1 (D1.at' s1 k1.extBut Z.b1.1) fun x g2 t2 px st1 k2 => wpAny_pure ?_)
  have ho2 : IsPair g2 to p q := k2.extBut _ _ Z.a5 (k1.extBut _ _ Z.a2 ho)
  refine wpAny_bind (wpAny_seqItems ho2 rfl (wpAny_bind (wpAny_updateSeq_pair ho2 fun g3 ho3 k3 => ?_)))
  replace ho3 : IsPair g3 to x q := ho3
  refine wpAny_bind (wpAny_letGo (wpAny_pure ?_))
  refine wpAny_bind (wpAny_bind (wpAny_onRaise ?_))
  show wpAny _ _ (Builtin.SmallTypes.nextOf (.ref u2) >>= _) _ _ _
  refine wpAny_bind (D2.item i _ _ _ l2 (D2.at' (D2.at' (D2.at' s2 k1.extBut Z.b2.1) k2.extBut Z.b2.2.2) k3.extBut Z.b2.2.1) fun y g4 t4 py st2 k4 => wpAny_pure ?_)
  have ho4 : IsPair g4 to x q := k4.extBut _ _ Z.a6 ho3
  refine wpAny_bind (wpAny_seqItems ho4 rfl (wpAny_bind (wpAny_updateSeq_pair ho4 fun g5 ho5 k5 => ?_)))
  replace ho5 : IsPair g5 to x y := ho5
  refine wpAny_bind (wpAny_letGo (wpAny_pure (wpAny_pure ?_)))
  refine wpAny_bind (wpAny_seqItems ho5 rfl (wpAny_bind (wpAny_newTuple ?_)))
  have hsz : g5.objs.size = s.heap.objs.size := by rw [k5.1,k4.1,k3.1,k2.1,k1.1]
  have hz5 : IsZip g5 zp ti to .ellipsis := k5.extBut _ _ Z.a2.symm (k4.extBut _ _ Z.a4.symm (k3.extBut _ _ Z.a2.symm (k2.extBut _ _ Z.a3.symm hz1)))
  have st15 : St1 (i + 1) g5 := D1.at' (D1.at' (D1.at' st1 k3.extBut Z.b1.2.1) k4.extBut Z.b1.2.2) k5.extBut Z.b1.2.1
  have st25 : St2 (i + 1) g5 := D2.at' st2 k5.extBut Z.b2.2.1
  have hzlt : zp < g5.objs.size := Heap.lt_size hz5
  show wpAny _ _ (Builtin.SmallTypes.ownedTupleHandOut (.ref zp) (.ref g5.objs.size) >>= _) _ _ _
  refine wpAny_bind ?_
  unfold Builtin.SmallTypes.ownedTupleHandOut
  have hz6 : IsZip (g5.push { cls := .type "tuple",data := .seq #[x,y] }) zp ti to .ellipsis := Heap.get?_push_of_some _ hz5
  refine wpAny_bind (wpAny_setField_rec hz6 (by simp) fun g7 hz7 k7 => ?_)
  replace hz7 : IsZip g7 zp ti to (rawInt g5.objs.size) := hz7
  refine wpAny_setField_rec hz7 (by simp) fun g8 hz8 k8 => ?_
  replace hz8 : IsZip g8 zp ti to (rawInt g5.objs.size) := hz8
  have up : ∀ c o,c≠zp→g5.get? c = some o→g8.get? c = some o := fun c o c1 e => k8.extBut _ _ c1 (k7.extBut _ _ c1 (Heap.get?_push_of_some _ e))
  have hT8 : IsPair g8 g5.objs.size x y := k8.extBut _ _ (Nat.ne_of_gt hzlt) (k7.extBut _ _ (Nat.ne_of_gt hzlt) (Heap.get?_push_size _ rfl))
  have sz8 : g8.objs.size = g5.objs.size + 1 := by rw [k8.1,k7.1,Heap.size_push]
  rw [hsz] at hz8 hT8 sz8
  refine wpAny_pure ⟨_,rfl,?_⟩
  show Q (.ref g5.objs.size) _
  rw [hsz]
  refine hQ x y g8 _ px py hz8 (up _ _ Z.a2 ho5) (D1.frame _ _ _ st15 fun b hb o e => up b o (by rintro rfl; exact Z.b1.1 hb) e) (D2.frame _ _ _ st25 fun b hb o e => up b o (by rintro rfl; exact Z.b2.1 hb) e) hT8 sz8 fun c o c1 c2 c3 c4 e => up c o c1 ?_
  exact k5.extBut _ _ c2 (k4.extBut _ _ c4 (k3.extBut _ _ c2 (k2.extBut _ _ c3 (k1.extBut _ _ c1 e))))
theorem zlm {i : Nat} {Q : Fin→Shared→Prop} (Z : ZA zp ti to u1 u2 f1 f2) (D1 : Draws prog w A u1 f1 n1 P1 St1) (D2 : Draws prog w A u2 f2 n2 P2 St2) (hz : IsZip s.heap zp ti to .none) (hi : IsPair s.heap ti (.ref u1) (.ref u2)) (ho : IsPair s.heap to p q)
    (s1 : St1 i s.heap) (s2 : St2 i s.heap) (hend : i = n1∨(i < n1∧i = n2))
    (hE : ∀ h' e tk,(∀ c o,c≠zp→c≠to→c≠u1→c≠u2→s.heap.get? c = some o→h'.get? c = some o)→(∃ o,h'.get? e = some o∧o.cls = .type "StopIteration")→E (.ref e) { s with heap := h',toks := tk }) :
    wpAny (model prog w) A (Builtin.«zip.__next__» ⟨[.ref zp],[]⟩) Q E s := by
  show wpAny _ _ (field (.ref zp) 2 >>= _) _ _ _
  refine wpAny_bind (wpAny_field hz rfl (x := .bool false) rfl ?_)
  show wpAny _ _ (field (.ref zp) 3 >>= _) _ _ _
  refine wpAny_bind (wpAny_field hz rfl (x := .ref ti) rfl (wpAny_bind (wpAny_seqItems hi rfl ?_)))
  show wpAny _ _ (Builtin.SmallTypes.ownedTupleIsFree (.ref zp) >>= _) _ _ _
  refine wpAny_bind ?_
  unfold Builtin.SmallTypes.ownedTupleIsFree
  refine wpAny_bind (wpAny_field hz rfl (x := .none) rfl (wpAny_pure ?_))
  simp only [if_true]
  refine wpAny_bind (wpAny_rule (wpAny_bind (wpAny_field hz rfl (x := .ref to) rfl (wpAny_bind (wpAny_setField_rec hz (by simp) fun g1 hz1 k1 => ?_)))))
  replace hz1 : IsZip g1 zp ti to .ellipsis := hz1
  refine wpAny_bind ?_
  simp only [List.zipIdx_cons,List.zipIdx_nil,List.forIn_cons,List.forIn_nil]
  refine wpAny_bind (wpAny_bind (wpAny_onRaise ?_))
  show wpAny _ _ (Builtin.SmallTypes.nextOf (.ref u1) >>= _) _ _ _
  rcases hend with hend | ⟨hlt,hend⟩
  · subst hend
    refine wpAny_bind (D1.done _ _ _ (D1.at' s1 k1.extBut Z.b1.1) fun g2 e k2 he => ?_)
    obtain ⟨oe,hoe,hce⟩ := he
    have hz2 : IsZip g2 zp ti to .ellipsis := k2 _ _ Z.a3.symm hz1
    have hez : e≠zp := fun x => by subst x; rw [hz2] at hoe; cases hoe; simp at hce
    exact wpAny_setField_rec hz2 (by simp) fun g3 _ k3 => hE g3 e _ (fun c o c1 _ c3 _ x => k3.extBut _ _ c1 (k2 _ _ c3 (k1.extBut _ _ c1 x))) ⟨oe,k3.extBut _ _ hez hoe,hce⟩
  · subst hend
    refine wpAny_bind (D1.item _ _ _ _ hlt (D1.at' s1 k1.extBut Z.b1.1) fun x g2 t2 px st1 k2 => wpAny_pure ?_)
    have ho2 : IsPair g2 to p q := k2.extBut _ _ Z.a5 (k1.extBut _ _ Z.a2 ho)
    refine wpAny_bind (wpAny_seqItems ho2 rfl (wpAny_bind (wpAny_updateSeq_pair ho2 fun g3 ho3 k3 => ?_)))
    refine wpAny_bind (wpAny_letGo (wpAny_pure ?_))
    refine wpAny_bind (wpAny_bind (wpAny_onRaise ?_))
    show wpAny _ _ (Builtin.SmallTypes.nextOf (.ref u2) >>= _) _ _ _
    refine wpAny_bind (D2.done _ _ _ (D2.at' (D2.at' (D2.at' s2 k1.extBut Z.b2.1) k2.extBut Z.b2.2.2) k3.extBut Z.b2.2.1) fun g4 e k4 he => ?_)
    obtain ⟨oe,hoe,hce⟩ := he
    have hz4 : IsZip g4 zp ti to .ellipsis := k4 _ _ Z.a4.symm (k3.extBut _ _ Z.a2.symm (k2.extBut _ _ Z.a3.symm hz1))
    have hez : e≠zp := fun x => by subst x; rw [hz4] at hoe; cases hoe; simp at hce
    exact wpAny_setField_rec hz4 (by simp) fun g5 _ k5 => hE g5 e _ (fun c o c1 c2 c3 c4 x => k5.extBut _ _ c1 (k4 _ _ c4 (k3.extBut _ _ c2 (k2.extBut _ _ c3 (k1.extBut _ _ c1 x))))) ⟨oe,k5.extBut _ _ hez hoe,hce⟩
theorem zhK {i : Nat} {Q : Option Value→Shared→Prop} (Z : ZA zp ti to u1 u2 f1 f2) (D1 : Draws prog w A.in1 u1 f1 n1 P1 St1) (D2 : Draws prog w A.in1 u2 f2 n2 P2 St2) (hz : IsZip s.heap zp ti to .none) (hi : IsPair s.heap ti (.ref u1) (.ref u2)) (ho : IsPair s.heap to p q)
    (s1 : St1 i s.heap) (s2 : St2 i s.heap) (l1 : i < n1) (l2 : i < n2)
    (hQ : ∀ x y h' tk,P1 i x→P2 i y→IsZip h' zp ti to (rawInt s.heap.objs.size)→IsPair h' to x y→St1 (i + 1) h'→St2 (i + 1) h'→IsPair h' s.heap.objs.size x y→h'.objs.size = s.heap.objs.size + 1 →
      (∀ c o,c≠zp→c≠to→c≠u1→c≠u2→s.heap.get? c = some o→h'.get? c = some o)→Q (some (.ref s.heap.objs.size)) { s with heap := h',toks := tk }) :
    wpAny (model prog w) A (pyNext (.ref zp)) Q E s := by
  have hT : s.TypeIs (.ref zp) "zip" := ⟨_,hz,rfl⟩
  unfold pyNext
  exact wpAny_bind (wpAny_attempt (wpAny_callSpecial?_slot (name := Str.ofString "__next__") hT F.slot_zip_next (wpAny_call_entry F.slot_zip_next hT F.entry_zip_next
      (zjl Z D1 D2 hz hi ho s1 s2 l1 l2 fun x y h' tk b1 b2 b3 b4 b5 b6 b7 b8 b9 => wpAny_pure (hQ x y h' tk b1 b2 b3 b4 b5 b6 b7 b8 b9)) (F.args_zip_next_1 _))))
theorem zfF {i : Nat} {Q : Option Value→Shared→Prop} (Z : ZA zp ti to u1 u2 f1 f2) (D1 : Draws prog w A.in1 u1 f1 n1 P1 St1) (D2 : Draws prog w A.in1 u2 f2 n2 P2 St2) (hz : IsZip s.heap zp ti to .none) (hi : IsPair s.heap ti (.ref u1) (.ref u2)) (ho : IsPair s.heap to p q)
    (s1 : St1 i s.heap) (s2 : St2 i s.heap) (hend : i = n1∨(i < n1∧i = n2)) (hQ : ∀ h' tk,(∀ c o,c≠zp→c≠to→c≠u1→c≠u2→s.heap.get? c = some o→h'.get? c = some o)→Q none { s with heap := h',toks := tk }) :
    wpAny (model prog w) A (pyNext (.ref zp)) Q E s := by
  have hT : s.TypeIs (.ref zp) "zip" := ⟨_,hz,rfl⟩
  unfold pyNext
  refine wpAny_bind (wpAny_attempt (wpAny_callSpecial?_slot (name := Str.ofString "__next__") hT F.slot_zip_next (wpAny_call_entry F.slot_zip_next hT F.entry_zip_next (zlm Z D1 D2 hz hi ho s1 s2 hend fun h' e tk hk he => ?_) (F.args_zip_next_1 _))))
  obtain ⟨o,ho,hc⟩ := he
  exact wpAny_bind (wpAny_isInstance (T := "StopIteration") (b := true) ⟨o,ho,hc⟩ isSubtype_stop (wpAny_pure (hQ _ _ hk)))
end
noncomputable abbrev itO (c : String) (l : Addr) : Obj := { cls := .type c,data := .fields #[.ref l,.int 0 0] }
noncomputable abbrev zg2 (h : Heap) (c1 c2 : String) (l1 l2 : Addr) : Heap := (h.push (itO c1 l1)).push (itO c2 l2)
noncomputable abbrev zg3 (h : Heap) (c1 c2 : String) (l1 l2 : Addr) : Heap := (zg2 h c1 c2 l1 l2).push { cls := .type "tuple",data := .seq #[.ref h.objs.size,.ref (h.push (itO c1 l1)).objs.size] }
noncomputable abbrev zg4 (h : Heap) (c1 c2 : String) (l1 l2 : Addr) : Heap := (zg3 h c1 c2 l1 l2).push { cls := .type "tuple",data := .seq #[.none,.none] }
noncomputable abbrev zg5 (h : Heap) (c1 c2 : String) (l1 l2 : Addr) : Heap := (zg4 h c1 c2 l1 l2).push { cls := .type "zip",data := .fields #[.none,.bool false,.bool false,.ref (zg2 h c1 c2 l1 l2).objs.size,.ref (zg3 h c1 c2 l1 l2).objs.size] }
theorem zh9 {h : Heap} {a : Addr} {xs : Array Value} (x : h.IsTuple a xs) (o : Obj) : (h.push o).IsTuple a xs := let ⟨u,hu,r⟩ := x; ⟨u,Heap.get?_push_of_some _ hu,r⟩
theorem zkb (l1 l2 : Addr) (xs ys : Array Value) : Meets (Builtin.«zip.__new__» ⟨[.type "zip",.ref l1,.ref l2],[]⟩) (fun _ R s => s.heap.IsList l1 xs∧s.heap.IsList l2 ys ∧
      R (.ok (.ret (.ref (zg4 s.heap "list_iterator" "list_iterator" l1 l2).objs.size))) { s with heap := zg5 s.heap "list_iterator" "list_iterator" l1 l2 }) :=
  .of_wp fun prog w A R s h => by
    obtain ⟨hp,gg,dd,tk,os⟩ := s; obtain ⟨q1,q2,h⟩ := h
    have hsub := sub_zip
    have e1 : Heap.IsList (Shared.heap ⟨hp,gg,dd,tk,os⟩) l1 xs := q1
    have e2 : Heap.IsList (Shared.heap ⟨hp.push (itO "list_iterator" l1),gg,dd,tk,os⟩) l2 ys := Heap.IsList.push q2 _
    wp_walk using wpAny_pyIter_list e1,wpAny_pyIter_list e2
    exact ⟨_,rfl,h⟩
theorem zj9 (l1 l2 : Addr) (xs ys : Array Value) : Meets (Builtin.«zip.__new__» ⟨[.type "zip",.ref l1,.ref l2],[]⟩) (fun _ R s => s.heap.IsTuple l1 xs∧s.heap.IsList l2 ys ∧
      R (.ok (.ret (.ref (zg4 s.heap "tuple_iterator" "list_iterator" l1 l2).objs.size))) { s with heap := zg5 s.heap "tuple_iterator" "list_iterator" l1 l2 }) :=
  .of_wp fun prog w A R s h => by
    obtain ⟨hp,gg,dd,tk,os⟩ := s; obtain ⟨q1,q2,h⟩ := h
    have hsub := sub_zip
    have e1 : Heap.IsTuple (Shared.heap ⟨hp,gg,dd,tk,os⟩) l1 xs := q1
    have e2 : Heap.IsList (Shared.heap ⟨hp.push (itO "tuple_iterator" l1),gg,dd,tk,os⟩) l2 ys := Heap.IsList.push q2 _
    wp_walk using wpAny_pyIter_tuple e1,wpAny_pyIter_list e2
    exact ⟨_,rfl,h⟩
theorem zj8 (l1 l2 : Addr) (xs ys : Array Value) : Meets (Builtin.«zip.__new__» ⟨[.type "zip",.ref l1,.ref l2],[]⟩) (fun _ R s => s.heap.IsTuple l1 xs∧s.heap.IsTuple l2 ys ∧
      R (.ok (.ret (.ref (zg4 s.heap "tuple_iterator" "tuple_iterator" l1 l2).objs.size))) { s with heap := zg5 s.heap "tuple_iterator" "tuple_iterator" l1 l2 }) :=
  .of_wp fun prog w A R s h => by
    obtain ⟨hp,gg,dd,tk,os⟩ := s; obtain ⟨q1,q2,h⟩ := h
    have hsub := sub_zip
    have e1 : Heap.IsTuple (Shared.heap ⟨hp,gg,dd,tk,os⟩) l1 xs := q1
    have e2 : Heap.IsTuple (Shared.heap ⟨hp.push (itO "tuple_iterator" l1),gg,dd,tk,os⟩) l2 ys := zh9 q2 _
    wp_walk using wpAny_pyIter_tuple e1,wpAny_pyIter_tuple e2
    exact ⟨_,rfl,h⟩
theorem zka (l1 l2 : Addr) (xs ys : Array Value) : Meets (Builtin.«zip.__new__» ⟨[.type "zip",.ref l1,.ref l2],[]⟩) (fun _ R s => s.heap.IsList l1 xs∧s.heap.IsTuple l2 ys ∧
      R (.ok (.ret (.ref (zg4 s.heap "list_iterator" "tuple_iterator" l1 l2).objs.size))) { s with heap := zg5 s.heap "list_iterator" "tuple_iterator" l1 l2 }) :=
  .of_wp fun prog w A R s h => by
    obtain ⟨hp,gg,dd,tk,os⟩ := s; obtain ⟨q1,q2,h⟩ := h
    have hsub := sub_zip
    have e1 : Heap.IsList (Shared.heap ⟨hp,gg,dd,tk,os⟩) l1 xs := q1
    have e2 : Heap.IsTuple (Shared.heap ⟨hp.push (itO "list_iterator" l1),gg,dd,tk,os⟩) l2 ys := zh9 q2 _
    wp_walk using wpAny_pyIter_list e1,wpAny_pyIter_tuple e2
    exact ⟨_,rfl,h⟩
section
variable {prog : Program} {w : World} {A : Around} {E : Value → Shared → Prop} {s : Shared}
noncomputable def Made (s : Shared) (c1 c2 : String) (l1 l2 : Addr) (Q : Value→Shared→Prop) : Prop :=
  ∀ h',IsZip h' (s.heap.objs.size + 4) (s.heap.objs.size + 2) (s.heap.objs.size + 3) .none→IsPair h' (s.heap.objs.size + 2) (.ref s.heap.objs.size) (.ref (s.heap.objs.size + 1)) →
      IsPair h' (s.heap.objs.size + 3) .none .none→h'.get? s.heap.objs.size = some (itO c1 l1)→h'.get? (s.heap.objs.size + 1) = some (itO c2 l2) →
      (∀ c o,s.heap.get? c = some o→h'.get? c = some o)→Q (.ref (s.heap.objs.size + 4)) { s with heap := h' }
theorem zgg {c1 c2 : String} {l1 l2 : Addr} {Q : Value→Shared→Prop} (h : Made s c1 c2 l1 l2 Q) : (∃ o,(zg5 s.heap c1 c2 l1 l2).get? (zg4 s.heap c1 c2 l1 l2).objs.size = some o∧o.cls = .type "zip")∧Q (.ref (zg4 s.heap c1 c2 l1 l2).objs.size) { s with heap := zg5 s.heap c1 c2 l1 l2 } := by
  have z1 : (s.heap.push (itO c1 l1)).objs.size = s.heap.objs.size + 1 := Heap.size_push ..
  have z2 : (zg2 s.heap c1 c2 l1 l2).objs.size = s.heap.objs.size + 2 := by rw [Heap.size_push,z1]
  have z3 : (zg3 s.heap c1 c2 l1 l2).objs.size = s.heap.objs.size + 3 := by rw [Heap.size_push,z2]
  have z4 : (zg4 s.heap c1 c2 l1 l2).objs.size = s.heap.objs.size + 4 := by rw [Heap.size_push,z3]
  have g5 : (zg5 s.heap c1 c2 l1 l2).get? (zg4 s.heap c1 c2 l1 l2).objs.size = some _ := Heap.get?_push_size _ rfl
  have g4 : (zg5 s.heap c1 c2 l1 l2).get? (zg3 s.heap c1 c2 l1 l2).objs.size = some _ := Heap.get?_push_of_some _ (Heap.get?_push_size _ rfl)
  have g3 : (zg5 s.heap c1 c2 l1 l2).get? (zg2 s.heap c1 c2 l1 l2).objs.size = some _ := Heap.get?_push_of_some _ (Heap.get?_push_of_some _ (Heap.get?_push_size _ rfl))
  have g2 : (zg5 s.heap c1 c2 l1 l2).get? (s.heap.push (itO c1 l1)).objs.size = some (itO c2 l2) := Heap.get?_push_of_some _ (Heap.get?_push_of_some _ (Heap.get?_push_of_some _ (Heap.get?_push_size _ rfl)))
  have g1 : (zg5 s.heap c1 c2 l1 l2).get? s.heap.objs.size = some (itO c1 l1) := Heap.get?_push_of_some _ (Heap.get?_push_of_some _ (Heap.get?_push_of_some _ (Heap.get?_push_of_some _ (Heap.get?_push_size _ rfl))))
  rw [z2,z3,z4] at g5
  rw [z1,z2] at g3
  rw [z3] at g4
  rw [z1] at g2
  rw [z4]
  exact ⟨⟨_,g5,rfl⟩,h _ g5 g3 g4 g1 g2 fun c o x => Heap.get?_push_of_some _ (Heap.get?_push_of_some _ (Heap.get?_push_of_some _ (Heap.get?_push_of_some _ (Heap.get?_push_of_some _ x))))⟩
theorem zmi {l1 l2 : Addr} {xs ys : Array Value} {Q : Value→Shared→Prop} (q1 : s.heap.IsList l1 xs) (q2 : s.heap.IsList l2 ys) (h : Made s "list_iterator" "list_iterator" l1 l2 Q) : wpAny (model prog w) A (call (.type "zip") [.ref l1,.ref l2]) Q E s :=
  callType_new F.called_zip (by decide) (F.typeCall_zip_2 _ _) (F.newCall_zip_2 _ _) (fun obj => F.args_object_init_3 obj _ _) F.entry_zip_new (zkb l1 l2 xs ys) ⟨q1,q2,zgg h⟩
theorem zmg {l1 l2 : Addr} {xs ys : Array Value} {Q : Value→Shared→Prop} (q1 : s.heap.IsTuple l1 xs) (q2 : s.heap.IsList l2 ys) (h : Made s "tuple_iterator" "list_iterator" l1 l2 Q) : wpAny (model prog w) A (call (.type "zip") [.ref l1,.ref l2]) Q E s :=
  callType_new F.called_zip (by decide) (F.typeCall_zip_2 _ _) (F.newCall_zip_2 _ _) (fun obj => F.args_object_init_3 obj _ _) F.entry_zip_new (zj9 l1 l2 xs ys) ⟨q1,q2,zgg h⟩
theorem zmf {l1 l2 : Addr} {xs ys : Array Value} {Q : Value→Shared→Prop} (q1 : s.heap.IsTuple l1 xs) (q2 : s.heap.IsTuple l2 ys) (h : Made s "tuple_iterator" "tuple_iterator" l1 l2 Q) : wpAny (model prog w) A (call (.type "zip") [.ref l1,.ref l2]) Q E s :=
  callType_new F.called_zip (by decide) (F.typeCall_zip_2 _ _) (F.newCall_zip_2 _ _) (fun obj => F.args_object_init_3 obj _ _) F.entry_zip_new (zj8 l1 l2 xs ys) ⟨q1,q2,zgg h⟩
theorem zmh {l1 l2 : Addr} {xs ys : Array Value} {Q : Value→Shared→Prop} (q1 : s.heap.IsList l1 xs) (q2 : s.heap.IsTuple l2 ys) (h : Made s "list_iterator" "tuple_iterator" l1 l2 Q) : wpAny (model prog w) A (call (.type "zip") [.ref l1,.ref l2]) Q E s :=
  callType_new F.called_zip (by decide) (F.typeCall_zip_2 _ _) (F.newCall_zip_2 _ _) (fun obj => F.args_object_init_3 obj _ _) F.entry_zip_new (zka l1 l2 xs ys) ⟨q1,q2,zgg h⟩
end
end DL
end
section
namespace DL
open PySem PySem.Spec PyProof.Rows L2
noncomputable def sqK (K : PySem.W.Frag) (t : Bool) (a : Addr) (H : Hp) (xs : List V) : Prop := match t with
  | false => SqL K H a xs
  | true => SqT K H a xs
noncomputable def itK (t : Bool) (a u : Addr) (i : Nat) (h : Heap) : Prop := match t with
  | false => h.IsListIter u a i
  | true => h.IsTupleIter u a i
noncomputable abbrev nmK (t : Bool) : String := match t with
  | false => "list_iterator"
  | true => "tuple_iterator"
theorem zks {t : Bool} {a u : Addr} {h : Heap} (e : h.get? u = some (itO (nmK t) a)) : itK t a u 0 h := by cases t <;> exact ⟨_,e,rfl,rfl⟩
theorem zgi {t : Bool} {a u : Addr} {i : Nat} {h : Heap} (e : itK t a u i h) : ∃ o,h.get? u = some o∧∀ v,o.data≠.cell v := by
  cases t <;> (obtain ⟨o,ho,hc,hd⟩ := e; exact ⟨o,ho,fun v z => by rw [hd] at z; cases z⟩)
theorem ze1 {t : Bool} {a u : Addr} {i : Nat} {h h' : Heap} (e : itK t a u i h) (k : ∀ o,h.get? u = some o→h'.get? u = some o) : itK t a u i h' := by
  cases t <;> (obtain ⟨o,ho,r⟩ := e; exact ⟨o,k o ho,r⟩)
section
variable {X : Cx} {pins : List (Addr × Obj)} {σ : L2.St} {H : Hp} {s : Shared} {t : Bool} {a u : Addr} {xs ys : List V} {i : Nat}
theorem zmc (I : Inv X pins σ H s) (hc : X.calm = true) (hq : sqK X.K t a H xs) (hau : a≠u) (hi : itK t a u i s.heap) : ∃ (its : List Value) (St : Nat→Heap→Prop),Vals xs its∧Draws X.prog X.w X.A.in1 u [u,a] its.toArray.size (fun i v => its.toArray[i]? = some v) St∧St i s.heap∧∀ j h',St j h'→itK t a u j h' := by
  cases t with
  | false =>
    obtain ⟨its,rv,p,hz⟩ := I.list hq
    exact ⟨its,_,rv,Draws.list (A := X.A.in1) (show X.A.in1.handled = none from I.ok.hd hc) u a hau its.toArray,⟨hi,p.isList⟩,fun j h' st => st.1⟩
  | true =>
    obtain ⟨its,rv,p,hz⟩ := I.tuple hq
    exact ⟨its,_,rv,zkM (A := X.A.in1) (show X.A.in1.handled = none from I.ok.hd hc) u a hau its.toArray,⟨hi,p⟩,fun j h' st => st.1⟩
theorem zjt (I : Inv X pins σ H s) (h1 : sqK X.K t a H xs) (h2 : sqK X.K t a H ys) : xs = ys := by
  cases t with
  | false => exact I.list_inj h1 h2
  | true => exact I.tuple_inj h1 h2
theorem zgJ (I : Inv X pins σ H s) (h1 : sqK X.K t a H xs) : a < s.heap.objs.size := by
  cases t with
  | false => obtain ⟨its,rv,p,hz⟩ := I.list h1; obtain ⟨o,ho,_⟩ := p.isList; exact Heap.lt_size ho
  | true => obtain ⟨its,rv,p,hz⟩ := I.tuple h1; obtain ⟨o,ho,_⟩ := id p; exact Heap.lt_size ho
theorem zkt {h' : Heap} {ch : List Addr} {t' : Nat} (I : Inv X pins σ H s) (hch : ∀ b∈ch,FpOk X pins H b) (k : ∀ b ob,b∉ch→s.heap.get? b = some ob→h'.get? b = some ob) : Inv X pins σ H { s with heap := h',toks := t' } := by
  have trk : ∀ b u,H b = some u→b∉ch := fun b u e hb => by rw [(hch b hb).1] at e; cases e
  refine I.step (g' := s.gens) (d' := s.drawn) (ch := ch) (fun b hb => ?_) (fun b ob _ _ hc e _ => k b ob hc e) (fun b ob _ _ hc e _ => ⟨ob.slots,k b ob hc e⟩) (fun b ob hc e n => n)
    (fun b ob hc e => ⟨ob,k b ob hc e⟩) (fun b xs e => e) (fun b ob u e => e) (fun b ps e => ⟨#[],by rw [e]; simp⟩) (fun m hm => ?_) (fun b u e => ?_) I.bare
  · obtain ⟨z0,z1,z2,z3,z4,z5⟩ := hch b hb
    exact ⟨z3,z1,z4,z5⟩
  · obtain ⟨ob,es,ep,ho,r⟩ := hm
    exact ⟨ob,es,ep,k _ ob (fun hb => (hch _ hb).2.1 rfl) ho,r⟩
  · refine (I.hok b u e).stay (fun c v hc q => k c v ?_ q) (fun c q => q) fun c xs q => q
    rcases hc with z | z
    · rw [z]; exact trk b u e
    · exact trk c _ z
end
noncomputable def Izp (sq1 sq2 : Hp→List V→Prop) : It :=
  ⟨fun i H => ∃ xs ys x y,sq1 H xs∧sq2 H ys∧xs[i]? = some x∧ys[i]? = some y,fun i H x H' => ∃ p v u,H p = none∧x = .ref p∧H' = upd H p (.tup [v,u])∧(∀ xs,sq1 H xs→xs[i]? = some v)∧∀ ys,sq2 H ys→ys[i]? = some u,
    fun i H => ∃ xs ys,sq1 H xs∧sq2 H ys∧min xs.length ys.length = i⟩
theorem zlR {P : Program} {w : World} {H : Hp} {h : Heap} {T : Addr} {x y : Value} {v u : V} (hT : h.get? T = some { cls := .type "tuple",data := .seq #[x,y] }) (r1 : L2.RelV v x) (r2 : L2.RelV u y) : zaZ P w H h T (.tup [v,u]) :=
  ⟨by show 2≤sizeLine; decide,[x,y],.cons r1 (.cons r2 .nil),⟨_,hT,rfl,0,rfl⟩,_,hT,rfl⟩
theorem zlo {P : Program} {w : World} {K : PySem.W.Frag} {elts : List Expr} {k : Nat} {pos : Pos} {t1 t2 : Bool} (a b zp ti to u1 u2 : Addr) (Z : ZA zp ti to u1 u2 [u1,a] [u2,b]) (h1 : a≠u1) (h2 : b≠u2) :
    Turn P w K (.Tuple elts k pos) (Izp (sqK K t1 a) (sqK K t2 b)) [zp,ti,to,u1,u2] zp (fun i h => IsZip h zp ti to .none∧IsPair h ti (.ref u1) (.ref u2)∧(∃ p q,IsPair h to p q)∧itK t1 a u1 i h∧itK t2 b u2 i h) where
  mem := by simp
  obj := fun i h st c hc => by
    obtain ⟨hz,hi,⟨p,q,ho⟩,s1,s2⟩ := st
    simp only [List.mem_cons,List.not_mem_nil,or_false] at hc
    rcases hc with rfl | rfl | rfl | rfl | rfl
    · exact ⟨_,hz,fun v z => by have z' : Data.fields _ = Data.cell v := z; cases z'⟩
    · exact ⟨_,hi,fun v z => by have z' : Data.seq _ _ = Data.cell v := z; cases z'⟩
    · exact ⟨_,ho,fun v z => by have z' : Data.seq _ _ = Data.cell v := z; cases z'⟩
    · exact zgi s1
    · exact zgi s2
  keep := fun i h h' st kk => by
    obtain ⟨hz,hi,⟨p,q,ho⟩,s1,s2⟩ := st
    exact ⟨kk zp (by simp) _ hz,kk ti (by simp) _ hi,⟨p,q,kk to (by simp) _ ho⟩,ze1 s1 fun o e => kk u1 (by simp) o e,ze1 s2 fun o e => kk u2 (by simp) o e⟩
  item := by
    intro X hP hw hK hc i pins s σ H E I hf st hg
    subst hP hw hK
    obtain ⟨xs,ys,x,y,q1,q2,hx,hy⟩ := hg
    obtain ⟨hz,hi,⟨p,q,ho⟩,s1,s2⟩ := st
    obtain ⟨its1,St1,rv1,D1,d1,f1⟩ := zmc I hc q1 h1 s1
    obtain ⟨its2,St2,rv2,D2,d2,f2⟩ := zmc I hc q2 h2 s2
    have l1 : i < its1.toArray.size := by
      have := (List.getElem?_eq_some_iff.mp hx).1
      rw [List.size_toArray,← rv1.length]; exact this
    have l2 : i < its2.toArray.size := by
      have := (List.getElem?_eq_some_iff.mp hy).1
      rw [List.size_toArray,← rv2.length]; exact this
    refine zhK Z D1 D2 hz hi ho d1 d2 l1 l2 fun vx vy h' tk px py hz' hto' st1' st2' hT hsz hk => ⟨_,rfl,wpAny_letOwnedTupleGo_zip hz' fun h'' hz'' hs'' => ?_⟩
    obtain ⟨wx,e1,r1⟩ := rv1.get hx
    obtain ⟨wy,e2,r2⟩ := rv2.get hy
    have ex : vx = wx := by
      have : its1[i]? = some vx := by simpa using px
      rw [e1] at this; exact (Option.some.inj this).symm
    have ey : vy = wy := by
      have : its2[i]? = some vy := by simpa using py
      rw [e2] at this; exact (Option.some.inj this).symm
    subst ex ey
    have nT : ∀ c o,s.heap.get? c = some o→s.heap.objs.size≠c := fun c o e => Nat.ne_of_gt (Heap.lt_size e)
    have hT'' : h''.get? s.heap.objs.size = some { cls := .type "tuple",data := .seq #[vx,vy] } := (hs''.2 _ (nT _ _ hz)).trans hT
    obtain ⟨o1,ho1,_⟩ := zgi s1
    obtain ⟨o2,ho2,_⟩ := zgi s2
    refine ⟨.ref s.heap.objs.size,upd H s.heap.objs.size (.tup [x,y]),zgj (s := s) (h' := h'') (t' := tk) (ch := [zp,to,u1,u2]) I (fun c hc => hf c ?_) (fun c ob hb e => ?_) (Nat.le_refl _) (zlR hT'' r1 r2),rfl,⟨_,x,y,I.hok.fresh (Nat.le_refl _),rfl,rfl,fun zs hz => by rw [zjt I hz q1]; exact hx,fun zs hz => by rw [zjt I hz q2]; exact hy⟩,⟨hz'',?_,⟨vx,vy,?_⟩,?_,?_⟩,fun c hc => ?_⟩
    · simp only [List.mem_cons,List.not_mem_nil,or_false] at hc ⊢
      rcases hc with rfl | rfl | rfl | rfl <;> simp
    · simp only [List.mem_cons,List.not_mem_nil,or_false,not_or] at hb
      exact (hs''.2 c hb.1).trans (hk c ob hb.1 hb.2.1 hb.2.2.1 hb.2.2.2 e)
    · exact (hs''.2 _ Z.a1).trans (hk _ _ Z.a1 Z.a8.1 Z.a8.2.1 Z.a8.2.2 hi)
    · exact (hs''.2 _ Z.a2).trans hto'
    · exact ze1 (f1 _ _ st1') fun o e => (hs''.2 _ Z.a3).trans e
    · exact ze1 (f2 _ _ st2') fun o e => (hs''.2 _ Z.a4).trans e
    · rw [zat ?_]
      · exact (hf c hc).1
      · simp only [List.mem_cons,List.not_mem_nil,or_false] at hc
        rcases hc with rfl | rfl | rfl | rfl | rfl
        · exact (nT _ _ hz).symm
        · exact (nT _ _ hi).symm
        · exact (nT _ _ ho).symm
        · exact (nT _ _ ho1).symm
        · exact (nT _ _ ho2).symm
  done := by
    intro X hP hw hK hc i pins s σ H E I hf st hg
    subst hP hw hK
    obtain ⟨xs,ys,q1,q2,hm⟩ := hg
    obtain ⟨hz,hi,⟨p,q,ho⟩,s1,s2⟩ := st
    obtain ⟨its1,St1,rv1,D1,d1,f1⟩ := zmc I hc q1 h1 s1
    obtain ⟨its2,St2,rv2,D2,d2,f2⟩ := zmc I hc q2 h2 s2
    have l1 := rv1.length
    have l2 := rv2.length
    refine zfF Z D1 D2 hz hi ho d1 d2 ?_ fun h' tk hk => ⟨rfl,zkt (h' := h') (t' := tk) (ch := [zp,to,u1,u2]) I (fun c hc => hf c ?_) fun c ob hb e => ?_⟩
    · rw [List.size_toArray,List.size_toArray]
      omega
    · simp only [List.mem_cons,List.not_mem_nil,or_false] at hc ⊢
      rcases hc with rfl | rfl | rfl | rfl <;> simp
    · simp only [List.mem_cons,List.not_mem_nil,or_false,not_or] at hb
      exact hk c ob hb.1 hb.2.1 hb.2.2.1 hb.2.2.2 e
  self := fun _ _ _ _ _ st h => wpAny_pyIter_zip st.1 h
noncomputable def fZip (fa fb : FE) : FI := fun r => (fa r).bind fun d => (fb r).bind fun e => (opt (zbm d)).bind fun ds => (opt (zbm e)).bind fun es => .ok (List.zipWith (fun a b => D.tup [a,b]) ds es)
theorem zll {α β γ : Type} (f : α→β→γ) : ∀ (l : List α) (r : List β) (i : Nat),(List.zipWith f l r)[i]? = (match l[i]?,r[i]? with | some a,some b => some (f a b) | _,_ => none) := fun l r i => by
  rw [List.getElem?_zipWith]
  cases l[i]? <;> cases r[i]? <;> rfl
theorem zoh {K : PySem.W.Frag} {ds es : List D} {G0 : GH} {sq1 sq2 : Hp→List V→Prop} (h1 : ∀ G H,Gle G0 G→GOk K G H→∃ xs,sq1 H xs∧RGs K G xs ds) (h2 : ∀ G H,Gle G0 G→GOk K G H→∃ xs,sq2 H xs∧RGs K G xs es) : Yields K (Izp sq1 sq2) (List.zipWith (fun a b => D.tup [a,b]) ds es) G0 := by
  refine ⟨fun G H i w gk hi => ?_,fun G H i x H' d w gk y e => ?_,fun G H w gk => ?_⟩
  · obtain ⟨xs,s1,r1⟩ := h1 G H w gk
    obtain ⟨ys,s2,r2⟩ := h2 G H w gk
    rw [List.length_zipWith] at hi
    have l1 := Paired.length r1
    have l2 := Paired.length r2
    exact ⟨xs,ys,xs[i]'(by omega),ys[i]'(by omega),s1,s2,List.getElem?_eq_getElem _,List.getElem?_eq_getElem _⟩
  · obtain ⟨xs,s1,r1⟩ := h1 G H w gk
    obtain ⟨ys,s2,r2⟩ := h2 G H w gk
    obtain ⟨p,v,u,hp,rfl,rfl,hv,hu⟩ := y
    rw [zll] at e
    cases e1 : ds[i]? with
    | none => rw [e1] at e; cases e
    | some d1 =>
      cases e2 : es[i]? with
      | none => rw [e1,e2] at e; cases e
      | some d2 =>
        rw [e1,e2] at e
        cases e
        obtain ⟨v',z1,rv⟩ := Paired.get r1 e1
        obtain ⟨u',z2,ru⟩ := Paired.get r2 e2
        have a1 := hv xs s1
        have a2 := hu ys s2
        rw [z1] at a1; cases a1
        rw [z2] at a2; cases a2
        exact ⟨_,Grow.newF gk hp (.tup (.inl zam) (.cons rv (.cons ru .nil))),.ref za9⟩
  · obtain ⟨xs,s1,r1⟩ := h1 G H w gk
    obtain ⟨ys,s2,r2⟩ := h2 G H w gk
    refine ⟨xs,ys,s1,s2,?_⟩
    rw [List.length_zipWith,Paired.length r1,Paired.length r2]
section
variable {X : Cx} {g : GE} {m : List Md} {e1 e2 : Expr} {fa fb : FE} {pos p pos2 : Pos} {elts : List Expr} {kk : Nat}
theorem zob {pins : List (Addr × Obj)} {σ : L2.St} {H : Hp} {s : Shared} {t1 t2 : Bool} {a b : Addr} {xs ys : List V} {E : Value→Shared→Prop} {Q : Value→Shared→Prop} (I : Inv X pins σ H s) (q1 : sqK X.K t1 a H xs) (q2 : sqK X.K t2 b H ys) (h : Made s (nmK t1) (nmK t2) a b Q) : wpAny (model X.prog X.w) X.A (call (.type "zip") [.ref a,.ref b]) Q E s := by
  cases t1 with
  | false =>
    obtain ⟨its1,_,p1,_⟩ := I.list q1
    cases t2 with
    | false => obtain ⟨its2,_,p2,_⟩ := I.list q2; exact zmi p1.isList p2.isList h
    | true => obtain ⟨its2,_,p2,_⟩ := I.tuple q2; exact zmh p1.isList (show s.heap.IsTuple b its2.toArray from p2) h
  | true =>
    obtain ⟨its1,_,p1,_⟩ := I.tuple q1
    cases t2 with
    | false => obtain ⟨its2,_,p2,_⟩ := I.list q2; exact zmg (show s.heap.IsTuple a its1.toArray from p1) p2.isList h
    | true => obtain ⟨its2,_,p2,_⟩ := I.tuple q2; exact zmf (show s.heap.IsTuple a its1.toArray from p1) (show s.heap.IsTuple b its2.toArray from p2) h
theorem zdZ {x y : Nat} (h : x≠y) : (show Addr from x)≠(show Addr from y) := h
theorem zev {x u a : Nat} (h1 : x≠u) (h2 : x≠a) : (show Addr from x)∉[(show Addr from u),(show Addr from a)] := fun h => by
  rcases List.mem_cons.mp h with h | h
  · exact h1 h
  · exact h2 (List.mem_singleton.mp h)
theorem zog {a b k : Nat} (la : a < k) (lb : b < k) : ZA (show Addr from k + 4) (show Addr from k + 2) (show Addr from k + 3) (show Addr from k) (show Addr from k + 1) [(show Addr from k),(show Addr from a)] [(show Addr from k + 1),(show Addr from b)] :=
  ⟨zdZ (by omega),zdZ (by omega),zdZ (by omega),zdZ (by omega),zdZ (by omega),zdZ (by omega),zdZ (by omega),⟨zdZ (by omega),zdZ (by omega),zdZ (by omega)⟩,
    ⟨zev (by omega) (by omega),zev (by omega) (by omega),zev (by omega) (by omega)⟩,⟨zev (by omega) (by omega),zev (by omega) (by omega),zev (by omega) (by omega)⟩⟩
theorem zpQ {c k : Nat} (h : c = k + 4∨c = k + 2∨c = k + 3∨c = k∨c = k + 1) : k≤c := by omega
theorem zoV {ta tb : TE} (hg : Gl X "zip") (hm : X.mg "zip" = none) (ha : PE X e1 ta) (hb : PE X e2 tb) (hs : starEach [e1,e2] X.env = (false,eval e1 X.env)::starEach [e2] X.env := by rfl) (hs2 : starEach [e2] X.env = (false,eval e2 X.env)::starEach [] X.env := by rfl) (hpl : (backTo pos (starEach [e2] X.env)).any (·.1) = false := by rfl) :
    PI X (.Tuple elts kk pos2) (.Call (.Name "zip" p) [e1,e2] [] pos) (fun σ H R => ta σ H fun x H1 => tb σ H1 fun y H2 => ∃ (t1 t2 : Bool) (a b : Addr),x = .ref a∧y = .ref b∧(∃ xs,sqK X.K t1 a H2 xs)∧(∃ ys,sqK X.K t2 b H2 ys)∧R (Izp (sqK X.K t1 a) (sqK X.K t2 b)) H2) := by
  intro pins s σ H R I h
  refine Call_ (zfU I hg hm boot_zip (PyProof.Rows.callWith_type1 (thn (zbJ ha (zbJ hb zdW hs2) hs pos pins s σ H (fun vs H2 => match vs with
    | [x,y] => ∃ (t1 t2 : Bool) (a b : Addr),x = .ref a∧y = .ref b∧(∃ xs,sqK X.K t1 a H2 xs)∧(∃ ys,sqK X.K t2 b H2 ys)∧R (Izp (sqK X.K t1 a) (sqK X.K t2 b)) H2
    | _ => False) I h) fun us s1 ⟨vs,H1,I1,r1,q1⟩ => ?_) hs hpl))
  cases r1 with
  | nil => exact q1.elim
  | @cons x u xs us rx rt =>
  cases rt with
  | nil => exact q1.elim
  | @cons y u' xs' us' ry rt' =>
  cases rt' with
  | cons _ _ => exact q1.elim
  | nil =>
  obtain ⟨t1,t2,a,b,rfl,rfl,⟨zs,z1⟩,⟨ws,z2⟩,q⟩ := q1
  cases rx
  cases ry
  have la := zgJ I1 z1
  have lb := zgJ I1 z2
  refine zob I1 z1 z2 fun h' hz hi ho o1 o2 kp => wpAny_pyIter_zip hz ?_
  refine ⟨_,[s1.heap.objs.size + 4,s1.heap.objs.size + 2,s1.heap.objs.size + 3,s1.heap.objs.size,s1.heap.objs.size + 1],_,_,H1,rfl,I1.kept (t' := s1.toks) kp,zlo (t1 := t1) (t2 := t2) a b _ _ _ _ _ (zog la lb) (Nat.ne_of_lt la) (Nat.ne_of_lt (Nat.lt_succ_of_lt lb)),⟨hz,hi,⟨_,_,ho⟩,zks o1,zks o2⟩,fun c hc => ?_,q⟩
  have hge : s1.heap.objs.size≤c := by
    simp only [List.mem_cons,List.not_mem_nil,or_false] at hc
    exact zpQ hc
  exact I1.fpOk hge (I1.hok.fresh hge)
theorem zpN (hg : Gl X "zip") (hm : X.mg "zip" = none) (ha : SE X g m e1 fa) (hb : SE X g m e2 fb) (hs : starEach [e1,e2] X.env = (false,eval e1 X.env)::starEach [e2] X.env := by rfl) (hs2 : starEach [e2] X.env = (false,eval e2 X.env)::starEach [] X.env := by rfl) (hpl : (backTo pos (starEach [e2] X.env)).any (·.1) = false := by rfl) : SIt X g m (.Tuple elts kk pos2) (.Call (.Name "zip" p) [e1,e2] [] pos) (fZip fa fb) := by
  refine PI.imp (zoV hg hm ha hb hs hs2 hpl) fun σ H R ⟨r,G,si,q⟩ => ⟨r,G,si,zah (zaf q) fun d q v G1 H1 w1 rv => ⟨r,G1,si.grow w1,?_⟩⟩
  refine zaG (zaf q) w1 fun e q u G2 H2 w2 ru => ?_
  obtain ⟨ds,ed,q⟩ := zav (zaf q)
  obtain ⟨es,ee,q⟩ := zav (zaf q)
  have rv2 := rv.mono w2.ge
  have one : ∀ {v : V} {d : D} {ds : List D},RG X.K G2 v d→zbm d = some ds→∃ (t : Bool) (a : Addr),v = .ref a∧(∃ xs,sqK X.K t a H2 xs)∧∀ G H,Gle G2 G→GOk X.K G H→∃ xs,sqK X.K t a H xs∧RGs X.K G xs ds := by
    intro v d ds rv ed
    cases d with
    | lst ds' =>
      cases ed
      obtain ⟨a,xs,rfl,s,rs⟩ := rv.lst w2.ok
      refine ⟨false,a,rfl,⟨xs,s⟩,fun G H le gk => ?_⟩
      obtain ⟨b,ys,e,s',r'⟩ := (rv.mono le).lst gk
      cases e
      exact ⟨ys,s',r'⟩
    | tup ds' =>
      cases ed
      obtain ⟨a,xs,rfl,s,rs⟩ := rv.tup w2.ok
      refine ⟨true,a,rfl,⟨xs,s⟩,fun G H le gk => ?_⟩
      obtain ⟨b,ys,e,s',r'⟩ := (rv.mono le).tup gk
      cases e
      exact ⟨ys,s',r'⟩
    | _ => cases ed
  obtain ⟨t1,a,rfl,x1,y1⟩ := one rv2 ed
  obtain ⟨t2,b,rfl,x2,y2⟩ := one ru ee
  exact ⟨t1,t2,a,b,rfl,rfl,x1,x2,q _ G2 H2 (w1.trans w2) (zoh y1 y2)⟩
end
end DL
end
section
namespace DL
open PySem PyProof.Rows L2
variable {X : Cx} {g : GE} {m mb : List Md} {e a b o c : Expr} {f fa fb fc : FE} {pos pos' : Pos}
open Classical in
noncomputable def inE (x c : D) : Option D := match c with
  | .lst ds => if Shp 60 x∧Shp 60 (.lst ds) then some (.bl (ds.any fun y => eqb y x)) else none
  | _ => none
theorem zgF : ∀ ds : List D,zcR ds = ds.map toPy
  | [] => by unfold zcR; rfl
  | d::ds => by unfold zcR; rw [zgF ds]; rfl
noncomputable def rInE (K : PySem.W.Frag) : R2 := fun x y H Q => ∃ (G : GH) (d : D) (ds : List D),GOk K G H∧RB K G H x d∧RB K G H y (.lst ds)∧Shp 60 d∧Shp 60 (.lst ds)∧Q (.bl (ds.any fun z => eqb z d)) H
theorem zpc (hu : X.A.units + 64 < cLine) : OpR X (compareOp .In) (rInE X.K) := by
  intro pins s σ H x y v u Q I rx ry h
  obtain ⟨G,d,ds,gk,r1,r2,s1,s2,q⟩ := h
  obtain ⟨as,h1⟩ := zdH I gk 60 d x v s1 r1 rx
  obtain ⟨bs,h2⟩ := zdH I gk 60 (.lst ds) y u s2 r2 ry
  have e : toPy (.lst ds) = PyData.list (zcR ds) := by rw [toPy]
  rw [e] at h2
  obtain ⟨c1,c2⟩ := zju 60 d s1
  obtain ⟨k1,k2⟩ := zf7 (k := 59) (zju 59) ds (zd1.mp s2)
  refine SeqAt.in_list_reads h2 h1 k1 c1 ?_ ⟨.bl _,H,I,rfl,?_⟩
  · have : min (PyData.depthAll (zcR ds)) (toPy d).depth≤60 := Nat.le_trans (Nat.min_le_right _ _) c2
    omega
  · rw [zgF,List.any_map]
    exact q
theorem zpL {K : PySem.W.Frag} : OpD K (rInE K) inE := by
  intro G H v1 v2 d1 d2 d Q gk r1 r2 e q
  unfold inE at e
  split at e
  · rename_i ds
    split at e
    · rename_i hs
      cases e
      exact ⟨G,d1,ds,gk,r1,r2,hs.1,hs.2,q _ G H (Grow.refl gk) (.scl (.bl _))⟩
    · cases e
  · cases e
theorem zqy (hu : X.A.units + 64 < cLine) (ha : SB X g m a fa) (hb : SB X g m b fb) (hm : behindInMarks .In b = false := by rfl) : SE X g m (.Compare a [.In] [b] pos) (f2 fa fb inE) := zjy (zpc hu) zpL ha hb hm
end DL
end
section
namespace DL
open PySem PySem.Spec PyProof.Rows L2
noncomputable def kyD : Key→D
  | .inl i => .int i
  | .inr x => .str x
theorem znR (k : Key) : Scl (kV k) (kyD k) := by
  cases k with
  | inl i => exact .int i
  | inr x => exact .str x
theorem zpA {P : Program} {w : World} {k : Key} {u : Value} (h : (zbl P w).is k u = true) : RelV (kV k) u := by
  rcases keyIs_shape h with ⟨i,t,rfl,rfl⟩ | ⟨x,t,rfl,rfl⟩
  · exact ⟨t,rfl⟩
  · exact ⟨t,rfl⟩
section
variable {X : Cx} {pins : List (Addr × Obj)} {σ : L2.St} {H : Hp} {s : Shared} {a : Addr} {ob : Obj} {ps : List (Key × V)}
end
section
variable {X : Cx} {g : GE} {m m' m1 mb : List Md} {tg e a b c iter : Expr} {f fa fb : FE} {p : FQ} {pos pos' : Pos} {ro : Bool} {fl : Rho → Res (List D)} {sts : List Stmt} {s1 : FS}
structure Had (g : GE) (a : Addr) (d : D) (u : HO) : Prop where
  h0 : ∀ o,g.h0 a = some o→o = u
  gh : ∀ x,g.gh a = some x→x = d
  gf : g.h0 a≠none→g.gh a = some d
end
end DL
end
section
namespace DL
open PySem PySem.Spec PyProof.Rows L2
section
variable {X : Cx} {g : GE} {m : List Md} {e o : Expr} {es : List Expr} {fo : FE} {fl : Rho → Res (List D)} {pos p pos' : Pos}
theorem zfI (hc : X.calm = true) : zdk X (.type "list") (fun xs H Q => ∃ d kvs,xs = [.ref d]∧Rd H d (.dK kvs)∧∀ l,H l = none→Q (.ref l) (upd H l (.lst (kvs.map fun kv => kV kv.1)))) := by
  intro pins s σ H xs us Q I r h
  obtain ⟨d,kvs,rfl,hd,q⟩ := h
  obtain ⟨u,rfl,rx⟩ := zea r
  cases rx
  obtain ⟨z1,ns1,vs1,r1,dd1⟩ := (show zaZ X.prog X.w H s.heap d (.dK kvs) from hd.ok I.hok)
  obtain ⟨ep,hat⟩ := dd1.dictAt
  have l1 := Paired.length r1
  refine PySem.W.kdl_call (PySem.W.kdl_dict (knd := zbl X.prog X.w) (kvs := vs1) (ep := ep) ns1) (I.ok.hd hc) hat (by omega) fun h' tk acc c' kp hS hacc => ?_
  have hvals : Vals (kvs.map fun kv => kV kv.1) acc.toList := by
    refine zc4 (by have h1 := hacc.1; have h2 : acc.toList.length = acc.size := Array.length_toList; rw [List.length_map]; omega) fun j v u e1 e2 => ?_
    obtain ⟨k,x,hk,hi⟩ := hacc.2 j u (by rw [← Array.getElem?_toList]; exact e2)
    rw [List.getElem?_map] at e1
    cases e3 : kvs[j]? with
    | none => rw [e3] at e1; cases e1
    | some kv =>
      rw [e3] at e1
      cases e1
      obtain ⟨kv',e4,e5⟩ := DL.Paired.get r1 hk
      rw [e3] at e4
      cases e4
      have e6 : kv.1 = k := e5.1
      show L2.RelV (kV kv.1) u
      rw [e6]
      exact zpA hi
  refine ⟨.ref s.heap.objs.size,_,I.laid (t' := tk) kp (Nat.le_refl _) (show zaZ X.prog X.w _ h' _ (.lst (kvs.map fun kv => kV kv.1)) from ⟨by rw [List.length_map]; exact z1,acc.toList,c',hvals,by rw [Array.toArray_toList]; exact hS⟩),rfl,q _ (I.hok.fresh (Nat.le_refl _))⟩
noncomputable def zki : D→Option D
  | .dic kvs => some (.lst (kvs.map fun kv => kyD kv.1))
  | _ => none
theorem zpv {K : PySem.W.Frag} {G : GH} : ∀ {ps : List (Key × V)} {kvs : List (Key × D)},RKs K G ps kvs→RGs K G (ps.map fun kv => kV kv.1) (kvs.map fun kv => kyD kv.1)
  | _,_,.nil => .nil
  | p::_,q::_,.cons r t => .cons (show RG K G (kV p.1) (kyD q.1) by rw [r.1]; exact .scl (znR _)) (zpv t)
theorem zph (hc : X.calm = true) (hg : Gl X "list") (hm : X.mg "list" = none) (ho : SB X g m o fo) (hs2 : starEach [o] X.env = (false,eval o X.env)::starEach [] X.env := by rfl) :
    SO X g m (.Call (.Name "list" pos') [o] [] pos) (f1 fo zki) := by
  refine PE.imp (zcY (zfI hc) hg hm rfl (zbJ ho zdW hs2) (by decide) (by decide) hs2 rfl) fun σ H Q ⟨r,G,si,q⟩ => ⟨r,G,si,zah (zaf q) fun d q1 v G1 H1 w1 r1 => ?_⟩
  obtain ⟨d',e,q2⟩ := zav q1
  cases d with
  | dic kvs =>
    cases e
    obtain ⟨a,ps,rfl,hs,rs⟩ := r1.dic w1.ok
    refine ⟨a,ps,rfl,hs,fun l hl => ?_⟩
    have w3 := Grow.new w1.ok hl (.lst (ps.map fun kv => kV kv.1))
    exact q2 l G1 _ (w1.trans w3) (by
      cases q : H l with
      | none => rfl
      | some u => rw [w1.he _ _ q] at hl; cases hl) ⟨w1.ok.isN hl,.lst zam (zpv rs)⟩
  | _ => cases e
end
end DL
end
section
namespace Rg
theorem zem {α : Type} [DecidableEq α] : ∀ {l m : List α},l.Nodup→(∀ x∈l,x∈m)→l.length≤m.length
  | [],_,_,_ => Nat.zero_le _
  | a::l,m,hn,hs => by
    have hn' := List.nodup_cons.mp hn
    have h1 := zem (l := l) (m := m.erase a) hn'.2 fun x hx => by
      have hxa : x≠a := by rintro rfl; exact hn'.1 hx
      exact (List.mem_erase_of_ne hxa).mpr (hs x (List.mem_cons_of_mem _ hx))
    have ha : a∈m := hs a List.mem_cons_self
    rw [List.length_erase_of_mem ha] at h1
    have := List.length_pos_of_mem ha
    simp only [List.length_cons]; omega
structure S where
  line : List Nat
  things : List Nat
section
variable (W : Nat → List Nat) (O : Nat → Option Nat)
noncomputable def best (row things : List Nat) : Nat := (row.find? fun x => decide (x∈things)).getD 0
noncomputable def tgt (s : S) (h : Nat) : Nat := best (W h) s.things
noncomputable def pt (s : S) (x : Nat) : Nat := (s.line.find? fun h => decide (O h = some x)).getD (s.line.headD 0)
noncomputable def nxt (s : S) (h : Nat) : Nat := pt O s (tgt W s h)
noncomputable def zqO (s : S) (C : List Nat) : S := ⟨s.line.filter fun h => decide (h∉C),s.things.filter fun x => decide (x∉C.map (tgt W s))⟩
noncomputable def it {α : Type} (f : α→α) : Nat→α→α
  | 0,x => x
  | n + 1,x => it f n (f x)
theorem zkr {α : Type} (f : α→α) : ∀ (a b : Nat) (x : α),it f (a + b) x = it f b (it f a x)
  | 0,b,x => by rw [Nat.zero_add]; rfl
  | a + 1,b,x => by rw [Nat.add_right_comm]; exact zkr f a b (f x)
theorem zhR {α : Type} (f : α→α) (n : Nat) (x : α) : it f (n + 1) x = f (it f n x) := zkr f n 1 x
structure Ok (s : S) : Prop where
  nl : s.line.Nodup
  nt : s.things.Nodup
  le : s.line.length≤s.things.length
  row : ∀ h∈s.line,∀ x∈s.things,x∈W h
  inj : ∀ h k x,O h = some x→O k = some x→h = k
  own : ∀ h∈s.line,∀ x,O h = some x→x∈s.things
structure Cyc (s : S) (C : List Nat) : Prop where
  sub : ∀ h∈C,h∈s.line
  cl : ∀ h∈C,nxt W O s h∈C
  per : ∀ h∈C,∃ k,it (nxt W O s) (k + 1) h = h
variable {W O}
theorem zgu {row things : List Nat} (h : ∃ x∈row,x∈things) : best row things∈things := by
  unfold best
  cases e : row.find? fun x => decide (x∈things) with
  | none =>
    obtain ⟨x,h1,h2⟩ := h
    have := List.find?_eq_none.mp e x h1
    simp [h2] at this
  | some x => have := List.find?_some e; simpa using this
theorem zmn {row things t' : List Nat} (hs : ∀ x∈t',x∈things) (hb : best row things∈t') (hr : best row things∈row) : best row t' = best row things := by
  unfold best at *
  cases e : row.find? fun x => decide (x∈things) with
  | none =>
    rw [e] at hb hr
    have := List.find?_eq_none.mp e _ hr
    simp only [decide_eq_true_eq] at this
    exact absurd (hs _ hb) this
  | some x =>
    rw [e] at hb
    simp only [Option.getD_some] at hb ⊢
    obtain ⟨hx,as,bs,rfl,h2⟩ := List.find?_eq_some_iff_append.mp e
    rw [List.find?_append]
    have : as.find? (fun y => decide (y∈t')) = none := List.find?_eq_none.mpr fun y hy => by
      have := h2 y hy
      simp only [Bool.not_eq_true',decide_eq_false_iff_not] at this
      simp only [decide_eq_true_eq]
      exact fun z => this (hs y z)
    rw [this]
    simp [List.find?_cons,hb]
variable {s : S}
theorem zoR (k : Ok W O s) {h x : Nat} (hh : h∈s.line) (ho : O h = some x) : pt O s x = h := by
  unfold pt
  cases e : s.line.find? fun h => decide (O h = some x) with
  | none =>
    have := List.find?_eq_none.mp e h hh
    simp [ho] at this
  | some y =>
    have := List.find?_some e
    simp only [decide_eq_true_eq] at this
    exact k.inj y h x this ho
theorem Cyc.it_mem {C : List Nat} (c : Cyc W O s C) {h : Nat} (hh : h∈C) : ∀ n,it (nxt W O s) n h∈C := by
  intro n
  induction n generalizing h with
  | zero => exact hh
  | succ n ih => exact ih (c.cl h hh)
inductive TTC (W : Nat→List Nat) (O : Nat→Option Nat) (a : Nat→Nat) : S→Prop where
  | nil {s : S} : s.line = []→TTC W O a s
  | step {s : S} (C : List Nat) : Cyc W O s C→(∀ h∈C,a h = tgt W s h)→TTC W O a (zqO W s C)→TTC W O a s
end
end Rg
end
section
namespace Rg
section
variable {W : Nat → List Nat} {O : Nat → Option Nat} {s : S} {a : Nat → Nat}
noncomputable def orb (f : Nat→Nat) (x n : Nat) : List Nat := (List.range n).map fun i => it f i x
theorem ziq (f : Nat→Nat) (x n : Nat) : orb f x (n + 1) = orb f x n++[it f n x] := by
  unfold orb; rw [List.range_succ,List.map_append]; rfl
theorem znw (f : Nat→Nat) (x n : Nat) : (orb f x n).length = n := by simp [orb]
end
end Rg
end
section
namespace Rg
section
variable {W W' : Nat → List Nat} {O : Nat → Option Nat} {s : S} {a b : Nat → Nat}
theorem ziH {row T : List Nat} {x : Nat} (hx : x∈T) (hr : x∈row) : row.idxOf (best row T)≤row.idxOf x := by
  unfold best
  cases e : row.find? fun y => decide (y∈T) with
  | none => have := List.find?_eq_none.mp e x hr; simp [hx] at this
  | some y =>
    obtain ⟨hy,as,bs,rfl,h2⟩ := List.find?_eq_some_iff_append.mp e
    have n1 : ∀ z∈as,z∉T := fun z hz => by have := h2 z hz; simpa using this
    simp only [decide_eq_true_eq] at hy
    have hya : y∉as := fun q => n1 y q hy
    have hxa : x∉as := fun q => n1 x q hx
    simp only [Option.getD_some]
    rw [List.idxOf_append,List.idxOf_append,if_neg hya,if_neg hxa]
    simp
noncomputable def zjP (f : Nat→Nat) : Nat→List Nat→Nat→List Nat × Nat
  | 0,path,here => (path,here)
  | n + 1,path,here => if here∈path then (path,here) else zjP f n (path++[here]) (f here)
theorem zof {f : Nat→Nat} {x : Nat} {l : List Nat} (hcl : ∀ h∈l,f h∈l) (hx : x∈l) : ∀ (n i : Nat),(orb f x i).Nodup→l.length < n + i→∃ k,(orb f x k).Nodup∧it f k x∈orb f x k∧zjP f n (orb f x i) (it f i x) = (orb f x k,it f k x) := by
  have mem : ∀ i,it f i x∈l := by
    intro i
    induction i with
    | zero => exact hx
    | succ i ih => rw [zhR]; exact hcl _ ih
  intro n
  induction n with
  | zero =>
    intro i hn hl
    have := zem hn (m := l) fun y hy => by obtain ⟨j,_,rfl⟩ := List.mem_map.mp hy; exact mem j
    rw [znw] at this; omega
  | succ n ih =>
    intro i hn hl
    unfold zjP
    by_cases q : it f i x∈orb f x i
    · rw [if_pos q]; exact ⟨i,hn,q,rfl⟩
    · rw [if_neg q,← ziq,← zhR f]
      refine ih (i + 1) ?_ (by omega)
      rw [ziq]
      refine List.nodup_append.mpr ⟨hn,by simp,fun y hy z hz => ?_⟩
      rw [List.mem_singleton] at hz
      rw [hz]
      rintro rfl
      exact q hy
theorem zqf (f : Nat→Nat) (x : Nat) : ∀ (k i : Nat),i≤k→(orb f x k).drop i = orb f (it f i x) (k - i) := by
  intro k i h
  refine List.ext_getElem? fun j => ?_
  unfold orb
  rw [List.getElem?_drop,List.getElem?_map,List.getElem?_map]
  by_cases hj : i + j < k
  · rw [List.getElem?_range hj,List.getElem?_range (by omega)]
    simp only [Option.map_some]
    rw [zkr]
  · rw [List.getElem?_eq_none (by simp; omega),List.getElem?_eq_none (by simp; omega)]
    rfl
end
end Rg
end
section
namespace Rg
section
variable (W : Nat → List Nat) (d : Nat → Nat)
noncomputable def served (hands things : List Nat) : List Nat := hands.filter fun h => decide (best (W h) things = d h)
noncomputable def beh : Nat→List Nat→List Nat→List Nat→Option (List Nat)
  | 0,_,_,_ => none
  | k + 1,hands,things,order => if hands = [] then some order else match served W d hands things with
    | [] => none
    | s::_ => beh k (hands.erase s) (things.erase (d s)) (order++[s])
noncomputable def Ser : List Nat→List Nat→Prop
  | [],_ => True
  | h::l,T => best (W h) T = d h∧Ser l (T.erase (d h))
noncomputable def serD : List Nat→List Nat→Nat→Nat
  | [],_ => fun _ => 0
  | h::l,T => fun x => if x = h then best (W h) T else serD l (T.erase (best (W h) T)) x
variable {W d}
theorem zgO {d' : Nat→Nat} : ∀ {o T : List Nat},(∀ x∈o,d x = d' x)→Ser W d o T→Ser W d' o T
  | [],_,_,_ => trivial
  | h::l,T,e,s => by
    have e1 := e h List.mem_cons_self
    exact ⟨by rw [← e1]; exact s.1,by rw [← e1]; exact zgO (fun x hx => e x (List.mem_cons_of_mem _ hx)) s.2⟩
theorem zoB : ∀ (o T : List Nat),o.Nodup→Ser W (serD W o T) o T
  | [],_,_ => trivial
  | h::l,T,hn => by
    have hn' := List.nodup_cons.mp hn
    have e : serD W (h::l) T h = best (W h) T := by simp [serD]
    refine ⟨e.symm,?_⟩
    rw [e]
    refine zgO (fun x hx => ?_) (zoB l _ hn'.2)
    have : x≠h := by rintro rfl; exact hn'.1 hx
    simp [serD,this]
theorem znc : ∀ {o T : List Nat},Ser W d o T→T.Nodup→o.length≤T.length→(∀ h∈o,∀ x∈T,x∈W h)→(∀ h∈o,d h∈T)∧∀ h∈o,∀ l∈o,o.Nodup→d h = d l→h = l
  | [],_,_,_,_,_ => ⟨fun _ h => (nomatch h),fun _ h => (nomatch h)⟩
  | a::o,T,s,hT,hl,hr => by
    have hp : 0 < T.length := by simp at hl; omega
    have hx : T[0]∈T := List.getElem_mem _
    have hb : d a∈T := by
      rw [← s.1]
      exact zgu ⟨T[0],hr a List.mem_cons_self _ hx,hx⟩
    have hlen : (T.erase (d a)).length = T.length - 1 := List.length_erase_of_mem hb
    obtain ⟨h1,h2⟩ := znc s.2 (hT.erase _) (by rw [hlen]; simp at hl; omega) fun h hh x hx => hr h (List.mem_cons_of_mem _ hh) x (List.mem_of_mem_erase hx)
    have h3 : ∀ h∈o,d h≠d a := fun h hh e => by
      have := h1 h hh
      rw [e] at this
      exact (List.Nodup.mem_erase_iff hT).mp this |>.1 rfl
    refine ⟨fun h hh => ?_,fun h hh l hl' hn e => ?_⟩
    · rcases List.mem_cons.mp hh with rfl | hh
      · exact hb
      · exact List.mem_of_mem_erase (h1 h hh)
    · have hn' := List.nodup_cons.mp hn
      rcases List.mem_cons.mp hh with z | hh'
      · rcases List.mem_cons.mp hl' with z' | hl''
        · exact z.trans z'.symm
        · subst z; exact absurd e.symm (h3 l hl'')
      · rcases List.mem_cons.mp hl' with z' | hl''
        · subst z'; exact absurd e (h3 h hh')
        · exact h2 h hh' l hl'' hn'.2 e
theorem zih {s : Nat} : ∀ {o T : List Nat},Ser W d o T→T.Nodup→o.Nodup→s∈o→(∀ h∈o,d h∈T)→(∀ h∈o,∀ l∈o,d h = d l→h = l)→(∀ h∈o,∀ x∈T,x∈W h)→Ser W d (o.erase s) (T.erase (d s))
  | [],_,_,_,_,hs,_,_,_ => (nomatch hs)
  | a::o,T,q,hT,hn,hs,hm,hi,hr => by
    have hn' := List.nodup_cons.mp hn
    by_cases e : a = s
    · subst e
      rw [List.erase_cons_head]; exact q.2
    · rw [List.erase_cons_tail (by simpa using e)]
      have hso : s∈o := (List.mem_cons.mp hs).resolve_left fun z => e z.symm
      have hds : d a≠d s := fun z => e (hi a List.mem_cons_self s hs z)
      have hin : d a∈T.erase (d s) := (List.mem_erase_of_ne hds).mpr (hm a List.mem_cons_self)
      refine ⟨?_,?_⟩
      · have hrow : best (W a) T∈W a := by rw [q.1]; exact hr a List.mem_cons_self _ (hm a List.mem_cons_self)
        rw [zmn (things := T) (fun x hx => List.mem_of_mem_erase hx) (by rw [q.1]; exact hin) hrow]; exact q.1
      · rw [List.erase_comm]
        refine zih q.2 (hT.erase _) hn'.2 hso (fun h hh => ?_) (fun h hh l hl => hi h (List.mem_cons_of_mem _ hh) l (List.mem_cons_of_mem _ hl)) fun h hh x hx => hr h (List.mem_cons_of_mem _ hh) x (List.mem_of_mem_erase hx)
        have : d h≠d a := fun z => by
          have := hi h (List.mem_cons_of_mem _ hh) a List.mem_cons_self z
          subst this; exact hn'.1 hh
        exact (List.mem_erase_of_ne this).mpr (hm h (List.mem_cons_of_mem _ hh))
theorem zoc : ∀ {k : Nat} {hands T order o : List Nat},beh W d k hands T order = some o→∃ o',o = order++o'∧o'.Perm hands∧Ser W d o' T
  | 0,_,_,_,_,h => (nomatch h)
  | k + 1,hands,T,order,o,h => by
    unfold beh at h
    by_cases e : hands = []
    · rw [if_pos e] at h
      cases h
      exact ⟨[],by simp,by rw [e],trivial⟩
    · rw [if_neg e] at h
      cases q : served W d hands T with
      | nil => rw [q] at h; cases h
      | cons s t =>
        rw [q] at h
        have hs : s∈served W d hands T := by rw [q]; exact List.mem_cons_self
        obtain ⟨h1,h2⟩ := List.mem_filter.mp hs
        obtain ⟨o',e1,e2,e3⟩ := zoc h
        exact ⟨s::o',by rw [e1]; simp,(List.Perm.cons s e2).trans (List.perm_cons_erase h1).symm,by simpa using h2,e3⟩
theorem zmo : ∀ {k : Nat} {hands T order o : List Nat},o.Perm hands→Ser W d o T→T.Nodup→o.Nodup→(∀ h∈o,d h∈T)→(∀ h∈o,∀ l∈o,d h = d l→h = l)→(∀ h∈o,∀ x∈T,x∈W h)→hands.length < k→beh W d k hands T order≠none
  | 0,_,_,_,_,_,_,_,_,_,_,_,hk => absurd hk (Nat.not_lt_zero _)
  | k + 1,hands,T,order,o,hp,q,hT,hn,hm,hi,hr,hk => by
    unfold beh
    by_cases e : hands = []
    · rw [if_pos e]; simp
    · rw [if_neg e]
      have hon : o≠[] := by rintro rfl; exact e (List.nil_perm.mp hp)
      have hs : served W d hands T≠[] := by
        cases o with
        | nil => exact absurd rfl hon
        | cons a o =>
          intro z
          have : a∈served W d hands T := List.mem_filter.mpr ⟨hp.subset List.mem_cons_self,by simpa using q.1⟩
          rw [z] at this; cases this
      cases z : served W d hands T with
      | nil => exact absurd z hs
      | cons s t =>
        have hsm : s∈served W d hands T := by rw [z]; exact List.mem_cons_self
        have hso : s∈o := hp.symm.subset (List.mem_filter.mp hsm).1
        refine zmo (o := o.erase s) (hp.erase s) (zih q hT hn hso hm hi hr) (hT.erase _) (hn.erase _) (fun h hh => ?_) (fun h hh l hl => hi h (List.mem_of_mem_erase hh) l (List.mem_of_mem_erase hl)) (fun h hh x hx => hr h (List.mem_of_mem_erase hh) x (List.mem_of_mem_erase hx)) ?_
        · have hne : h≠s := ((List.Nodup.mem_erase_iff hn).mp hh).1
          have ho := List.mem_of_mem_erase hh
          exact (List.mem_erase_of_ne fun z => hne (hi h ho s hso z)).mpr (hm h ho)
        · have := List.length_erase_of_mem (hp.subset hso)
          have := List.length_pos_of_mem (hp.subset hso)
          omega
end
end Rg
end
section
namespace Rg
section
variable {W : Nat → List Nat} {O : Nat → Option Nat} {s : S} {a b : Nat → Nat}
theorem idx_inj {row : List Nat} {x y : Nat} (hx : x∈row) (hy : y∈row) (h : row.idxOf x = row.idxOf y) : x = y := by
  have h1 := List.getElem_idxOf (List.idxOf_lt_length_iff.mpr hx)
  have h2 := List.getElem_idxOf (List.idxOf_lt_length_iff.mpr hy)
  rw [← h1,← h2]
  congr 1
theorem Cyc.pre {C : List Nat} (c : Cyc W O s C) {h : Nat} (hh : h∈C) : ∃ l∈C,nxt W O s l = h := by
  obtain ⟨k,e⟩ := c.per h hh
  rw [zhR] at e
  exact ⟨_,c.it_mem hh k,e⟩
end
end Rg
end
section
namespace Rg
section
variable {W : Nat → List Nat} {O : Nat → Option Nat} {s : S} {a : Nat → Nat}
structure Chain (W : Nat→List Nat) (O : Nat→Option Nat) (s : S) (A : List Nat) : Prop where
  nd : A.Nodup
  sub : ∀ h∈A,h∈s.line
  hd : ∀ h l,A = h::l→s.line.headD 0 = h
  nx : ∀ (i : Nat) h l,A[i]? = some h→A[i + 1]? = some l→O l = some (tgt W s h)
variable {A : List Nat}
theorem Chain.at (c : Chain W O s A) {i h : Nat} (e : A[i]? = some h) : h∈A := List.mem_of_getElem? e
theorem Chain.nxt (c : Chain W O s A) (k : Ok W O s) {i h l : Nat} (e1 : A[i]? = some h) (e2 : A[i + 1]? = some l) : Rg.nxt W O s h = l :=
  zoR k (c.sub l (c.at e2)) (c.nx i h l e1 e2)
theorem Chain.take (c : Chain W O s A) {s' : S} (i : Nat) (hl : ∀ (j : Nat) h,j < i→A[j]? = some h→h∈s'.line) (hh : ∀ h l,A = h::l→0 < i→s'.line.headD 0 = h) (ht : ∀ (j : Nat) h l,j + 1 < i→A[j]? = some h→A[j + 1]? = some l→tgt W s' h = tgt W s h) : Chain W O s' (A.take i) := by
  refine ⟨c.nd.sublist (List.take_sublist _ _),fun h hm => ?_,fun h l e => ?_,fun j h l e1 e2 => ?_⟩
  · obtain ⟨j,hj⟩ := List.getElem?_of_mem hm
    rw [List.getElem?_take] at hj
    split at hj
    · rename_i q; exact hl j h q hj
    · cases hj
  · cases i with
    | zero => cases e
    | succ i =>
      cases A with
      | nil => cases e
      | cons b t => cases e; exact hh _ _ rfl (by omega)
  · rw [List.getElem?_take] at e1 e2
    split at e1
    · split at e2
      · rename_i q1 q2
        rw [ht j h l q2 e1 e2]; exact c.nx j h l e1 e2
      · cases e2
    · cases e1
end
end Rg
end
section
namespace Rg
end Rg
end
section
namespace Rg
section
variable {W : Nat → List Nat} {O : Nat → Option Nat} {a : Nat → Nat} {f : Nat → Nat}
end
end Rg
end
section
namespace Rg
section
variable {W : Nat → List Nat} {d : Nat → Nat}
noncomputable def lk (W : Nat→List Nat) (h x y : Nat) : Prop := (W h).idxOf x < (W h).idxOf y
instance (W : Nat→List Nat) (h x y : Nat) : Decidable (lk W h x y) := by unfold lk; infer_instance
theorem zjv : ∀ {o T : List Nat},Ser W d o T→∀ U h V,o = U++h::V→∀ x,x∈T→x∉U.map d→x∈W h→(W h).idxOf (d h)≤(W h).idxOf x
  | [],T,_,U,h,V,e,_,_,_,_ => by simp at e
  | a::o,T,s,U,h,V,e,x,hx,hn,hr => by
    cases U with
    | nil =>
      rw [List.nil_append] at e
      cases e
      rw [← s.1]
      exact ziH hx hr
    | cons b U =>
      rw [List.cons_append] at e
      cases e
      simp only [List.map_cons,List.mem_cons,not_or] at hn
      exact zjv s.2 U h V rfl x ((List.mem_erase_of_ne hn.1).mpr hx) hn.2 hr
theorem ziz {C : List Nat} : ∀ {o : List Nat},(∃ h∈o,h∈C)→∃ U h V,o = U++h::V∧h∈C∧∀ u∈U,u∉C
  | [],h => by obtain ⟨_,h1,_⟩ := h; cases h1
  | a::o,h => by
    by_cases c : a∈C
    · exact ⟨[],a,o,rfl,c,fun _ z => (nomatch z)⟩
    · obtain ⟨b,b1,b2⟩ := h
      rcases List.mem_cons.mp b1 with rfl | b1
      · exact absurd b2 c
      · obtain ⟨U,k,V,e,e2,e3⟩ := ziz ⟨b,b1,b2⟩
        exact ⟨a::U,k,V,by rw [e]; rfl,e2,fun u hu => by
          rcases List.mem_cons.mp hu with rfl | hu
          · exact c
          · exact e3 u hu⟩
theorem zna {o T C : List Nat} (s : Ser W d o T) (hne : C≠[]) (hC : ∀ h∈C,h∈o) (he : ∀ h∈C,∃ l∈C,lk W h (d l) (d h)) (hm : ∀ h∈o,d h∈T) (hi : ∀ h∈o,∀ l∈o,d h = d l→h = l) (hr : ∀ h∈o,∀ x∈T,x∈W h) : False := by
  obtain ⟨c,hc⟩ := List.exists_mem_of_ne_nil _ hne
  obtain ⟨U,h,V,e,h1,h2⟩ := ziz (C := C) (o := o) ⟨c,hC c hc,hc⟩
  obtain ⟨l,l1,l2⟩ := he h h1
  have hho := hC h h1
  have hlo := hC l l1
  have := zjv s U h V e (d l) (hm l hlo) (fun z => by
    obtain ⟨u,u1,u2⟩ := List.mem_map.mp z
    have huo : u∈o := by rw [e]; exact List.mem_append_left _ u1
    have := hi u huo l hlo u2
    subst this
    exact h2 u u1 l1) (hr h hho _ (hm l hlo))
  unfold lk at l2
  omega
theorem znb {o T : List Nat} {h x : Nat} (s : Ser W d o T) (hh : h∈o) (hx : x∈T) (hn : ∀ l∈o,d l≠x) (hl : lk W h x (d h)) (hr : x∈W h) : False := by
  obtain ⟨U,V,e⟩ := List.append_of_mem hh
  have := zjv s U h V e x hx (fun z => by
    obtain ⟨u,u1,u2⟩ := List.mem_map.mp z
    exact hn u (by rw [e]; exact List.mem_append_left _ u1) u2) hr
  unfold lk at hl
  omega
theorem zp9 : ∀ {k : Nat} {hands T order : List Nat},(∀ h∈hands,d h∈T)→T.Nodup→hands.Nodup→hands.length < k→(∀ h∈hands,∀ x∈T,x∈W h)→(∀ h∈hands,∀ x∈T,(∀ l∈hands,d l≠x)→¬ lk W h x (d h))→(∀ C : List Nat,C≠[]→(∀ h∈C,h∈hands)→¬ ∀ h∈C,∃ l∈C,lk W h (d l) (d h))→(∀ h∈hands,∀ l∈hands,d h = d l→h = l)→beh W d k hands T order≠none
  | 0,_,_,_,_,_,_,hk,_,_,_,_ => absurd hk (Nat.not_lt_zero _)
  | k + 1,hands,T,order,hm,hT,hn,hk,hr,hl,hc,hi => by
    unfold beh
    by_cases e : hands = []
    · rw [if_pos e]; simp
    · rw [if_neg e]
      have hs : served W d hands T≠[] := fun z => by
        refine hc hands e (fun h hh => hh) fun h hh => ?_
        have hb : best (W h) T∈T := zgu ⟨d h,hr h hh _ (hm h hh),hm h hh⟩
        have hbr := hr h hh _ hb
        have hne : best (W h) T≠d h := fun q => by
          have : h∈served W d hands T := List.mem_filter.mpr ⟨hh,by simpa using q⟩
          rw [z] at this; cases this
        have hle := ziH (hm h hh) (hr h hh _ (hm h hh))
        have hlt : lk W h (best (W h) T) (d h) := by
          unfold lk
          rcases Nat.lt_or_ge ((W h).idxOf (best (W h) T)) ((W h).idxOf (d h)) with q | q
          · exact q
          · exact absurd (idx_inj hbr (hr h hh _ (hm h hh)) (by omega)) hne
        by_cases q : ∀ l∈hands,d l≠best (W h) T
        · exact absurd hlt (hl h hh _ hb q)
        · simp only [Classical.not_forall,Classical.not_not] at q
          obtain ⟨l,l1,l2⟩ := q
          exact ⟨l,l1,by rw [l2]; exact hlt⟩
      cases z : served W d hands T with
      | nil => exact absurd z hs
      | cons s t =>
        have hsm : s∈served W d hands T := by rw [z]; exact List.mem_cons_self
        have hso : s∈hands := (List.mem_filter.mp hsm).1
        have sub : ∀ h,h∈hands.erase s→h∈hands := fun h hh => List.mem_of_mem_erase hh
        refine zp9 (fun h hh => ?_) (hT.erase _) (hn.erase _) ?_ (fun h hh x hx => hr h (sub h hh) x (List.mem_of_mem_erase hx)) (fun h hh x hx hno => hl h (sub h hh) x (List.mem_of_mem_erase hx) fun l hl' q => ?_) (fun C hC hs => hc C hC fun h hh => sub h (hs h hh)) (fun h hh l hl' => hi h (sub h hh) l (sub l hl'))
        · have hne : h≠s := ((List.Nodup.mem_erase_iff hn).mp hh).1
          exact (List.mem_erase_of_ne fun q => hne (hi h (sub h hh) s hso q)).mpr (hm h (sub h hh))
        · have := List.length_erase_of_mem hso
          have := List.length_pos_of_mem hso
          omega
        · by_cases ls : l = s
          · subst ls
            subst q
            exact ((List.Nodup.mem_erase_iff hT).mp hx).1 rfl
          · exact hno l ((List.mem_erase_of_ne ls).mpr hl') q
noncomputable def env (W : Nat→List Nat) (d : Nat→Nat) (h : Nat) (others : List Nat) : List Nat := others.filter fun o => decide (lk W h (d o) (d h))
end
end Rg
end
section
namespace Fq
theorem zn0 (t : Int) {b : Nat} (h : 0 < b) : 0 < Int.gcd t b := Nat.pos_of_ne_zero fun z => by
  have := Int.gcd_eq_zero_iff.mp z
  omega
noncomputable def low (t : Int) (b : Nat) : Int × Nat := (t / (Int.gcd t b : Int),b / Int.gcd t b)
noncomputable def Same (a b : Int × Nat) : Prop := a.1 * (b.2 : Int) = b.1 * (a.2 : Int)
theorem zkc (t : Int) {b : Nat} (h : 0 < b) : 0 < (low t b).2 := by
  have h1 : Int.gcd t b ∣ b := Int.natCast_dvd_natCast.mp (Int.gcd_dvd_right t b)
  exact Nat.div_pos (Nat.le_of_dvd h h1) (zn0 t h)
theorem zpp (t : Int) (b : Nat) : (low t b).2≤b := Nat.div_le_self _ _
theorem znM (t : Int) (b : Nat) : (low t b).1.natAbs≤t.natAbs := Int.natAbs_ediv_le_natAbs _ _
theorem zlX (t : Int) (b : Nat) : Same (low t b) (t,b) := by
  unfold Same low
  have h1 : (Int.gcd t b : Int) ∣ t := Int.gcd_dvd_left t b
  have h2 : (Int.gcd t b : Int) ∣ (b : Int) := Int.gcd_dvd_right t b
  obtain ⟨x,hx⟩ := h1
  obtain ⟨y,hy⟩ := h2
  generalize hg : (Int.gcd t b : Int) = g at hx hy
  show t / g * (b : Int) = t * ((b / Int.gcd t b : Nat) : Int)
  rw [Int.natCast_ediv,hg]
  by_cases z : g = 0
  · subst z
    rw [Int.zero_mul] at hx hy
    rw [hx,hy]; simp
  · rw [hx,hy,Int.mul_ediv_cancel_left _ z,Int.mul_ediv_cancel_left _ z]
    rw [← Int.mul_assoc,Int.mul_comm x g]
structure Bd (k : Nat) (a : Int × Nat) : Prop where
  pos : 0 < a.2
  bot : a.2 < 2 ^ k
  top : a.1.natAbs < 2 ^ k
theorem Bd.low {k : Nat} {t : Int} {b : Nat} (h : 0 < b) (h1 : b < 2 ^ k) (h2 : t.natAbs < 2 ^ k) : Bd k (low t b) :=
  ⟨zkc t h,Nat.lt_of_le_of_lt (zpp t b) h1,Nat.lt_of_le_of_lt (znM t b) h2⟩
noncomputable def zqQ (a b : Int × Nat) : Bool := decide (a.1 * (b.2 : Int) < b.1 * (a.2 : Int))
end Fq
end
section
namespace Rg
end Rg
namespace Fq
noncomputable def W (N : Nat) (a : Int × Nat) (S : Nat) : Prop := 0 < a.2∧a.1 * (N : Int) = (S : Int) * (a.2 : Int)
theorem W.low {N c : Nat} (hN : 0 < N) : W N (low c N) c := by
  have := zlX (c : Int) N
  exact ⟨zkc _ hN,this⟩
theorem W.ge {N S S' : Nat} {a b : Int × Nat} (hN : 0 < N) (ha : W N a S) (hb : W N b S') (h : S'≤S) : zqQ a b = false := by
  refine decide_eq_false fun hlt => ?_
  have h1 := Int.mul_lt_mul_of_pos_right hlt (show (0 : Int) < (N : Int) by omega)
  have e1 : a.1 * (b.2 : Int) * (N : Int) = (S : Int) * ((a.2 : Int) * (b.2 : Int)) := by
    rw [Int.mul_assoc,Int.mul_comm (b.2 : Int),← Int.mul_assoc,ha.2,Int.mul_assoc]
  have e2 : b.1 * (a.2 : Int) * (N : Int) = (S' : Int) * ((a.2 : Int) * (b.2 : Int)) := by
    rw [Int.mul_assoc,Int.mul_comm (a.2 : Int),← Int.mul_assoc,hb.2,Int.mul_assoc,Int.mul_comm (b.2 : Int)]
  rw [e1,e2] at h1
  have hp : (0 : Int)≤(a.2 : Int) * (b.2 : Int) := by
    rw [← Int.natCast_mul]; exact Int.natCast_nonneg _
  have := Int.lt_of_mul_lt_mul_right h1 hp
  omega
end Fq
end
section
namespace Fq
noncomputable def DD : Nat := 420 ^ 7
theorem DD_pos : 0 < DD := by decide
end Fq
namespace Et
open Rg
noncomputable def zmO : List Nat→Nat
  | [] => 0
  | x::l => l.foldl (fun m y => if y < m then y else m) x
theorem zkB : ∀ (l : List Nat) (m : Nat),l.foldl (fun m y => if y < m then y else m) m≤m∧(∀ y∈l,l.foldl (fun m y => if y < m then y else m) m≤y)∧(l.foldl (fun m y => if y < m then y else m) m = m∨l.foldl (fun m y => if y < m then y else m) m∈l)
  | [],m => ⟨Nat.le_refl _,fun _ h => (nomatch h),.inl rfl⟩
  | y::l,m => by
    rw [List.foldl_cons]
    obtain ⟨h1,h2,h3⟩ := zkB l (if y < m then y else m)
    have hm : (if y < m then y else m)≤m∧(if y < m then y else m)≤y := by split <;> omega
    refine ⟨Nat.le_trans h1 hm.1,fun z hz => ?_,?_⟩
    · rcases List.mem_cons.mp hz with rfl | hz
      · exact Nat.le_trans h1 hm.2
      · exact h2 z hz
    · rcases h3 with h3 | h3
      · rw [h3]
        by_cases hy : y < m
        · rw [if_pos hy]; exact .inr List.mem_cons_self
        · rw [if_neg hy]; exact .inl rfl
      · exact .inr (List.mem_cons_of_mem _ h3)
theorem zkg {l : List Nat} (h : l≠[]) : zmO l∈l := by
  cases l with
  | nil => exact absurd rfl h
  | cons x l =>
    obtain ⟨_,_,h3⟩ := zkB l x
    rcases h3 with h3 | h3
    · show l.foldl (fun m y => if y < m then y else m) x∈_
      rw [h3]; exact List.mem_cons_self
    · exact List.mem_cons_of_mem _ h3
variable (W : Nat → List Nat) (n : Nat)
noncomputable def tgs (T : List Nat) : List Nat := (List.range n).map fun h => best (W h) T
noncomputable def spn (T : List Nat) (a : Nat→Nat) : Nat := zmO ((tgs W n T).map fun x => a x / (tgs W n T).count x)
noncomputable def aft (T : List Nat) (a : Nat→Nat) (x : Nat) : Nat := a x - (tgs W n T).count x * spn W n T a
noncomputable def lft (T : List Nat) (a : Nat→Nat) : List Nat := T.filter fun x => decide (aft W n T a x≠0)
structure Ok (T : List Nat) (a : Nat→Nat) : Prop where
  nd : T.Nodup
  lt : ∀ x∈T,x < n
  pos : ∀ x∈T,0 < a x
  dv : ∀ x∈T,420 ^ T.length ∣ a x
variable {W n}
variable {T : List Nat} {a : Nat → Nat}
structure Rw (W : Nat→List Nat) (n : Nat) : Prop where
  n1 : 1≤n
  n7 : n≤7
  has : ∀ h x,h < n→x < n→x∈W h
theorem zot (R : Rw W n) (S : Ok n T a) (hT : T≠[]) {h : Nat} (hh : h < n) : best (W h) T∈T := by
  have hp := List.length_pos_iff.mpr hT
  exact zgu ⟨T[0],R.has h _ hh (S.lt _ (List.getElem_mem _)),List.getElem_mem _⟩
theorem zjq : (tgs W n T).length = n := by unfold tgs; simp
theorem zhC (R : Rw W n) (S : Ok n T a) (hT : T≠[]) {x : Nat} (h : x∈tgs W n T) : x∈T := by
  obtain ⟨k,hk,rfl⟩ := List.mem_map.mp h
  exact zot R S hT (List.mem_range.mp hk)
theorem zmW (x : Nat) : (tgs W n T).count x≤n := by
  have := List.count_le_length (a := x) (l := tgs W n T)
  rw [zjq] at this; exact this
theorem zmV {c : Nat} (h1 : 1≤c) (h7 : c≤7) : c ∣ 420 := by
  match c,h1,h7 with
  | 1,_,_ => decide
  | 2,_,_ => decide
  | 3,_,_ => decide
  | 4,_,_ => decide
  | 5,_,_ => decide
  | 6,_,_ => decide
  | 7,_,_ => decide
theorem zkX (R : Rw W n) (S : Ok n T a) (hT : T≠[]) {x : Nat} (hx : x∈tgs W n T) : (tgs W n T).count x ∣ a x∧0 < (tgs W n T).count x := by
  have h1 : 0 < (tgs W n T).count x := List.count_pos_iff.mpr hx
  have h2 := zmW (W := W) (n := n) (T := T) x
  have hp := List.length_pos_iff.mpr hT
  have hd := S.dv x (zhC R S hT hx)
  obtain ⟨k,hk⟩ : ∃ k,T.length = k + 1 := ⟨T.length - 1,by omega⟩
  rw [hk,Nat.pow_succ] at hd
  exact ⟨Nat.dvd_trans (zmV h1 (by have := R.n7; omega)) (Nat.dvd_trans (Nat.dvd_mul_left _ _) hd),h1⟩
theorem zmy (R : Rw W n) : ∃ x∈tgs W n T,spn W n T a = a x / (tgs W n T).count x := by
  have hne : (tgs W n T).map (fun x => a x / (tgs W n T).count x)≠[] := by
    intro e
    have h1 := congrArg List.length e
    rw [List.length_map,zjq] at h1
    have h2 := R.n1
    rw [List.length_nil] at h1; omega
  obtain ⟨x,h1,h2⟩ := List.mem_map.mp (zkg hne)
  exact ⟨x,h1,h2.symm⟩
theorem zoy (R : Rw W n) (S : Ok n T a) (hT : T≠[]) : 420 ^ (T.length - 1) ∣ spn W n T a := by
  obtain ⟨x,h1,h2⟩ := zmy (T := T) (a := a) R
  have hp := List.length_pos_iff.mpr hT
  have hd := S.dv x (zhC R S hT h1)
  obtain ⟨hc,hc0⟩ := zkX R S hT h1
  have hc7 := zmV (c := (tgs W n T).count x) hc0 (by have := zmW (W := W) (n := n) (T := T) x; have := R.n7; omega)
  obtain ⟨k,hk⟩ : ∃ k,T.length = k + 1 := ⟨T.length - 1,by omega⟩
  rw [hk,Nat.pow_succ] at hd
  obtain ⟨q,hq⟩ := hd
  obtain ⟨m,hm⟩ := hc7
  rw [h2,hk,Nat.add_sub_cancel,hq]
  generalize (tgs W n T).count x = c at *
  refine ⟨m * q,?_⟩
  rw [hm]
  have : 420 ^ k * (c * m) * q = c * (420 ^ k * (m * q)) := by simp only [Nat.mul_assoc,Nat.mul_comm,Nat.mul_left_comm]
  rw [← hm] at this ⊢
  rw [hm] at this ⊢
  rw [this,Nat.mul_div_cancel_left _ hc0]
theorem zps (R : Rw W n) (S : Ok n T a) (hT : T≠[]) : (lft W n T a).length < T.length := by
  obtain ⟨x,h1,h2⟩ := zmy (T := T) (a := a) R
  obtain ⟨hc,hc0⟩ := zkX R S hT h1
  have hx := zhC R S hT h1
  have h0 : aft W n T a x = 0 := by
    unfold aft
    rw [h2,Nat.mul_div_cancel' hc,Nat.sub_self]
  unfold lft
  refine Nat.lt_of_le_of_ne (List.length_filter_le _ _) fun e => ?_
  have := List.length_filter_eq_length_iff.mp e x hx
  simp [h0] at this
theorem Ok.next (R : Rw W n) (S : Ok n T a) (hT : T≠[]) : Ok n (lft W n T a) (aft W n T a) where
  nd := S.nd.sublist List.filter_sublist
  lt := fun x hx => S.lt x (List.mem_filter.mp hx).1
  pos := fun x hx => Nat.pos_of_ne_zero (by simpa using (List.mem_filter.mp hx).2)
  dv := fun x hx => by
    have hx' := (List.mem_filter.mp hx).1
    have hlt := zps R S hT
    have h1 : 420 ^ (T.length - 1) ∣ a x := Nat.dvd_trans (Nat.pow_dvd_pow 420 (by omega)) (S.dv x hx')
    have h2 : 420 ^ (T.length - 1) ∣ (tgs W n T).count x * spn W n T a := Nat.dvd_trans (zoy R S hT) (Nat.dvd_mul_left _ _)
    exact Nat.dvd_trans (Nat.pow_dvd_pow 420 (by omega)) (Nat.dvd_sub h1 h2)
theorem Ok.init (R : Rw W n) : Ok n (List.range n) fun _ => Fq.DD :=
  ⟨List.nodup_range,fun x hx => List.mem_range.mp hx,fun _ _ => Fq.DD_pos,fun _ _ => by
    rw [List.length_range]
    exact Nat.pow_dvd_pow 420 R.n7⟩
end Et
end
section
namespace Gr
variable (E : Nat → List Nat) (n : Nat)
noncomputable def elim (S : List Nat) : List Nat := S.filter fun x => (E x).any fun y => decide (y∈S)
noncomputable def core : Nat→List Nat→List Nat
  | 0,S => S
  | k + 1,S => if (elim E S).length = S.length then S else core k (elim E S)
variable {E n}
theorem elim_len (S : List Nat) : (elim E S).length≤S.length := List.length_filter_le _ _
theorem zn4 {S : List Nat} (h : (elim E S).length = S.length) : ∀ x∈S,∃ y∈E x,y∈S := fun x hx => by
  have := List.length_filter_eq_length_iff.mp h x hx
  obtain ⟨y,h1,h2⟩ := List.any_eq_true.mp this
  exact ⟨y,h1,by simpa using h2⟩
theorem core_sub : ∀ (k : Nat) (S : List Nat),∀ x∈core E k S,x∈S
  | 0,S,x,h => h
  | k + 1,S,x,h => by
    unfold core at h
    by_cases e : (elim E S).length = S.length
    · rw [if_pos e] at h; exact h
    · rw [if_neg e] at h
      exact (List.mem_filter.mp (core_sub k _ x h)).1
theorem core_nd : ∀ (k : Nat) (S : List Nat),S.Nodup→(core E k S).Nodup
  | 0,S,h => h
  | k + 1,S,h => by
    unfold core
    by_cases e : (elim E S).length = S.length
    · rw [if_pos e]; exact h
    · rw [if_neg e]; exact core_nd k _ (h.sublist List.filter_sublist)
theorem core_go : ∀ (k : Nat) (S : List Nat),S.length < k→∀ x∈core E k S,∃ y∈E x,y∈core E k S
  | 0,S,h => absurd h (by omega)
  | k + 1,S,h => by
    unfold core
    by_cases e : (elim E S).length = S.length
    · rw [if_pos e]; exact zn4 e
    · rw [if_neg e]
      have := elim_len (E := E) S
      exact core_go k _ (by omega)
variable (E) in
noncomputable def rel1 (t : Nat→Nat) (x y : Nat) : Nat→Nat := fun z => if z = y then max (t y) (t x + 1) else t z
variable (E) in
noncomputable def relx (t : Nat→Nat) (x : Nat) : Nat→Nat := (E x).foldl (fun t y => rel1 t x y) t
variable (E) in
noncomputable def rnd (l : List Nat) (t : Nat→Nat) : Nat→Nat := l.foldl (relx E) t
variable (E) (n) in
noncomputable def rnds : Nat→(Nat→Nat)→Nat→Nat
  | 0,t => t
  | k + 1,t => rnds k (rnd E (List.range n) t)
theorem zgd (t : Nat→Nat) (x y z : Nat) : t z≤rel1 t x y z := by
  unfold rel1
  by_cases h : z = y
  · rw [if_pos h,h]; omega
  · rw [if_neg h]; exact Nat.le_refl _
structure Va (E : Nat→List Nat) (n : Nat) (b : Nat→Nat) (k : Nat) (done : List (Nat × Nat)) (t : Nat→Nat) : Prop where
  v : ∀ x,x < n→∀ y∈E x,b y < k→t x + 1≤t y
  w : ∀ e∈done,b e.2 = k→t e.1 + 1≤t e.2
  g : ∀ y,t y = 0∨∃ x,x < n∧y∈E x∧t y≤t x + 1
theorem Va.step {b : Nat→Nat} {k : Nat} {done : List (Nat × Nat)} {t : Nat→Nat} (hb : ∀ x,x < n→∀ y∈E x,b x < b y) (hdn : ∀ e∈done,e.1 < n∧e.2∈E e.1) (h : Va E n b k done t) {x y : Nat} (hx : x < n) (hy : y∈E x) : Va E n b k ((x,y)::done) (rel1 t x y) := by
  have hxy : x≠y := by rintro rfl; have := hb x hx x hy; omega
  have low : ∀ z,b z < k→rel1 t x y z = t z := fun z hz => by
    unfold rel1
    by_cases e : z = y
    · subst e
      rw [if_pos rfl]
      have := h.v x hx z hy hz
      omega
    · rw [if_neg e]
  refine ⟨fun u hu v hv hk => ?_,fun e he hk => ?_,fun z => ?_⟩
  · have h1 := hb u hu v hv
    rw [low v hk,low u (by omega)]
    exact h.v u hu v hv hk
  · rcases List.mem_cons.mp he with rfl | he
    · have h1 := hb x hx y hy
      rw [low x (by simp only at hk; omega)]
      show t x + 1≤rel1 t x y y
      unfold rel1
      rw [if_pos rfl]; omega
    · obtain ⟨h2,h3⟩ := hdn e he
      have h1 := hb e.1 h2 e.2 h3
      rw [low e.1 (by omega)]
      exact Nat.le_trans (h.w e he hk) (zgd t x y e.2)
  · by_cases e : z = y
    · subst e
      have e1 : rel1 t x z z = max (t z) (t x + 1) := by unfold rel1; rw [if_pos rfl]
      by_cases hm : t z≤t x + 1
      · right
        refine ⟨x,hx,hy,?_⟩
        have := zgd t x z x
        omega
      · rcases h.g z with g | ⟨u,g1,g2,g3⟩
        · omega
        · right
          refine ⟨u,g1,g2,?_⟩
          have := zgd t x z u
          omega
    · have e1 : rel1 t x y z = t z := by unfold rel1; rw [if_neg e]
      rw [e1]
      rcases h.g z with g | ⟨u,g1,g2,g3⟩
      · exact .inl g
      · exact .inr ⟨u,g1,g2,Nat.le_trans g3 (Nat.add_le_add_right (zgd t x y u) 1)⟩
theorem Va.relx {b : Nat→Nat} {k : Nat} (hb : ∀ x,x < n→∀ y∈E x,b x < b y) {x : Nat} (hx : x < n) : ∀ (l : List Nat) (done : List (Nat × Nat)) (t : Nat→Nat),(∀ y∈l,y∈E x)→(∀ e∈done,e.1 < n∧e.2∈E e.1)→Va E n b k done t →
    ∃ done',(∀ e∈done',e.1 < n∧e.2∈E e.1)∧(∀ e∈done,e∈done')∧(∀ y∈l,(x,y)∈done')∧Va E n b k done' (l.foldl (fun t y => rel1 t x y) t)
  | [],done,t,_,hd,h => ⟨done,hd,fun _ z => z,fun _ z => (by cases z),h⟩
  | y::l,done,t,hl,hd,h => by
    obtain ⟨done',h1,h2,h3,h4⟩ := Va.relx hb hx l ((x,y)::done) (rel1 t x y) (fun z hz => hl z (List.mem_cons_of_mem _ hz)) (fun e he => by
      rcases List.mem_cons.mp he with rfl | he
      · exact ⟨hx,hl y List.mem_cons_self⟩
      · exact hd e he) (h.step hb hd hx (hl y List.mem_cons_self))
    refine ⟨done',h1,fun e he => h2 e (List.mem_cons_of_mem _ he),fun z hz => ?_,h4⟩
    rcases List.mem_cons.mp hz with rfl | hz
    · exact h2 _ List.mem_cons_self
    · exact h3 z hz
theorem Va.rnd {b : Nat→Nat} {k : Nat} (hb : ∀ x,x < n→∀ y∈E x,b x < b y) : ∀ (l : List Nat) (done : List (Nat × Nat)) (t : Nat→Nat),(∀ x∈l,x < n)→(∀ e∈done,e.1 < n∧e.2∈E e.1)→Va E n b k done t →
    ∃ done',(∀ e∈done',e.1 < n∧e.2∈E e.1)∧(∀ e∈done,e∈done')∧(∀ x∈l,∀ y∈E x,(x,y)∈done')∧Va E n b k done' (rnd E l t)
  | [],done,t,_,hd,h => ⟨done,hd,fun _ z => z,fun _ z => (by cases z),h⟩
  | x::l,done,t,hl,hd,h => by
    obtain ⟨d1,a1,a2,a3,a4⟩ := Va.relx hb (hl x List.mem_cons_self) (E x) done t (fun _ z => z) hd h
    obtain ⟨d2,b1,b2,b3,b4⟩ := Va.rnd hb l d1 _ (fun z hz => hl z (List.mem_cons_of_mem _ hz)) a1 a4
    refine ⟨d2,b1,fun e he => b2 e (a2 e he),fun z hz y hy => ?_,b4⟩
    rcases List.mem_cons.mp hz with rfl | hz
    · exact b2 _ (a3 y hy)
    · exact b3 z hz y hy
theorem Va.next {b : Nat→Nat} {k : Nat} {t : Nat→Nat} (hb : ∀ x,x < n→∀ y∈E x,b x < b y) (h : Va E n b k [] t) : Va E n b (k + 1) [] (Gr.rnd E (List.range n) t) := by
  obtain ⟨d,h1,_,h3,h4⟩ := Va.rnd hb (List.range n) [] t (fun x hx => List.mem_range.mp hx) (fun _ z => by cases z) h
  refine ⟨fun x hx y hy hk => ?_,fun _ z => by (cases z),h4.g⟩
  by_cases e : b y = k
  · exact h4.w (x,y) (h3 x (List.mem_range.mpr hx) y hy) e
  · exact h4.v x hx y hy (by omega)
theorem Va.all {b : Nat→Nat} (hb : ∀ x,x < n→∀ y∈E x,b x < b y) : ∀ (j k : Nat) (t : Nat→Nat),Va E n b k [] t→Va E n b (k + j) [] (rnds E n j t)
  | 0,k,t,h => h
  | j + 1,k,t,h => by
    have := Va.all hb j (k + 1) _ (h.next hb)
    rw [show k + (j + 1) = k + 1 + j by omega]
    exact this
end Gr
end
section
namespace Law
open PySem PySem.Spec PyProof.Rows L2 DL
noncomputable abbrev gv (i : Nat) : DL.FE := fun r => DL.getV r i
noncomputable abbrev ci (i : Int) : DL.FE := fun _ => .ok (.int i)
noncomputable abbrev q0 : List DL.Md := [.bw,.bw]
noncomputable abbrev q101 : List DL.Md := [.bw,.bw,.bw,.sh,.sh]
noncomputable abbrev q102 : List DL.Md := [.bw,.bw,.sh,.sh]
noncomputable abbrev q103 : List DL.Md := [.bw,.bw,.bw,.bw]
noncomputable abbrev q104 : List DL.Md := [.bw,.sh,.sh]
noncomputable abbrev q105 : List DL.Md := [.bw,.bw,.sh]
noncomputable abbrev q106 : List DL.Md := [.bw,.bw,.bw]
noncomputable abbrev q107 : List DL.Md := [.sh,.sh,.sh,.sh,.sh,.sh,.ow,.ow,.sh,.sh]
noncomputable abbrev q108 : List DL.Md := [.bw,.sh,.sh,.sh,.sh,.sh]
noncomputable abbrev q109 : List DL.Md := [.bw,.sh,.ow,.sh]
noncomputable abbrev q110 : List DL.Md := [.sh,.sh,.sh,.sh,.sh,.sh,.sh,.sh,.sh,.sh]
noncomputable abbrev q111 : List DL.Md := [.bw,.bw,.ow,.ow,.ow,.sh]
noncomputable abbrev q112 : List DL.Md := [.bw,.bw,.ow,.ow,.ow,.ow]
noncomputable abbrev q113 : List DL.Md := [.bw,.bw,.ow]
noncomputable abbrev q114 : List DL.Md := [.bw,.bw,.ow,.sh,.sh]
noncomputable abbrev q115 : List DL.Md := [.sh,.bw,.ow,.sh]
noncomputable abbrev q116 : List DL.Md := [.bw,.sh,.ow,.sh,.sh]
noncomputable abbrev q117 : List DL.Md := [.bw,.bw,.bw,.sh]
noncomputable abbrev q118 : List DL.Md := [.bw,.bw,.ow,.ow,.sh]
noncomputable abbrev q119 : List DL.Md := [.bw,.sh,.ow,.sh,.sh,.sh]
noncomputable abbrev q120 : List DL.Md := [.bw,.sh,.sh,.sh]
noncomputable abbrev q121 : List DL.Md := [.bw,.bw,.bw,.ow,.sh,.sh]
noncomputable abbrev q122 : List DL.Md := [.bw,.bw,.sh,.sh,.sh]
noncomputable abbrev q123 : List DL.Md := [.bw,.bw,.bw,.bw,.sh]
noncomputable abbrev q124 : List DL.Md := [.bw,.bw,.ow,.ow,.sh,.sh]
noncomputable abbrev q125 : List DL.Md := [.bw,.sh,.sh,.ow,.sh,.sh]
noncomputable abbrev q126 : List DL.Md := [.sh,.sh,.sh,.sh,.sh,.sh,.ow,.sh,.sh,.sh]
theorem zkf {α : Type} (us : List α) (h : us.length = 1) : ∃ a0,us = [a0] := by
  match us,h with
  | [_],_ => exact ⟨_,rfl⟩
theorem zen {α : Type} (us : List α) (h : us.length = 2) : ∃ a0 a1,us = [a0,a1] := by
  match us,h with
  | [_,_],_ => exact ⟨_,_,rfl⟩
theorem zke {α : Type} (us : List α) (h : us.length = 3) : ∃ a0 a1 a2,us = [a0,a1,a2] := by
  match us,h with
  | [_,_,_],_ => exact ⟨_,_,_,rfl⟩
theorem znP {α : Type} (us : List α) (h : us.length = 4) : ∃ a0 a1 a2 a3,us = [a0,a1,a2,a3] := by
  match us,h with
  | [_,_,_,_],_ => exact ⟨_,_,_,_,rfl⟩
noncomputable def top (i : Nat) : Stmt := PySem.Challenge.pw_ringtrade_k21_whole_order_or_betterment.main.body.getD i (.Pass ⟨0,0,0,0⟩)
structure Txt (K : PySem.W.Frag) (mg : Str→Option Value) : Prop where
  b_len : mg "len" = none
  b_range : mg "range" = none
  b_tuple : mg "tuple" = none
  b_enumerate : mg "enumerate" = none
  b_list : mg "list" = none
  b_zip : mg "zip" = none
  b_sorted : mg "sorted" = none
  b_isinstance : mg "isinstance" = none
  b_bool : mg "bool" = none
  b_int : mg "int" = none
  b_all : mg "all" = none
  b_set : mg "set" = none
noncomputable abbrev zeG : Stmt := top 20
noncomputable abbrev zfy : List Str := ["_law_script","_law_k","_law_cell_here","_law_stirred"]
noncomputable abbrev zdi : List Str := ["_law_script","_law_k"]
theorem zcM : FnScope zfy zdi (zac zeG) := ⟨rfl,rfl,rfl,by decide +kernel,rfl,by decide +kernel,by decide +kernel⟩
noncomputable def zcG : FS :=
  (seqF (setF q102 2 (ci 0)) (seqF (ifF q102 (zax (f2 (gv 1) (fC (zab (gv 0) lNil) lenD) ltI)) (seqF (setF q102 2 (f2 (f2 (gv 0) (gv 1) ixA) (f2 (ci 10) (ci 60) powI) modI)) zak) zak) (seqF (ifF q102 (fAnd (zax (f2 (fC (zab (gv 0) lNil) lenD) (ci 0) gtI)) (zax (f2 (f2 (f2 (gv 0) (ci 0) ixA) (ci 2) modI) (ci 0) eqD))) (seqF (retF q102 (gv 2)) zak) zak) (seqF (setF q102 3 (f2 (f2 (f2 (f2 (f2 (f2 (f2 (gv 2) (f2 (f2 (ci 7) (gv 1) mulI) (gv 1) mulI) addA) (f2 (ci 13) (gv 1) mulI) addA) (ci 5) addA) (ci 48271) mulI) (ci 2147483647) modI) (ci 69621) mulI) (ci 1000000007) modI)) (seqF (retF q102 (f2 (f2 (f2 (f2 (f2 (gv 3) (ci 1) addA) (ci 40692) mulI) (ci 2147483629) modI) (ci 39373) mulI) (ci 999999937) modI)) zak)))))
noncomputable def zbf : List D→Res D := fun ds => outR false (zcG (zaq zfy.length ds))
theorem zmJ {P : Program} {w : World} {K : PySem.W.Frag} {mg : Str→Option Value} {base : Heap} (T : Txt K mg) (A : DefAt K mg "_law_cell" zeG) : Callee P w K mg base "_law_cell" zdi [] 1 false q0 zbf := by
  refine zaM (k := 0) (fs := zcG) (m' := q102) A zcM rfl (fun _ _ _ _ _ _ us hl => by obtain ⟨u0,u1,rfl⟩ := zen us hl; kernel_rfl) fun f cdv A outer s H g E hr => ?_
  have hu1 := zbI hr
  have hu64 := hr.units
  exact (zaa (zcg 2 zcM.nd (by rfl) (by first | exact Or.inl rfl | exact Or.inr rfl) zao)
      (zaa (s_if (q_lt (vb_ 1) (SE.toB (zc9 (by rfl) T.b_len (zap (vb_ 0) zaH)))) (zaa (zcg 2 zcM.nd (by rfl) (by first | exact Or.inl rfl | exact Or.inr rfl) (zf9 (SE.toB (zaD hu1 (vb_ 0) (vb_ 1))) (SE.toB (zqv (SE.toB zao) (SE.toB zao)))))
      zag)
      zag)
      (zaa (s_if (SW.toQ (zlG (q_gt (SE.toB (zc9 (by rfl) T.b_len (zap (vb_ 0) zaH))) (SE.toB zao)) (zin (q_eq hu64 (SE.toB (zf9 (SE.toB (zaD hu1 (vb_ 0) (SE.toB zao))) (SE.toB zao))) (SE.toB zao))))) (zaa (zaE (v_ 2))
      zag)
      zag)
      (zaa (zcg 3 zcM.nd (by rfl) (by first | exact Or.inl rfl | exact Or.inr rfl) (zf9 (SE.toB (zhH (SE.toB (zf9 (SE.toB (zhH (SE.toB (zdq (SE.toB (zdq (SE.toB (zdq (vb_ 2) (SE.toB (zhH (SE.toB (zhH (SE.toB zao) (vb_ 1))) (vb_ 1))))) (SE.toB (zhH (SE.toB zao) (vb_ 1))))) (SE.toB zao))) (SE.toB zao))) (SE.toB zao))) (SE.toB zao))) (SE.toB zao)))
      (zaa (zaE (zf9 (SE.toB (zhH (SE.toB (zf9 (SE.toB (zhH (SE.toB (zdq (vb_ 3) (SE.toB zao))) (SE.toB zao))) (SE.toB zao))) (SE.toB zao))) (SE.toB zao)))
      zag)))))
noncomputable abbrev ze8 : Stmt := top 21
noncomputable abbrev zf2 : List Str := ["_law_cell_here","_law_m","_law_row_here","_law_thing"]
noncomputable abbrev zdK : List Str := ["_law_cell_here","_law_m"]
theorem zc8 : FnScope zf2 zdK (zac ze8) := ⟨rfl,rfl,rfl,by decide +kernel,rfl,by decide +kernel,by decide +kernel⟩
noncomputable abbrev zeT : FS :=
  (seqF (mutF "list" q115 2 (zab (f2 (gv 0) (f2 (gv 3) (ci 1) addA) modI) (zab (gv 3) lNil)) insD) (seqF (setF q115 0 (f2 (gv 0) (f2 (gv 3) (ci 1) addA) zja)) zak))
noncomputable def zdP : FS :=
  (seqF (setF [.sh,.bw,.sh,.sh] 2 (mkL lNil)) (seqF (zcH q115 (fRng rng1 (zab (gv 1) lNil)) (ftN 3) zeT) (seqF (retF q115 (fC (zab (gv 2) lNil) tupD)) zak)))
noncomputable def zbO : List D→Res D := fun ds => outR false (zdP (zaq zf2.length ds))
theorem znG {P : Program} {w : World} {K : PySem.W.Frag} {mg : Str→Option Value} {base : Heap} (T : Txt K mg) (A : DefAt K mg "_law_row" ze8) : Callee P w K mg base "_law_row" zdK [] 1 false [.sh,.bw] zbO := by
  refine zaM (k := 0) (fs := zdP) (m' := q115) A zc8 rfl (fun _ _ _ _ _ _ us hl => by obtain ⟨u0,u1,rfl⟩ := zen us hl; kernel_rfl) fun f cdv A outer s H g E hr => ?_
  have hu1 := zbI hr
  have hu64 := hr.units
  exact (zaa (zdU 2 zc8.nd (by rfl) (by first | exact Or.inl rfl | exact Or.inr rfl) (zd3 zbE))
      (zaa (zfd PassesOwn.never rfl (zch (by rfl) T.b_range (zap (vb_ 1) zaH)) (zaC 3 zc8.nd (by rfl) (by first | exact Or.inl rfl | exact Or.inr rfl)) (zaa (zgQ 2 rfl PySem.F.plainAttrs_list PySem.F.slot_list_insert PySem.F.type_list_insert zj4 zpJ (by rfl) (by first | exact Or.inl rfl | exact Or.inr (Or.inl rfl) | exact Or.inr (Or.inr rfl)) (zba (zf9 (vb_ 0) (SE.toB (zdq (vb_ 3) (SE.toB zao)))) (zba (v_ 3) zbE)))
      (zaa (zcg 0 zc8.nd (by rfl) (by first | exact Or.inl rfl | exact Or.inr rfl) (zmC (vb_ 0) (SE.toB (zdq (vb_ 3) (SE.toB zao)))))
      zag)))
      (zaa (zaE (zfc (by rfl) T.b_tuple (zap (vb_ 2) zaH)))
      zag)))
noncomputable abbrev zbP : Stmt := top 22
noncomputable abbrev zcj : List Str := ["_law_script","_law_at","_law_n","_law_m"]
noncomputable abbrev zdf : List Str := ["_law_script","_law_at","_law_n","_law_m"]
theorem zdT : FnScope zcj zdf (zac zbP) := ⟨rfl,rfl,rfl,by decide +kernel,rfl,by decide +kernel,by decide +kernel⟩
noncomputable def zcp : FS :=
  (seqF (retF q103 (fC (zab (zci 1 [3,0,1] (fRng rng1 (zab (gv 2) lNil)) (ftN 0) (fun _ => Res.ok true) (zaB (zab (zaB (zab (gv 2) (zab (f2 (gv 3) (gv 0) addA) lNil)) [] zbf) (zab (gv 1) lNil)) [] zbO)) lNil) tupD)) zak)
noncomputable def zcl : List D→Res D := fun ds => outR false (zcp (zaq zcj.length ds))
theorem zli {P : Program} {w : World} {K : PySem.W.Frag} {mg : Str→Option Value} {base : Heap} (T : Txt K mg) (A : DefAt K mg "_law_wishes" zbP) (c__law_cell : Callee P w K mg base "_law_cell" zdi [] 1 false q0 zbf) (c__law_row : Callee P w K mg base "_law_row" zdK [] 1 false [.sh,.bw] zbO) : Callee P w K mg base "_law_wishes" zdf [] 2 false q103 zcl := by
  refine zaM (k := 1) (fs := zcp) (m' := q103) A zdT rfl (fun _ _ _ _ _ _ us hl => by obtain ⟨u0,u1,u2,u3,rfl⟩ := znP us hl; kernel_rfl) fun f cdv A outer s H g E hr => ?_
  have hu1 := zbI hr
  have hu64 := hr.units
  exact (zaa (zaE (zfc (by rfl) T.b_tuple (zap (SO.toB (zg7 (X := (cxOf CX0 P w K mg base zcj "_law_wishes" (zac zbP) f cdv A outer s H E).nox) (N' := ["_law_hand","_law_m","_law_script","_law_at"]) (nl := 1) (cap := [3,0,1]) zdT.nd rfl (zaN (osc := (zac zbP)) (ON := zcj) rfl rfl (by decide +kernel)) (SIt.toC (zch (by rfl) T.b_range (zap (vb_ 2) zaH))) (fun _ _ _ _ _ _ => (zaC 0 (show List.Nodup (["_law_hand","_law_m","_law_script","_law_at"] : List Str) by decide +kernel) (by rfl) (by first | exact Or.inl rfl | exact Or.inr rfl))) (zcO (by decide)) (fun _ _ _ _ _ _ => zgU) (fun _ _ _ _ _ _ => (zaw (dds := []) c__law_row (hr.mono (by decide)) (m_sh (zaw (dds := []) c__law_cell (hr.mono (by decide)) (m_bw (vb_ 2) (m_bw (SE.toB (zdq (vb_ 3) (vb_ 0))) za7))) (m_bw (vb_ 1) za7)))))) zaH)))
      zag)
noncomputable abbrev zic : Stmt := top 2
noncomputable abbrev zlg : List Str := ["wishes","hand","one","other","row"]
noncomputable abbrev zgB : List Str := ["wishes","hand","one","other"]
theorem zij : FnScope zlg zgB (zac zic) := ⟨rfl,rfl,rfl,by decide +kernel,rfl,by decide +kernel,by decide +kernel⟩
noncomputable def zgC : FS :=
  (seqF (setF q123 4 (f2 (gv 0) (gv 1) ixA)) (seqF (retF q123 (f2 (fM "tuple" (gv 4) (zab (gv 2) lNil) zey) (fM "tuple" (gv 4) (zab (gv 3) lNil) zey) ltI)) zak))
noncomputable def zd8 : List D→Res D := fun ds => outR false (zgC (zaq zlg.length ds))
theorem zqg {P : Program} {w : World} {K : PySem.W.Frag} {mg : Str→Option Value} {base : Heap} (T : Txt K mg) (A : DefAt K mg "likes" zic) : Callee P w K mg base "likes" zgB [] 1 false q103 zd8 := by
  refine zaM (k := 0) (fs := zgC) (m' := q123) A zij rfl (fun _ _ _ _ _ _ us hl => by obtain ⟨u0,u1,u2,u3,rfl⟩ := znP us hl; kernel_rfl) fun f cdv A outer s H g E hr => ?_
  have hu1 := zbI hr
  have hu64 := hr.units
  exact (zaa (zcg 4 zij.nd (by rfl) (by first | exact Or.inl rfl | exact Or.inr rfl) (zaD hu1 (vb_ 0) (vb_ 1)))
      (zaa (zaE (s_lt (SE.toB (s_bm PySem.F.plainAttrs_tuple PySem.F.slot_tuple_index PySem.F.type_tuple_index zek zeo (vb_ 4) (zap (vb_ 2) zaH))) (SE.toB (s_bm PySem.F.plainAttrs_tuple PySem.F.slot_tuple_index PySem.F.type_tuple_index zek zeo (vb_ 4) (zap (vb_ 3) zaH)))))
      zag))
noncomputable abbrev zeF : Stmt := top 1
noncomputable abbrev zfx : List Str := ["wishes"]
noncomputable abbrev zdd : List Str := ["wishes"]
theorem zgP : FnScope zfx zdd (zac zeF) := ⟨rfl,rfl,rfl,by decide +kernel,rfl,by decide +kernel,by decide +kernel⟩
noncomputable def zdl : FS :=
  (seqF (retF [Md.bw] (fC (zab (f2 (gv 0) (ci 0) ixA) lNil) lenD)) zak)
noncomputable def zbc : List D→Res D := fun ds => outR false (zdl (zaq zfx.length ds))
theorem zmH {P : Program} {w : World} {K : PySem.W.Frag} {mg : Str→Option Value} {base : Heap} (T : Txt K mg) (A : DefAt K mg "things_in" zeF) : Callee P w K mg base "things_in" zdd [] 1 false [Md.bw] zbc := by
  refine zaM (k := 0) (fs := zdl) (m' := [Md.bw]) A zgP rfl (fun _ _ _ _ _ _ us hl => by obtain ⟨u0,rfl⟩ := zkf us hl; kernel_rfl) fun f cdv A outer s H g E hr => ?_
  have hu1 := zbI hr
  have hu64 := hr.units
  exact (zaa (zaE (zc9 (by rfl) T.b_len (zap (SE.toB (zaD hu1 (vb_ 0) (SE.toB zao))) zaH)))
      zag)
noncomputable abbrev zc5 : Stmt := top 11
noncomputable abbrev zdL : List Str := ["wishes","dealing","left_over","hand","had","thing"]
noncomputable abbrev zeD : List Str := ["wishes","dealing"]
theorem zcu : FnScope zdL zeD (zac zc5) := ⟨rfl,rfl,rfl,by decide +kernel,rfl,by decide +kernel,by decide +kernel⟩
noncomputable abbrev zb8 : FS :=
  (seqF (ifF [.bw,.sh,.bw,.sh,.sh,.sh] (fTru (zaB (zab (gv 0) (zab (gv 3) (zab (gv 5) (zab (gv 4) lNil)))) [] zd8)) (seqF (retF [.bw,.sh,.bw,.sh,.sh,.sh] (mkT (zab (fun _ => Res.ok (D.str "line")) (zab (mkT (zab (gv 3) lNil)) (zab (gv 5) lNil))))) zak) zak) zak)
noncomputable abbrev zb7 : FS :=
  (seqF (zcH q119 (fSeq zbm (gv 2)) (ftN 5) zb8) zak)
noncomputable def zct : FS :=
  (seqF (setF q108 2 (zci 1 [1] (fRng rng1 (zab (zaB (zab (gv 0) lNil) [] zbc) lNil)) (ftN 0) (zax (f2 (gv 0) (gv 1) ninD)) (gv 0))) (seqF (zcH q119 (fEnu (gv 1)) (ftT (za4 (ftN 3) (za4 (ftN 4) zez))) zb7) (seqF (retF q119 (fun _ => Res.ok D.non)) zak)))
noncomputable def zcs : List D→Res D := fun ds => outR false (zct (zaq zdL.length ds))
theorem znE {P : Program} {w : World} {K : PySem.W.Frag} {mg : Str→Option Value} {base : Heap} (T : Txt K mg) (A : DefAt K mg "line_for" zc5) (c_things_in : Callee P w K mg base "things_in" zdd [] 1 false [Md.bw] zbc) (c_likes : Callee P w K mg base "likes" zgB [] 1 false q103 zd8) : Callee P w K mg base "line_for" zeD [] 2 false [.bw,.sh] zcs := by
  refine zaM (k := 1) (fs := zct) (m' := q119) A zcu rfl (fun _ _ _ _ _ _ us hl => by obtain ⟨u0,u1,rfl⟩ := zen us hl; kernel_rfl) fun f cdv A outer s H g E hr => ?_
  have hu1 := zbI hr
  have hu64 := hr.units
  exact (zaa (zb4 2 (X := (cxOf CX0 P w K mg base zdL "line_for" (zac zc5) f cdv A outer s H E).nox) (m := q108) (N' := ["thing","dealing"]) (nl := 1) (cap := [1]) zcu.nd rfl (by rfl) (by rfl) (zaN (osc := (zac zc5)) (ON := zdL) rfl rfl (by decide +kernel)) (SIt.toC (zch (by rfl) T.b_range (zap (SE.toB (zaw (dds := []) c_things_in (hr.mono (by decide)) (m_bw (vb_ 0) za7))) zaH))) (fun _ _ _ _ _ _ => (zaC 0 (show List.Nodup (["thing","dealing"] : List Str) by decide +kernel) (by rfl) (by first | exact Or.inl rfl | exact Or.inr rfl))) (zcO (by decide)) (fun _ _ _ _ _ _ => (zeK (zlF hu1 (vb_ 0) (vb_ 1)))) (fun _ _ _ _ _ _ => (v_ 0)))
      (zaa (zfd PassesOwn.never rfl (zmS (by rfl) T.b_enumerate (v_ 1)) (zl6 rfl (zeN (zaC 3 zcu.nd (by rfl) (by first | exact Or.inl rfl | exact Or.inr rfl)) (zeN (zaC 4 zcu.nd (by rfl) (by first | exact Or.inl rfl | exact Or.inr rfl)) zl7))) (zaa (zmA PassesOwn.never rfl (zds (vb_ 2)) (fun _ => (zaC 5 zcu.nd (by rfl) (by first | exact Or.inl rfl | exact Or.inr rfl))) (fun _ => (zaa (s_if (zei (SE.toB (zaw (dds := []) c_likes (hr.mono (by decide)) (m_bw (vb_ 0) (m_bw (vb_ 3) (m_bw (vb_ 5) (m_bw (vb_ 4) za7))))))) (zaa (zaE (ziU (zba ziV (zba (ziU (zba (v_ 3) zbE)) (zba (v_ 5) zbE)))))
      zag)
      zag)
      zag)))
      zag))
      (zaa (zaE zfC)
      zag)))
noncomputable abbrev zbB : Stmt := top 8
noncomputable abbrev zbV : List Str := ["steps","place","places"]
noncomputable abbrev zbT : List Str := ["steps","place","places"]
theorem zdx : FnScope zbV zbT (zac zbB) := ⟨rfl,rfl,rfl,by decide +kernel,rfl,by decide +kernel,by decide +kernel⟩
noncomputable def zb2 : FS :=
  (seqF (retF q106 (zci 1 [2] (fSeq zbm (f2 (gv 0) (gv 1) ixA)) (ftN 0) (zax (f2 (gv 0) (gv 1) inD)) (gv 0))) zak)
noncomputable def za0 : List D→Res D := fun ds => outR false (zb2 (zaq zbV.length ds))
theorem zjW {P : Program} {w : World} {K : PySem.W.Frag} {mg : Str→Option Value} {base : Heap} (T : Txt K mg) (A : DefAt K mg "steps_within" zbB) : Callee P w K mg base "steps_within" zbT [] 1 false q106 za0 := by
  refine zaM (k := 0) (fs := zb2) (m' := q106) A zdx rfl (fun _ _ _ _ _ _ us hl => by obtain ⟨u0,u1,u2,rfl⟩ := zke us hl; kernel_rfl) fun f cdv A outer s H g E hr => ?_
  have hu1 := zbI hr
  have hu64 := hr.units
  exact (zaa (zaE (SO.toE (zg7 (X := (cxOf CX0 P w K mg base zbV "steps_within" (zac zbB) f cdv A outer s H E).nox) (N' := ["other","places"]) (nl := 1) (cap := [2]) zdx.nd rfl (zaN (osc := (zac zbB)) (ON := zbV) rfl rfl (by decide +kernel)) (zds (SE.toB (zaD hu1 (vb_ 0) (vb_ 1)))) (fun _ _ _ _ _ _ => (zaC 0 (show List.Nodup (["other","places"] : List Str) by decide +kernel) (by rfl) (by first | exact Or.inl rfl | exact Or.inr rfl))) (zcO (by decide)) (fun _ _ _ _ _ _ => (zeK (q_in hu1 (vb_ 0) (vb_ 1)))) (fun _ _ _ _ _ _ => (v_ 0)))))
      zag)
noncomputable abbrev zaK : Stmt := top 7
noncomputable abbrev zaT : List Str := ["steps","places","staying"]
noncomputable abbrev zbt : List Str := ["steps"]
theorem zaz : FnScope zaT zbt (zac zaK) := ⟨rfl,rfl,rfl,by decide +kernel,rfl,by decide +kernel,by decide +kernel⟩
noncomputable abbrev zb6 : FQ :=
  (zax (f2 (fC (zab (gv 2) lNil) lenD) (fC (zab (gv 1) lNil) lenD) neD))
noncomputable abbrev zbb : FS :=
  (seqF (setF q104 1 (gv 2)) (seqF (setF q104 2 (zci 1 [0,1] (fSeq zbm (gv 1)) (ftN 0) (fTru (zaB (zab (gv 1) (zab (gv 0) (zab (gv 2) lNil))) [] za0)) (gv 0))) zak))
noncomputable def zaW : FS :=
  (seqF (setF q104 1 (mkL lNil)) (seqF (setF q104 2 (f1 (gv 0) zki)) (seqF (zbv q104 zb6 zbb 64) (seqF (retF q104 (gv 1)) zak))))
noncomputable def zaU : List D→Res D := fun ds => outR false (zaW (zaq zaT.length ds))
theorem zhx {P : Program} {w : World} {K : PySem.W.Frag} {mg : Str→Option Value} {base : Heap} (T : Txt K mg) (A : DefAt K mg "places_that_go_on" zaK) (c_steps_within : Callee P w K mg base "steps_within" zbT [] 1 false q106 za0) : Callee P w K mg base "places_that_go_on" zbt [] 2 false [Md.bw] zaU := by
  refine zaM (k := 1) (fs := zaW) (m' := q104) A zaz rfl (fun _ _ _ _ _ _ us hl => by obtain ⟨u0,rfl⟩ := zkf us hl; kernel_rfl) fun f cdv A outer s H g E hr => ?_
  have hu1 := zbI hr
  have hu64 := hr.units
  exact (zaa (zcg 1 zaz.nd (by rfl) (by first | exact Or.inl rfl | exact Or.inr rfl) (SO.toE (zd3 zbE)))
      (zaa (zcg 2 zaz.nd (by rfl) (by first | exact Or.inl rfl | exact Or.inr rfl) (SO.toE (zph rfl (by rfl) T.b_list (vb_ 0))))
      (zaa (zhF 64 PassesOwn.never (q_ne hu64 (SE.toB (zc9 (by rfl) T.b_len (zap (vb_ 2) zaH))) (SE.toB (zc9 (by rfl) T.b_len (zap (vb_ 1) zaH)))) (zgI (m' := [.bw,.sh,.ow]) 2 (zaa (zcg 1 zaz.nd (by rfl) (by first | exact Or.inl rfl | exact Or.inr rfl) (v_ 2))
      (zaa (zb4 2 (X := (cxOf CX0 P w K mg base zaT "places_that_go_on" (zac zaK) f cdv A outer s H E).nox) (m := q104) (N' := ["place","steps","places"]) (nl := 1) (cap := [0,1]) zaz.nd rfl (by rfl) (by rfl) (zaN (osc := (zac zaK)) (ON := zaT) rfl rfl (by decide +kernel)) (zds (vb_ 1)) (fun _ _ _ _ _ _ => (zaC 0 (show List.Nodup (["place","steps","places"] : List Str) by decide +kernel) (by rfl) (by first | exact Or.inl rfl | exact Or.inr rfl))) (zcO (by decide)) (fun _ _ _ _ _ _ => (zeK (zei (SE.toB (zaw (dds := []) c_steps_within (hr.mono (by decide)) (m_bw (vb_ 1) (m_bw (vb_ 0) (m_bw (vb_ 2) za7)))))))) (fun _ _ _ _ _ _ => (v_ 0)))
      zag)) rfl))
      (zaa (zaE (v_ 1))
      zag))))
noncomputable abbrev zdo : Stmt := top 9
noncomputable abbrev zdD : List Str := ["steps","places","walk","place"]
noncomputable abbrev zcy : List Str := ["steps"]
theorem zaY : FnScope zdD zcy (zac zdo) := ⟨rfl,rfl,rfl,by decide +kernel,rfl,by decide +kernel,by decide +kernel⟩
noncomputable abbrev zbK : FQ :=
  (zax (f2 (gv 3) (gv 2) ninD))
noncomputable abbrev zc2 : FS :=
  (seqF (mutF "list" q109 2 (zab (gv 3) lNil) appD) (seqF (setF q109 3 (f2 (zaB (zab (gv 0) (zab (gv 3) (zab (gv 1) lNil))) [] za0) (ci 0) ixA)) zak))
noncomputable def zaP : FS :=
  (seqF (setF q120 1 (zaB (zab (gv 0) lNil) [] zaU)) (seqF (ifF q120 (fNot (fTru (gv 1))) (seqF (retF q120 (fun _ => Res.ok D.non)) zak) zak) (seqF (setF q120 2 (mkL lNil)) (seqF (setF q109 3 (f2 (gv 1) (ci 0) ixA)) (seqF (zbv q109 zbK zc2 64) (seqF (retF q109 (fSlA (gv 2) (zfp (fM "list" (gv 2) (zab (gv 3) lNil) zhT)) (fun _ => Res.ok none))) zak))))))
noncomputable def zbd : List D→Res D := fun ds => outR false (zaP (zaq zdD.length ds))
theorem zjj {P : Program} {w : World} {K : PySem.W.Frag} {mg : Str→Option Value} {base : Heap} (T : Txt K mg) (A : DefAt K mg "ring_of_steps" zdo) (c_places_that_go_on : Callee P w K mg base "places_that_go_on" zbt [] 2 false [Md.bw] zaU) (c_steps_within : Callee P w K mg base "steps_within" zbT [] 1 false q106 za0) : Callee P w K mg base "ring_of_steps" zcy [] 3 false [Md.bw] zbd := by
  refine zaM (k := 2) (fs := zaP) (m' := q109) A zaY rfl (fun _ _ _ _ _ _ us hl => by obtain ⟨u0,rfl⟩ := zkf us hl; kernel_rfl) fun f cdv A outer s H g E hr => ?_
  have hu1 := zbI hr
  have hu64 := hr.units
  exact (zaa (zcg 1 zaY.nd (by rfl) (by first | exact Or.inl rfl | exact Or.inr rfl) (zaw (dds := []) c_places_that_go_on (hr.mono (by decide)) (m_bw (vb_ 0) za7)))
      (zaa (s_if (zgV (zei (vb_ 1))) (zaa (zaE zfC)
      zag)
      zag)
      (zaa (zdU 2 zaY.nd (by rfl) (by first | exact Or.inl rfl | exact Or.inr rfl) (zd3 zbE))
      (zaa (zcg 3 zaY.nd (by rfl) (by first | exact Or.inl rfl | exact Or.inr rfl) (zaD hu1 (vb_ 1) (SE.toB zao)))
      (zaa (zhF 64 PassesOwn.never (zlF hu1 (vb_ 3) (vb_ 2)) (zaa (zgQ 2 rfl PySem.F.plainAttrs_list PySem.F.slot_list_append PySem.F.type_list_append zdz ziJ (by rfl) (by first | exact Or.inl rfl | exact Or.inr (Or.inl rfl) | exact Or.inr (Or.inr rfl)) (zba (v_ 3) zbE))
      (zaa (zcg 3 zaY.nd (by rfl) (by first | exact Or.inl rfl | exact Or.inr rfl) (zaD hu1 (SE.toB (zaw (dds := []) c_steps_within (hr.mono (by decide)) (m_bw (vb_ 0) (m_bw (vb_ 3) (m_bw (vb_ 1) za7))))) (SE.toB zao)))
      zag)))
      (zaa (zaE (zhG (vb_ 2) (zff (SE.toB (s_bm PySem.F.plainAttrs_list PySem.F.slot_list_index PySem.F.type_list_index zj5 zkw (vb_ 2) (zap (vb_ 3) zaH)))) zfg))
      zag))))))
noncomputable abbrev zbD : Stmt := top 12
noncomputable abbrev zbX : List Str := ["wishes","dealing","hand"]
noncomputable abbrev zcV : List Str := ["wishes","dealing","hand"]
theorem zdy : FnScope zbX zcV (zac zbD) := ⟨rfl,rfl,rfl,by decide +kernel,rfl,by decide +kernel,by decide +kernel⟩
noncomputable def zb3 : FS :=
  (seqF (retF [.bw,.sh,.bw] (zci 2 [0,2,1] (fEnu (gv 1)) (ftT (za4 (ftN 0) (za4 (ftN 1) zez))) (fTru (zaB (zab (gv 2) (zab (gv 3) (zab (gv 1) (zab (f2 (gv 4) (gv 3) ixA) lNil)))) [] zd8)) (gv 0))) zak)
noncomputable def zb0 : List D→Res D := fun ds => outR false (zb3 (zaq zbX.length ds))
theorem zjY {P : Program} {w : World} {K : PySem.W.Frag} {mg : Str→Option Value} {base : Heap} (T : Txt K mg) (A : DefAt K mg "hands_envied" zbD) (c_likes : Callee P w K mg base "likes" zgB [] 1 false q103 zd8) : Callee P w K mg base "hands_envied" zcV [] 2 false [.bw,.sh,.bw] zb0 := by
  refine zaM (k := 1) (fs := zb3) (m' := [.bw,.sh,.bw]) A zdy rfl (fun _ _ _ _ _ _ us hl => by obtain ⟨u0,u1,u2,rfl⟩ := zke us hl; kernel_rfl) fun f cdv A outer s H g E hr => ?_
  have hu1 := zbI hr
  have hu64 := hr.units
  exact (zaa (zaE (SO.toE (zg7 (X := (cxOf CX0 P w K mg base zbX "hands_envied" (zac zbD) f cdv A outer s H E).nox) (N' := ["other","thing","wishes","hand","dealing"]) (nl := 2) (cap := [0,2,1]) zdy.nd rfl (zaN (osc := (zac zbD)) (ON := zbX) rfl rfl (by decide +kernel)) (SIt.toC (zmS (by rfl) T.b_enumerate (v_ 1))) (fun _ _ _ _ _ _ => (zl6 rfl (zeN (zaC 0 (show List.Nodup (["other","thing","wishes","hand","dealing"] : List Str) by decide +kernel) (by rfl) (by first | exact Or.inl rfl | exact Or.inr rfl)) (zeN (zaC 1 (show List.Nodup (["other","thing","wishes","hand","dealing"] : List Str) by decide +kernel) (by rfl) (by first | exact Or.inl rfl | exact Or.inr rfl)) zl7)))) (zpV (zhg (zcO (by decide)) (zhg (zcO (by decide)) zl8))) (fun _ _ _ _ _ _ => (zeK (zei (SE.toB (zaw (dds := []) c_likes (hr.mono (by decide)) (m_bw (vb_ 2) (m_bw (vb_ 3) (m_bw (vb_ 1) (m_bw (SE.toB (zaD hu1 (vb_ 4) (vb_ 3))) za7))))))))) (fun _ _ _ _ _ _ => (v_ 0)))))
      zag)
noncomputable abbrev ze6 : Stmt := top 13
noncomputable abbrev zf0 : List Str := ["wishes","dealing","steps","hand","hands"]
noncomputable abbrev zeC : List Str := ["wishes","dealing"]
theorem zc6 : FnScope zf0 zeC (zac ze6) := ⟨rfl,rfl,rfl,by decide +kernel,rfl,by decide +kernel,by decide +kernel⟩
noncomputable abbrev zeR : FS :=
  (seqF (putF q116 2 (gv 3) (zaB (zab (gv 0) (zab (gv 1) (zab (gv 3) lNil))) [] zb0)) zak)
noncomputable def zdN : FS :=
  (seqF (setF [.bw,.sh,.sh,.sh,.sh] 2 (fun _ => Res.ok (D.dic []))) (seqF (zcH q116 (fRng rng1 (zab (fC (zab (gv 0) lNil) lenD) lNil)) (ftN 3) zeR) (seqF (setF q116 4 (zaB (zab (gv 2) lNil) [] zbd)) (seqF (retF q116 (fIf (zax (f2 (gv 4) (fun _ => Res.ok D.non) isD)) (fun _ => Res.ok D.non) (mkT (zab (fun _ => Res.ok (D.str "ring")) (zab (fC (zab (gv 4) lNil) tupD) lNil))))) zak))))
noncomputable def zc3 : List D→Res D := fun ds => outR false (zdN (zaq zf0.length ds))
theorem znD {P : Program} {w : World} {K : PySem.W.Frag} {mg : Str→Option Value} {base : Heap} (T : Txt K mg) (A : DefAt K mg "ring_for" ze6) (c_hands_envied : Callee P w K mg base "hands_envied" zcV [] 2 false [.bw,.sh,.bw] zb0) (c_ring_of_steps : Callee P w K mg base "ring_of_steps" zcy [] 3 false [Md.bw] zbd) : Callee P w K mg base "ring_for" zeC [] 4 false [.bw,.sh] zc3 := by
  refine zaM (k := 3) (fs := zdN) (m' := q116) A zc6 rfl (fun _ _ _ _ _ _ us hl => by obtain ⟨u0,u1,rfl⟩ := zen us hl; kernel_rfl) fun f cdv A outer s H g E hr => ?_
  have hu1 := zbI hr
  have hu64 := hr.units
  exact (zaa (zdU 2 zc6.nd (by rfl) (by first | exact Or.inl rfl | exact Or.inr rfl) zpi)
      (zaa (zfd PassesOwn.never rfl (zch (by rfl) T.b_range (zap (SE.toB (zc9 (by rfl) T.b_len (zap (vb_ 0) zaH))) zaH)) (zaC 3 zc6.nd (by rfl) (by first | exact Or.inl rfl | exact Or.inr rfl)) (zaa (zlv 2 hu1 rfl (by rfl) (by first | exact Or.inl rfl | exact Or.inr (Or.inl rfl) | exact Or.inr (Or.inr rfl)) (vb_ 3) (zaw (dds := []) c_hands_envied (hr.mono (by decide)) (m_bw (vb_ 0) (m_sh (v_ 1) (m_bw (vb_ 3) za7)))))
      zag))
      (zaa (zcg 4 zc6.nd (by rfl) (by first | exact Or.inl rfl | exact Or.inr rfl) (zaw (dds := []) c_ring_of_steps (hr.mono (by decide)) (m_bw (vb_ 2) za7)))
      (zaa (zaE (zoE (q_is (vb_ 4) (SE.toB zfC)) zfC (ziU (zba ziV (zba (zfc (by rfl) T.b_tuple (zap (vb_ 4) zaH)) zbE)))))
      zag))))
noncomputable abbrev zed : Stmt := top 14
noncomputable abbrev zeP : List Str := ["wishes","dealing","line"]
noncomputable abbrev zdC : List Str := ["wishes","dealing"]
theorem zeg : FnScope zeP zdC (zac zed) := ⟨rfl,rfl,rfl,by decide +kernel,rfl,by decide +kernel,by decide +kernel⟩
noncomputable def zby : FS :=
  (seqF (setF q104 2 (zaB (zab (gv 0) (zab (gv 1) lNil)) [] zcs)) (seqF (retF q104 (fIf (zax (f2 (gv 2) (fun _ => Res.ok D.non) isD)) (zaB (zab (gv 0) (zab (gv 1) lNil)) [] zc3) (gv 2))) zak))
noncomputable def zca : List D→Res D := fun ds => outR false (zby (zaq zeP.length ds))
theorem zlS {P : Program} {w : World} {K : PySem.W.Frag} {mg : Str→Option Value} {base : Heap} (T : Txt K mg) (A : DefAt K mg "betterment" zed) (c_line_for : Callee P w K mg base "line_for" zeD [] 2 false [.bw,.sh] zcs) (c_ring_for : Callee P w K mg base "ring_for" zeC [] 4 false [.bw,.sh] zc3) : Callee P w K mg base "betterment" zdC [] 5 false [.bw,.sh] zca := by
  refine zaM (k := 4) (fs := zby) (m' := q104) A zeg rfl (fun _ _ _ _ _ _ us hl => by obtain ⟨u0,u1,rfl⟩ := zen us hl; kernel_rfl) fun f cdv A outer s H g E hr => ?_
  have hu1 := zbI hr
  have hu64 := hr.units
  exact (zaa (zcg 2 zeg.nd (by rfl) (by first | exact Or.inl rfl | exact Or.inr rfl) (zaw (dds := []) c_line_for (hr.mono (by decide)) (m_bw (vb_ 0) (m_sh (v_ 1) za7))))
      (zaa (zaE (zoE (q_is (vb_ 2) (SE.toB zfC)) (zaw (dds := []) c_ring_for (hr.mono (by decide)) (m_bw (vb_ 0) (m_sh (v_ 1) za7))) (v_ 2)))
      zag))
noncomputable abbrev zcJ : Stmt := top 4
noncomputable abbrev zdj : List Str := ["row","things"]
noncomputable abbrev zd6 : List Str := ["row","things"]
theorem zeI : FnScope zdj zd6 (zac zcJ) := ⟨rfl,rfl,rfl,by decide +kernel,rfl,by decide +kernel,by decide +kernel⟩
noncomputable def zdm : FS :=
  (seqF (retF q0 (f2 (zci 1 [1] (fSeq zbm (gv 0)) (ftN 0) (zax (f2 (gv 0) (gv 1) inD)) (gv 0)) (ci 0) ixA)) zak)
noncomputable def zbN : List D→Res D := fun ds => outR false (zdm (zaq zdj.length ds))
theorem zmI {P : Program} {w : World} {K : PySem.W.Frag} {mg : Str→Option Value} {base : Heap} (T : Txt K mg) (A : DefAt K mg "best_left" zcJ) : Callee P w K mg base "best_left" zd6 [] 1 false q0 zbN := by
  refine zaM (k := 0) (fs := zdm) (m' := q0) A zeI rfl (fun _ _ _ _ _ _ us hl => by obtain ⟨u0,u1,rfl⟩ := zen us hl; kernel_rfl) fun f cdv A outer s H g E hr => ?_
  have hu1 := zbI hr
  have hu64 := hr.units
  exact (zaa (zaE (zaD hu1 (SO.toB (zg7 (X := (cxOf CX0 P w K mg base zdj "best_left" (zac zcJ) f cdv A outer s H E).nox) (N' := ["thing","things"]) (nl := 1) (cap := [1]) zeI.nd rfl (zaN (osc := (zac zcJ)) (ON := zdj) rfl rfl (by decide +kernel)) (zds (vb_ 0)) (fun _ _ _ _ _ _ => (zaC 0 (show List.Nodup (["thing","things"] : List Str) by decide +kernel) (by rfl) (by first | exact Or.inl rfl | exact Or.inr rfl))) (zcO (by decide)) (fun _ _ _ _ _ _ => (zeK (q_in hu1 (vb_ 0) (vb_ 1)))) (fun _ _ _ _ _ _ => (v_ 0)))) (SE.toB zao)))
      zag)
noncomputable abbrev zbC : Stmt := top 18
noncomputable abbrev zbW : List Str := ["wishes","dealing","hands","things","order","served"]
noncomputable abbrev zcU : List Str := ["wishes","dealing"]
theorem za8 : FnScope zbW zcU (zac zbC) := ⟨rfl,rfl,rfl,by decide +kernel,rfl,by decide +kernel,by decide +kernel⟩
noncomputable abbrev zbo : FQ :=
  (fTru (gv 2))
noncomputable abbrev zbp : FS :=
  (seqF (setF q111 5 (zci 1 [3,1,0] (fSeq zbm (gv 2)) (ftN 0) (zax (f2 (zaB (zab (f2 (gv 3) (gv 0) ixA) (zab (gv 1) lNil)) [] zbN) (f2 (gv 2) (gv 0) ixA) eqD)) (gv 0))) (seqF (ifF q112 (fNot (fTru (gv 5))) (seqF (retF q112 (fun _ => Res.ok D.non)) zak) zak) (seqF (mutF "list" q112 4 (zab (f2 (gv 5) (ci 0) ixA) lNil) appD) (seqF (mutF "list" q112 2 (zab (f2 (gv 5) (ci 0) ixA) lNil) remD) (seqF (mutF "list" q112 3 (zab (f2 (gv 1) (f2 (gv 5) (ci 0) ixA) ixA) lNil) remD) zak)))))
noncomputable def zbn : FS :=
  (seqF (setF [.bw,.bw,.sh,.sh,.sh,.sh] 2 (fC (zab (fC (zab (gv 0) lNil) lenD) lNil) zhQ)) (seqF (setF [.bw,.bw,.ow,.sh,.sh,.sh] 3 (fC (zab (zaB (zab (gv 0) lNil) [] zbc) lNil) zhQ)) (seqF (setF q124 4 (mkL lNil)) (seqF (zbv q111 zbo zbp 64) (seqF (retF q124 (gv 4)) zak)))))
noncomputable def zbZ : List D→Res D := fun ds => outR false (zbn (zaq zbW.length ds))
theorem zjX {P : Program} {w : World} {K : PySem.W.Frag} {mg : Str→Option Value} {base : Heap} (T : Txt K mg) (A : DefAt K mg "order_behind" zbC) (c_things_in : Callee P w K mg base "things_in" zdd [] 1 false [Md.bw] zbc) (c_best_left : Callee P w K mg base "best_left" zd6 [] 1 false q0 zbN) : Callee P w K mg base "order_behind" zcU [] 2 false q0 zbZ := by
  refine zaM (k := 1) (fs := zbn) (m' := q124) A za8 rfl (fun _ _ _ _ _ _ us hl => by obtain ⟨u0,u1,rfl⟩ := zen us hl; kernel_rfl) fun f cdv A outer s H g E hr => ?_
  have hu1 := zbI hr
  have hu64 := hr.units
  exact (zaa (zdU 2 za8.nd (by rfl) (by first | exact Or.inl rfl | exact Or.inr rfl) (zhM rfl (by rfl) T.b_list (by rfl) T.b_range (zap (SE.toB (zc9 (by rfl) T.b_len (zap (vb_ 0) zaH))) zaH)))
      (zaa (zdU 3 za8.nd (by rfl) (by first | exact Or.inl rfl | exact Or.inr rfl) (zhM rfl (by rfl) T.b_list (by rfl) T.b_range (zap (SE.toB (zaw (dds := []) c_things_in (hr.mono (by decide)) (m_bw (vb_ 0) za7))) zaH)))
      (zaa (zdU 4 za8.nd (by rfl) (by first | exact Or.inl rfl | exact Or.inr rfl) (zd3 zbE))
      (zaa (zhF 64 PassesOwn.never (zei (vb_ 2)) (zgI (m' := q112) 5 (zaa (zb4 5 (X := (cxOf CX0 P w K mg base zbW "order_behind" (zac zbC) f cdv A outer s H E).nox) (m := q111) (N' := ["hand","things","dealing","wishes"]) (nl := 1) (cap := [3,1,0]) za8.nd rfl (by rfl) (by rfl) (zaN (osc := (zac zbC)) (ON := zbW) rfl rfl (by decide +kernel)) (zds (vb_ 2)) (fun _ _ _ _ _ _ => (zaC 0 (show List.Nodup (["hand","things","dealing","wishes"] : List Str) by decide +kernel) (by rfl) (by first | exact Or.inl rfl | exact Or.inr rfl))) (zcO (by decide)) (fun _ _ _ _ _ _ => (zeK (q_eq hu64 (SE.toB (zaw (dds := []) c_best_left (hr.mono (by decide)) (m_bw (SE.toB (zaD hu1 (vb_ 3) (vb_ 0))) (m_bw (vb_ 1) za7)))) (SE.toB (zaD hu1 (vb_ 2) (vb_ 0)))))) (fun _ _ _ _ _ _ => (v_ 0)))
      (zaa (s_if (zgV (zei (vb_ 5))) (zaa (zaE zfC)
      zag)
      zag)
      (zaa (zgQ 4 rfl PySem.F.plainAttrs_list PySem.F.slot_list_append PySem.F.type_list_append zdz ziJ (by rfl) (by first | exact Or.inl rfl | exact Or.inr (Or.inl rfl) | exact Or.inr (Or.inr rfl)) (zba (zaD hu1 (vb_ 5) (SE.toB zao)) zbE))
      (zaa (zgQ 2 rfl PySem.F.plainAttrs_list PySem.F.slot_list_remove PySem.F.type_list_remove zfh zjC (by rfl) (by first | exact Or.inl rfl | exact Or.inr (Or.inl rfl) | exact Or.inr (Or.inr rfl)) (zba (zaD hu1 (vb_ 5) (SE.toB zao)) zbE))
      (zaa (zgQ 3 rfl PySem.F.plainAttrs_list PySem.F.slot_list_remove PySem.F.type_list_remove zfh zjC (by rfl) (by first | exact Or.inl rfl | exact Or.inr (Or.inl rfl) | exact Or.inr (Or.inr rfl)) (zba (zaD hu1 (vb_ 1) (SE.toB (zaD hu1 (vb_ 5) (SE.toB zao)))) zbE))
      zag))))) rfl))
      (zaa (zlx 4 rfl (zaE (v_ 4)))
      zag)))))
noncomputable abbrev zdQ : Stmt := top 5
noncomputable abbrev zer : List Str := ["hands"]
noncomputable abbrev zde : List Str := ["hands"]
theorem zfB : FnScope zer zde (zac zdQ) := ⟨rfl,rfl,rfl,by decide +kernel,rfl,by decide +kernel,by decide +kernel⟩
noncomputable def zco : FS :=
  (seqF (retF [Md.bw] (f2 (fSlA (gv 0) (zfp (ci 1)) (fun _ => Res.ok none)) (fSlA (gv 0) (fun _ => Res.ok none) (zfp (ci 1))) addE)) zak)
noncomputable def zbh : List D→Res D := fun ds => outR false (zco (zaq zer.length ds))
theorem zlh {P : Program} {w : World} {K : PySem.W.Frag} {mg : Str→Option Value} {base : Heap} (T : Txt K mg) (A : DefAt K mg "ones_behind" zdQ) : Callee P w K mg base "ones_behind" zde [] 1 false [Md.bw] zbh := by
  refine zaM (k := 0) (fs := zco) (m' := [Md.bw]) A zfB rfl (fun _ _ _ _ _ _ us hl => by obtain ⟨u0,rfl⟩ := zkf us hl; kernel_rfl) fun f cdv A outer s H g E hr => ?_
  have hu1 := zbI hr
  have hu64 := hr.units
  exact (zaa (zaE (zik (SE.toB (zhG (vb_ 0) (zff (SE.toB zao)) zfg)) (SE.toB (zhG (vb_ 0) zfg (zff (SE.toB zao))))))
      zag)
noncomputable abbrev zbA : Stmt := top 15
noncomputable abbrev zbU : List Str := ["dealing","way","things"]
noncomputable abbrev zcT : List Str := ["dealing","way"]
theorem zdw : FnScope zbU zcT (zac zbA) := ⟨rfl,rfl,rfl,by decide +kernel,rfl,by decide +kernel,by decide +kernel⟩
noncomputable def zb1 : FS :=
  (seqF (setF q105 2 (zci 1 [0] (fSeq zbm (zaB (zab (f2 (gv 1) (ci 1) ixA) lNil) [] zbh)) (ftN 0) (fun _ => Res.ok true) (f2 (gv 1) (gv 0) ixA))) (seqF (ifF q113 (zax (f2 (f2 (gv 1) (ci 0) ixA) (fun _ => Res.ok (D.str "line")) eqD)) (seqF (putF q113 2 (f1 (ci 1) negI) (f2 (gv 1) (ci 2) ixA)) zak) zak) (seqF (retF q105 (gv 2)) zak)))
noncomputable def zbY : List D→Res D := fun ds => outR false (zb1 (zaq zbU.length ds))
theorem zjV {P : Program} {w : World} {K : PySem.W.Frag} {mg : Str→Option Value} {base : Heap} (T : Txt K mg) (A : DefAt K mg "things_along" zbA) (c_ones_behind : Callee P w K mg base "ones_behind" zde [] 1 false [Md.bw] zbh) : Callee P w K mg base "things_along" zcT [] 2 false q0 zbY := by
  refine zaM (k := 1) (fs := zb1) (m' := q105) A zdw rfl (fun _ _ _ _ _ _ us hl => by obtain ⟨u0,u1,rfl⟩ := zen us hl; kernel_rfl) fun f cdv A outer s H g E hr => ?_
  have hu1 := zbI hr
  have hu64 := hr.units
  exact (zaa (zb4 2 (X := (cxOf CX0 P w K mg base zbU "things_along" (zac zbA) f cdv A outer s H E).nox) (m := q105) (N' := ["hand","dealing"]) (nl := 1) (cap := [0]) zdw.nd rfl (by rfl) (by rfl) (zaN (osc := (zac zbA)) (ON := zbU) rfl rfl (by decide +kernel)) (zds (SE.toB (zaw (dds := []) c_ones_behind (hr.mono (by decide)) (m_bw (SE.toB (zaD hu1 (vb_ 1) (SE.toB zao))) za7)))) (fun _ _ _ _ _ _ => (zaC 0 (show List.Nodup (["hand","dealing"] : List Str) by decide +kernel) (by rfl) (by first | exact Or.inl rfl | exact Or.inr rfl))) (zcO (by decide)) (fun _ _ _ _ _ _ => zgU) (fun _ _ _ _ _ _ => (zaD hu1 (vb_ 1) (vb_ 0))))
      (zaa (s_if (q_eq hu64 (SE.toB (zaD hu1 (vb_ 1) (SE.toB zao))) (SE.toB ziV)) (zaa (zlv 2 hu1 rfl (by rfl) (by first | exact Or.inl rfl | exact Or.inr (Or.inl rfl) | exact Or.inr (Or.inr rfl)) (SE.toB (zqx (SE.toB zao))) (zaD hu1 (vb_ 1) (SE.toB zao)))
      zag)
      zag)
      (zaa (zlx 2 rfl (zaE (v_ 2)))
      zag)))
noncomputable abbrev ze7 : Stmt := top 16
noncomputable abbrev zf1 : List Str := ["wishes","dealing","way","told","hand","thing"]
noncomputable abbrev zeE : List Str := ["wishes","dealing","way"]
theorem zc7 : FnScope zf1 zeE (zac ze7) := ⟨rfl,rfl,rfl,by decide +kernel,rfl,by decide +kernel,by decide +kernel⟩
noncomputable abbrev zeS : FS :=
  (seqF (putF q121 3 (gv 4) (gv 5)) zak)
noncomputable def zdO : FS :=
  (seqF (setF [.bw,.bw,.bw,.sh,.sh,.sh] 3 (fC (zab (gv 1) lNil) zi7)) (seqF (zcH q121 (fZip (f2 (gv 2) (ci 1) ixA) (zaB (zab (gv 1) (zab (gv 2) lNil)) [] zbY)) (ftT (za4 (ftN 4) (za4 (ftN 5) zez))) zeS) (seqF (retF q121 (fC (zab (gv 3) lNil) tupD)) zak)))
noncomputable def zdM : List D→Res D := fun ds => outR false (zdO (zaq zf1.length ds))
theorem znF {P : Program} {w : World} {K : PySem.W.Frag} {mg : Str→Option Value} {base : Heap} (T : Txt K mg) (A : DefAt K mg "bettered" ze7) (c_things_along : Callee P w K mg base "things_along" zcT [] 2 false q0 zbY) : Callee P w K mg base "bettered" zeE [] 3 false q106 zdM := by
  refine zaM (k := 2) (fs := zdO) (m' := q121) A zc7 rfl (fun _ _ _ _ _ _ us hl => by obtain ⟨u0,u1,u2,rfl⟩ := zke us hl; kernel_rfl) fun f cdv A outer s H g E hr => ?_
  have hu1 := zbI hr
  have hu64 := hr.units
  exact (zaa (zdU 3 zc7.nd (by rfl) (by first | exact Or.inl rfl | exact Or.inr rfl) (zpg (by rfl) T.b_list (zap (vb_ 1) zaH)))
      (zaa (zfd PassesOwn.never rfl (zpN (by rfl) T.b_zip (zaD hu1 (vb_ 2) (SE.toB zao)) (zaw (dds := []) c_things_along (hr.mono (by decide)) (m_bw (vb_ 1) (m_bw (vb_ 2) za7)))) (zl6 rfl (zeN (zaC 4 zc7.nd (by rfl) (by first | exact Or.inl rfl | exact Or.inr rfl)) (zeN (zaC 5 zc7.nd (by rfl) (by first | exact Or.inl rfl | exact Or.inr rfl)) zl7))) (zaa (zlv 3 hu1 rfl (by rfl) (by first | exact Or.inl rfl | exact Or.inr (Or.inl rfl) | exact Or.inr (Or.inr rfl)) (vb_ 4) (v_ 5))
      zag))
      (zaa (zaE (zfc (by rfl) T.b_tuple (zap (vb_ 3) zaH)))
      zag)))
noncomputable abbrev zdR : Stmt := top 31
noncomputable abbrev zes : List Str := ["_law_rows","_law_m","_law_found","_law_row_here","_law_thing"]
noncomputable abbrev zdg : List Str := ["_law_rows","_law_m"]
theorem zbR : FnScope zes zdg (zac zdR) := ⟨rfl,rfl,rfl,by decide +kernel,rfl,by decide +kernel,by decide +kernel⟩
noncomputable abbrev zdG : FS :=
  (seqF (ifF q114 (zax (f2 (gv 4) (gv 3) ninD)) (seqF (mutF "list" q114 2 (zab (f2 (gv 3) (mkT (zab (gv 4) lNil)) addE) lNil) appD) zak) zak) zak)
noncomputable abbrev zdF : FS :=
  (seqF (zcH q114 (fRng rng1 (zab (gv 1) lNil)) (ftN 4) zdG) zak)
noncomputable def zcq : FS :=
  (seqF (setF q122 2 (mkL lNil)) (seqF (zcH q114 (fSeq zbm (gv 0)) (ftN 3) zdF) (seqF (retF q122 (gv 2)) zak)))
noncomputable def zcm : List D→Res D := fun ds => outR false (zcq (zaq zes.length ds))
theorem zlj {P : Program} {w : World} {K : PySem.W.Frag} {mg : Str→Option Value} {base : Heap} (T : Txt K mg) (A : DefAt K mg "_law_longer" zdR) : Callee P w K mg base "_law_longer" zdg [] 1 false q0 zcm := by
  refine zaM (k := 0) (fs := zcq) (m' := q122) A zbR rfl (fun _ _ _ _ _ _ us hl => by obtain ⟨u0,u1,rfl⟩ := zen us hl; kernel_rfl) fun f cdv A outer s H g E hr => ?_
  have hu1 := zbI hr
  have hu64 := hr.units
  exact (zaa (zdU 2 zbR.nd (by rfl) (by first | exact Or.inl rfl | exact Or.inr rfl) (zd3 zbE))
      (zaa (zmB PassesOwn.never rfl (zmR (vw_ 0)) (zaC 3 zbR.nd (by rfl) (by first | exact Or.inl rfl | exact Or.inr rfl)) (zaa (zfd PassesOwn.never rfl (zch (by rfl) T.b_range (zap (vb_ 1) zaH)) (zaC 4 zbR.nd (by rfl) (by first | exact Or.inl rfl | exact Or.inr rfl)) (zaa (s_if (zlF hu1 (vb_ 4) (vb_ 3)) (zaa (zgQ 2 rfl PySem.F.plainAttrs_list PySem.F.slot_list_append PySem.F.type_list_append zdz ziJ (by rfl) (by first | exact Or.inl rfl | exact Or.inr (Or.inl rfl) | exact Or.inr (Or.inr rfl)) (zba (zik (vb_ 3) (SE.toB (ziU (zba (v_ 4) zbE)))) zbE))
      zag)
      zag)
      zag))
      zag))
      (zaa (zlx 2 rfl (zaE (v_ 2)))
      zag)))
noncomputable abbrev zcd : Stmt := top 30
noncomputable abbrev zcA : List Str := ["_law_n","_law_m","_law_found","_law_hand"]
noncomputable abbrev zbu : List Str := ["_law_n","_law_m"]
theorem zaL : FnScope zcA zbu (zac zcd) := ⟨rfl,rfl,rfl,by decide +kernel,rfl,by decide +kernel,by decide +kernel⟩
noncomputable abbrev zb9 : FS :=
  (seqF (setF q102 2 (zaB (zab (gv 2) (zab (gv 1) lNil)) [] zcm)) zak)
noncomputable def zaX : FS :=
  (seqF (setF q102 2 (mkL (zab (mkT lNil) lNil))) (seqF (zcH q102 (fRng rng1 (zab (gv 0) lNil)) (ftN 3) zb9) (seqF (retF q102 (gv 2)) zak)))
noncomputable def zaV : List D→Res D := fun ds => outR false (zaX (zaq zcA.length ds))
theorem zhy {P : Program} {w : World} {K : PySem.W.Frag} {mg : Str→Option Value} {base : Heap} (T : Txt K mg) (A : DefAt K mg "_law_all_dealings" zcd) (c__law_longer : Callee P w K mg base "_law_longer" zdg [] 1 false q0 zcm) : Callee P w K mg base "_law_all_dealings" zbu [] 2 false q0 zaV := by
  refine zaM (k := 1) (fs := zaX) (m' := q102) A zaL rfl (fun _ _ _ _ _ _ us hl => by obtain ⟨u0,u1,rfl⟩ := zen us hl; kernel_rfl) fun f cdv A outer s H g E hr => ?_
  have hu1 := zbI hr
  have hu64 := hr.units
  exact (zaa (zcg 2 zaL.nd (by rfl) (by first | exact Or.inl rfl | exact Or.inr rfl) (SO.toE (zd3 (zba (ziU zbE) zbE))))
      (zaa (zfd PassesOwn.never rfl (zch (by rfl) T.b_range (zap (vb_ 0) zaH)) (zaC 3 zaL.nd (by rfl) (by first | exact Or.inl rfl | exact Or.inr rfl)) (zaa (zcg 2 zaL.nd (by rfl) (by first | exact Or.inl rfl | exact Or.inr rfl) (zaw (dds := []) c__law_longer (hr.mono (by decide)) (m_bw (vb_ 2) (m_bw (vb_ 1) za7))))
      zag))
      (zaa (zaE (v_ 2))
      zag)))
noncomputable abbrev zee : Stmt := top 26
noncomputable abbrev zeQ : List Str := ["_law_wishes_here","_law_hand","_law_one","_law_other"]
noncomputable abbrev zcP : List Str := ["_law_wishes_here","_law_hand","_law_one","_law_other"]
theorem zf8 : FnScope zeQ zcP (zac zee) := ⟨rfl,rfl,rfl,by decide +kernel,rfl,by decide +kernel,by decide +kernel⟩
noncomputable def zcQ : FS :=
  (seqF (retF q103 (f2 (fM "tuple" (f2 (gv 0) (gv 1) ixA) (zab (gv 2) lNil) zey) (fM "tuple" (f2 (gv 0) (gv 1) ixA) (zab (gv 3) lNil) zey) ltI)) zak)
noncomputable def zbx : List D→Res D := fun ds => outR false (zcQ (zaq zeQ.length ds))
theorem zlT {P : Program} {w : World} {K : PySem.W.Frag} {mg : Str→Option Value} {base : Heap} (T : Txt K mg) (A : DefAt K mg "_law_likes" zee) : Callee P w K mg base "_law_likes" zcP [] 1 false q103 zbx := by
  refine zaM (k := 0) (fs := zcQ) (m' := q103) A zf8 rfl (fun _ _ _ _ _ _ us hl => by obtain ⟨u0,u1,u2,u3,rfl⟩ := znP us hl; kernel_rfl) fun f cdv A outer s H g E hr => ?_
  have hu1 := zbI hr
  have hu64 := hr.units
  exact (zaa (zaE (s_lt (SE.toB (s_bm PySem.F.plainAttrs_tuple PySem.F.slot_tuple_index PySem.F.type_tuple_index zek zeo (SE.toB (zaD hu1 (vb_ 0) (vb_ 1))) (zap (vb_ 2) zaH))) (SE.toB (s_bm PySem.F.plainAttrs_tuple PySem.F.slot_tuple_index PySem.F.type_tuple_index zek zeo (SE.toB (zaD hu1 (vb_ 0) (vb_ 1))) (zap (vb_ 3) zaH)))))
      zag)
noncomputable abbrev zcW : Stmt := top 32
noncomputable abbrev zdu : List Str := ["_law_wishes_here","_law_other","_law_dealing","_law_hand"]
noncomputable abbrev zcc : List Str := ["_law_wishes_here","_law_other","_law_dealing"]
theorem zcX : FnScope zdu zcc (zac zcW) := ⟨rfl,rfl,rfl,by decide +kernel,rfl,by decide +kernel,by decide +kernel⟩
noncomputable abbrev zaI : FS :=
  (seqF (ifF q117 (fTru (zaB (zab (gv 0) (zab (gv 3) (zab (f2 (gv 2) (gv 3) ixA) (zab (f2 (gv 1) (gv 3) ixA) lNil)))) [] zbx)) (seqF (retF q117 (fun _ => Res.ok (D.bl false))) zak) zak) zak)
noncomputable def zbr : FS :=
  (seqF (zcH q117 (fRng rng1 (zab (fC (zab (gv 0) lNil) lenD) lNil)) (ftN 3) zaI) (seqF (retF q117 (f2 (gv 1) (gv 2) neD)) zak))
noncomputable def zbq : List D→Res D := fun ds => outR false (zbr (zaq zdu.length ds))
theorem zi3 {P : Program} {w : World} {K : PySem.W.Frag} {mg : Str→Option Value} {base : Heap} (T : Txt K mg) (A : DefAt K mg "_law_is_better" zcW) (c__law_likes : Callee P w K mg base "_law_likes" zcP [] 1 false q103 zbx) : Callee P w K mg base "_law_is_better" zcc [] 2 false q106 zbq := by
  refine zaM (k := 1) (fs := zbr) (m' := q117) A zcX rfl (fun _ _ _ _ _ _ us hl => by obtain ⟨u0,u1,u2,rfl⟩ := zke us hl; kernel_rfl) fun f cdv A outer s H g E hr => ?_
  have hu1 := zbI hr
  have hu64 := hr.units
  exact (zaa (zfd PassesOwn.never rfl (zch (by rfl) T.b_range (zap (SE.toB (zc9 (by rfl) T.b_len (zap (vb_ 0) zaH))) zaH)) (zaC 3 zcX.nd (by rfl) (by first | exact Or.inl rfl | exact Or.inr rfl)) (zaa (s_if (zei (SE.toB (zaw (dds := []) c__law_likes (hr.mono (by decide)) (m_bw (vb_ 0) (m_bw (vb_ 3) (m_bw (SE.toB (zaD hu1 (vb_ 2) (vb_ 3))) (m_bw (SE.toB (zaD hu1 (vb_ 1) (vb_ 3))) za7))))))) (zaa (zaE s_bl)
      zag)
      zag)
      zag))
      (zaa (zaE (s_ne hu64 (vb_ 1) (vb_ 2)))
      zag))
noncomputable abbrev zcK : Stmt := top 23
noncomputable abbrev zc1 : List Str := ["_law_n","_law_found","_law_one","_law_longer_here","_law_row_here","_law_at"]
noncomputable abbrev zbM : List Str := ["_law_n"]
theorem zau : FnScope zc1 zbM (zac zcK) := ⟨rfl,rfl,rfl,by decide +kernel,rfl,by decide +kernel,by decide +kernel⟩
noncomputable abbrev zcE : FS :=
  (seqF (mutF "list" q125 3 (zab (f2 (f2 (fSlA (gv 4) (fun _ => Res.ok none) (zfp (gv 5))) (mkL (zab (gv 2) lNil)) addE) (fSlA (gv 4) (zfp (gv 5)) (fun _ => Res.ok none)) addE) lNil) appD) zak)
noncomputable abbrev zcD : FS :=
  (seqF (zcH q125 (fRng rng1 (zab (f2 (fC (zab (gv 4) lNil) lenD) (ci 1) addA) lNil)) (ftN 5) zcE) zak)
noncomputable abbrev zcC : FS :=
  (seqF (setF q108 3 (mkL lNil)) (seqF (zcH q125 (fSeq zbm (gv 1)) (ftN 4) zcD) (seqF (setF q108 1 (gv 3)) zak)))
noncomputable def zbk : FS :=
  (seqF (setF q108 1 (mkL (zab (mkL lNil) lNil))) (seqF (zcH q108 (fRng rng1 (zab (gv 0) lNil)) (ftN 2) zcC) (seqF (retF q108 (fC (zab (gv 1) lNil) zid)) zak)))
noncomputable def zbi : List D→Res D := fun ds => outR false (zbk (zaq zc1.length ds))
theorem zis {P : Program} {w : World} {K : PySem.W.Frag} {mg : Str→Option Value} {base : Heap} (T : Txt K mg) (A : DefAt K mg "_law_all_orders" zcK) : Callee P w K mg base "_law_all_orders" zbM [] 1 false [Md.bw] zbi := by
  refine zaM (k := 0) (fs := zbk) (m' := q108) A zau rfl (fun _ _ _ _ _ _ us hl => by obtain ⟨u0,rfl⟩ := zkf us hl; kernel_rfl) fun f cdv A outer s H g E hr => ?_
  have hu1 := zbI hr
  have hu64 := hr.units
  exact (zaa (zcg 1 zau.nd (by rfl) (by first | exact Or.inl rfl | exact Or.inr rfl) (SO.toE (zd3 (zba (SO.toE (zd3 zbE)) zbE))))
      (zaa (zfd PassesOwn.never rfl (zch (by rfl) T.b_range (zap (vb_ 0) zaH)) (zaC 2 zau.nd (by rfl) (by first | exact Or.inl rfl | exact Or.inr rfl)) (zaa (zdU 3 zau.nd (by rfl) (by first | exact Or.inl rfl | exact Or.inr rfl) (zd3 zbE))
      (zaa (zfd PassesOwn.never rfl (zqX (v_ 1)) (zaC 4 zau.nd (by rfl) (by first | exact Or.inl rfl | exact Or.inr rfl)) (zaa (zfd PassesOwn.never rfl (zch (by rfl) T.b_range (zap (SE.toB (zdq (SE.toB (zc9 (by rfl) T.b_len (zap (vb_ 4) zaH))) (SE.toB zao))) zaH)) (zaC 5 zau.nd (by rfl) (by first | exact Or.inl rfl | exact Or.inr rfl)) (zaa (zgQ 3 rfl PySem.F.plainAttrs_list PySem.F.slot_list_append PySem.F.type_list_append zdz ziJ (by rfl) (by first | exact Or.inl rfl | exact Or.inr (Or.inl rfl) | exact Or.inr (Or.inr rfl)) (zba (zik (SE.toB (zik (SE.toB (zhG (vb_ 4) zfg (zff (vb_ 5)))) (SO.toB (zd3 (zba (v_ 2) zbE))))) (SE.toB (zhG (vb_ 4) (zff (vb_ 5)) zfg))) zbE))
      zag))
      zag))
      (zaa (zlx 3 rfl (zcg 1 zau.nd (by rfl) (by first | exact Or.inl rfl | exact Or.inr rfl) (v_ 3)))
      zag))))
      (zaa (zaE (SO.toE (zj1 hr (by rfl) T.b_sorted (zap (vb_ 1) zaH))))
      zag)))
noncomputable abbrev za3 : Stmt := top 27
noncomputable abbrev zbg : List Str := ["_law_dealing","_law_way","_law_things"]
noncomputable abbrev zbL : List Str := ["_law_dealing","_law_way"]
theorem zcL : FnScope zbg zbL (zac za3) := ⟨rfl,rfl,rfl,by decide +kernel,rfl,by decide +kernel,by decide +kernel⟩
noncomputable def zbj : FS :=
  (seqF (setF q105 2 (zci 1 [0] (fSeq zbm (fSlA (f2 (gv 1) (ci 1) ixA) (zfp (ci 1)) (fun _ => Res.ok none))) (ftN 0) (fun _ => Res.ok true) (f2 (gv 1) (gv 0) ixA))) (seqF (ifF q113 (zax (f2 (f2 (gv 1) (ci 0) ixA) (fun _ => Res.ok (D.str "ring")) eqD)) (seqF (retF q113 (f2 (gv 2) (mkL (zab (f2 (gv 0) (f2 (f2 (gv 1) (ci 1) ixA) (ci 0) ixA) ixA) lNil)) addA)) zak) zak) (seqF (retF q113 (f2 (gv 2) (mkL (zab (f2 (gv 1) (ci 2) ixA) lNil)) addA)) zak)))
noncomputable def zaO : List D→Res D := fun ds => outR false (zbj (zaq zbg.length ds))
theorem zir {P : Program} {w : World} {K : PySem.W.Frag} {mg : Str→Option Value} {base : Heap} (T : Txt K mg) (A : DefAt K mg "_law_things_got" za3) : Callee P w K mg base "_law_things_got" zbL [] 1 false q0 zaO := by
  refine zaM (k := 0) (fs := zbj) (m' := q113) A zcL rfl (fun _ _ _ _ _ _ us hl => by obtain ⟨u0,u1,rfl⟩ := zen us hl; kernel_rfl) fun f cdv A outer s H g E hr => ?_
  have hu1 := zbI hr
  have hu64 := hr.units
  exact (zaa (zb4 2 (X := (cxOf CX0 P w K mg base zbg "_law_things_got" (zac za3) f cdv A outer s H E).nox) (m := q105) (N' := ["_law_hand","_law_dealing"]) (nl := 1) (cap := [0]) zcL.nd rfl (by rfl) (by rfl) (zaN (osc := (zac za3)) (ON := zbg) rfl rfl (by decide +kernel)) (zds (SE.toB (zhG (SE.toB (zaD hu1 (vb_ 1) (SE.toB zao))) (zff (SE.toB zao)) zfg))) (fun _ _ _ _ _ _ => (zaC 0 (show List.Nodup (["_law_hand","_law_dealing"] : List Str) by decide +kernel) (by rfl) (by first | exact Or.inl rfl | exact Or.inr rfl))) (zcO (by decide)) (fun _ _ _ _ _ _ => zgU) (fun _ _ _ _ _ _ => (zaD hu1 (vb_ 1) (vb_ 0))))
      (zaa (s_if (q_eq hu64 (SE.toB (zaD hu1 (vb_ 1) (SE.toB zao))) (SE.toB ziV)) (zaa (zaE (zdq (vb_ 2) (SO.toB (zd3 (zba (zaD hu1 (vb_ 0) (SE.toB (zaD hu1 (SE.toB (zaD hu1 (vb_ 1) (SE.toB zao))) (SE.toB zao)))) zbE)))))
      zag)
      zag)
      (zaa (zaE (zdq (vb_ 2) (SO.toB (zd3 (zba (zaD hu1 (vb_ 1) (SE.toB zao)) zbE)))))
      zag)))
noncomputable abbrev zdp : Stmt := top 28
noncomputable abbrev zdE : List Str := ["_law_one","_law_many"]
noncomputable abbrev zcz : List Str := ["_law_one","_law_many"]
theorem zeU : FnScope zdE zcz (zac zdp) := ⟨rfl,rfl,rfl,by decide +kernel,rfl,by decide +kernel,by decide +kernel⟩
noncomputable def zbH : FS :=
  (seqF (retF q0 (vAnd (f1 (gv 0) (isiD "int")) (vAnd (vNot (f1 (gv 0) (isiD "bool"))) (zhj (ci 0) (gv 0) (gv 1) leI ltI)))) zak)
noncomputable def zbe : List D→Res D := fun ds => outR false (zbH (zaq zdE.length ds))
theorem zjk {P : Program} {w : World} {K : PySem.W.Frag} {mg : Str→Option Value} {base : Heap} (T : Txt K mg) (A : DefAt K mg "_law_is_whole" zdp) : Callee P w K mg base "_law_is_whole" zcz [] 1 false q0 zbe := by
  refine zaM (k := 0) (fs := zbH) (m' := q0) A zeU rfl (fun _ _ _ _ _ _ us hl => by obtain ⟨u0,u1,rfl⟩ := zen us hl; kernel_rfl) fun f cdv A outer s H g E hr => ?_
  have hu1 := zbI hr
  have hu64 := hr.units
  exact (zaa (zaE (zlz (zjx "int" "int" rfl (znS _) (by rfl) T.b_isinstance (by rfl) T.b_int (vb_ 0)) (zlz (zqw (zjx "bool" "bool" rfl (zl1 _) (by rfl) T.b_isinstance (by rfl) T.b_bool (vb_ 0))) (zoD (zly zqJ znA zqM zqL (SE.toB zao) (vb_ 0) (vb_ 1))))))
      zag)
noncomputable abbrev zbQ : Stmt := top 29
noncomputable abbrev zck : List Str := ["_law_wishes_here","_law_dealing","_law_way","_law_hand","_law_thing"]
noncomputable abbrev zdh : List Str := ["_law_wishes_here","_law_dealing","_law_way"]
theorem zbS : FnScope zck zdh (zac zbQ) := ⟨rfl,rfl,rfl,by decide +kernel,rfl,by decide +kernel,by decide +kernel⟩
noncomputable abbrev zcB : FS :=
  (seqF (ifF q101 (fNot (fTru (zaB (zab (gv 0) (zab (gv 3) (zab (gv 4) (zab (f2 (gv 1) (gv 3) ixA) lNil)))) [] zbx))) (seqF (retF q101 (fun _ => Res.ok (D.bl false))) zak) zak) zak)
noncomputable def zcr : FS :=
  (seqF (ifF q101 (fOr (fNot (fTru (f1 (gv 2) (isiD "tuple")))) (fOr (zax (f2 (fC (zab (gv 2) lNil) lenD) (mkT (zab (ci 2) (zab (ci 3) lNil))) ninD)) (fNot (fTru (f1 (f2 (gv 2) (ci 1) ixA) (isiD "tuple")))))) (seqF (retF q101 (fun _ => Res.ok (D.bl false))) zak) zak) (seqF (ifF q101 (fNot (fTru (fC (zab (zci 1 [0] (fSeq zbm (f2 (gv 2) (ci 1) ixA)) (ftN 0) (fun _ => Res.ok true) (zaB (zab (gv 0) (zab (fC (zab (gv 1) lNil) lenD) lNil)) [] zbe)) lNil) allD))) (seqF (retF q101 (fun _ => Res.ok (D.bl false))) zak) zak) (seqF (ifF q101 (fOr (zax (f2 (fC (zab (f2 (gv 2) (ci 1) ixA) lNil) lenD) (ci 0) eqD)) (zax (f2 (f1 (f2 (gv 2) (ci 1) ixA) zm7) (fC (zab (f2 (gv 2) (ci 1) ixA) lNil) lenD) ltI))) (seqF (retF q101 (fun _ => Res.ok (D.bl false))) zak) zak) (seqF (ifF q101 (fAnd (zax (f2 (fC (zab (gv 2) lNil) lenD) (ci 2) eqD)) (fOr (zax (f2 (f2 (gv 2) (ci 0) ixA) (fun _ => Res.ok (D.str "ring")) neD)) (zax (f2 (fC (zab (f2 (gv 2) (ci 1) ixA) lNil) lenD) (ci 2) ltI)))) (seqF (retF q101 (fun _ => Res.ok (D.bl false))) zak) zak) (seqF (ifF q101 (fAnd (zax (f2 (fC (zab (gv 2) lNil) lenD) (ci 3) eqD)) (fOr (zax (f2 (f2 (gv 2) (ci 0) ixA) (fun _ => Res.ok (D.str "line")) neD)) (fNot (fTru (zaB (zab (f2 (gv 2) (ci 2) ixA) (zab (fC (zab (f2 (gv 0) (ci 0) ixA) lNil) lenD) lNil)) [] zbe))))) (seqF (retF q101 (fun _ => Res.ok (D.bl false))) zak) zak) (seqF (ifF q101 (fAnd (zax (f2 (fC (zab (gv 2) lNil) lenD) (ci 3) eqD)) (zax (f2 (f2 (gv 2) (ci 2) ixA) (gv 1) inD))) (seqF (retF q101 (fun _ => Res.ok (D.bl false))) zak) zak) (seqF (zcH q101 (fZip (f2 (gv 2) (ci 1) ixA) (zaB (zab (gv 1) (zab (gv 2) lNil)) [] zaO)) (ftT (za4 (ftN 3) (za4 (ftN 4) zez))) zcB) (seqF (retF q101 (fun _ => Res.ok (D.bl true))) zak))))))))
noncomputable def zcn : List D→Res D := fun ds => outR false (zcr (zaq zck.length ds))
theorem zlk {P : Program} {w : World} {K : PySem.W.Frag} {mg : Str→Option Value} {base : Heap} (T : Txt K mg) (A : DefAt K mg "_law_is_way" zbQ) (c__law_is_whole : Callee P w K mg base "_law_is_whole" zcz [] 1 false q0 zbe) (c__law_things_got : Callee P w K mg base "_law_things_got" zbL [] 1 false q0 zaO) (c__law_likes : Callee P w K mg base "_law_likes" zcP [] 1 false q103 zbx) : Callee P w K mg base "_law_is_way" zdh [] 2 false q106 zcn := by
  refine zaM (k := 1) (fs := zcr) (m' := q101) A zbS rfl (fun _ _ _ _ _ _ us hl => by obtain ⟨u0,u1,u2,rfl⟩ := zke us hl; kernel_rfl) fun f cdv A outer s H g E hr => ?_
  have hu1 := zbI hr
  have hu64 := hr.units
  exact (zaa (s_if (SW.toQ (q_or (zgV (zei (SE.toB (zjx "tuple" "tuple" rfl (zha _) (by rfl) T.b_isinstance (by rfl) T.b_tuple (vb_ 2))))) (q_or (zlF hu1 (SE.toB (zc9 (by rfl) T.b_len (zap (vb_ 2) zaH))) (SE.toB (ziU (zba zao (zba zao zbE))))) (zjI (zgV (zei (SE.toB (zjx "tuple" "tuple" rfl (zha _) (by rfl) T.b_isinstance (by rfl) T.b_tuple (SE.toB (zaD hu1 (vb_ 2) (SE.toB zao))))))))))) (zaa (zaE s_bl)
      zag)
      zag)
      (zaa (s_if (zgV (zei (SE.toB (zqz rfl (by rfl) T.b_all (zap (SO.toB (zg7 (X := (cxOf CX0 P w K mg base zck "_law_is_way" (zac zbQ) f cdv A outer s H E).nox) (N' := ["_law_hand","_law_wishes_here"]) (nl := 1) (cap := [0]) zbS.nd rfl (zaN (osc := (zac zbQ)) (ON := zck) rfl rfl (by decide +kernel)) (zds (SE.toB (zaD hu1 (vb_ 2) (SE.toB zao)))) (fun _ _ _ _ _ _ => (zaC 0 (show List.Nodup (["_law_hand","_law_wishes_here"] : List Str) by decide +kernel) (by rfl) (by first | exact Or.inl rfl | exact Or.inr rfl))) (zcO (by decide)) (fun _ _ _ _ _ _ => zgU) (fun _ _ _ _ _ _ => (zaw (dds := []) c__law_is_whole (hr.mono (by decide)) (m_bw (vb_ 0) (m_bw (SE.toB (zc9 (by rfl) T.b_len (zap (vb_ 1) zaH))) za7)))))) zaH))))) (zaa (zaE s_bl)
      zag)
      zag)
      (zaa (s_if (SW.toQ (q_or (q_eq hu64 (SE.toB (zc9 (by rfl) T.b_len (zap (SE.toB (zaD hu1 (vb_ 2) (SE.toB zao))) zaH))) (SE.toB zao)) (zjI (q_lt (SE.toB (zlw rfl (by rfl) T.b_len (by rfl) T.b_set (SE.toB (zaD hu1 (vb_ 2) (SE.toB zao))))) (SE.toB (zc9 (by rfl) T.b_len (zap (SE.toB (zaD hu1 (vb_ 2) (SE.toB zao))) zaH))))))) (zaa (zaE s_bl)
      zag)
      zag)
      (zaa (s_if (SW.toQ (zlG (q_eq hu64 (SE.toB (zc9 (by rfl) T.b_len (zap (vb_ 2) zaH))) (SE.toB zao)) (zin (SW.toQ (q_or (q_ne hu64 (SE.toB (zaD hu1 (vb_ 2) (SE.toB zao))) (SE.toB ziV)) (zjI (q_lt (SE.toB (zc9 (by rfl) T.b_len (zap (SE.toB (zaD hu1 (vb_ 2) (SE.toB zao))) zaH))) (SE.toB zao)))))))) (zaa (zaE s_bl)
      zag)
      zag)
      (zaa (s_if (SW.toQ (zlG (q_eq hu64 (SE.toB (zc9 (by rfl) T.b_len (zap (vb_ 2) zaH))) (SE.toB zao)) (zin (SW.toQ (q_or (q_ne hu64 (SE.toB (zaD hu1 (vb_ 2) (SE.toB zao))) (SE.toB ziV)) (zjI (zgV (zei (SE.toB (zaw (dds := []) c__law_is_whole (hr.mono (by decide)) (m_bw (SE.toB (zaD hu1 (vb_ 2) (SE.toB zao))) (m_bw (SE.toB (zc9 (by rfl) T.b_len (zap (SE.toB (zaD hu1 (vb_ 0) (SE.toB zao))) zaH))) za7)))))))))))) (zaa (zaE s_bl)
      zag)
      zag)
      (zaa (s_if (SW.toQ (zlG (q_eq hu64 (SE.toB (zc9 (by rfl) T.b_len (zap (vb_ 2) zaH))) (SE.toB zao)) (zin (q_in hu1 (SE.toB (zaD hu1 (vb_ 2) (SE.toB zao))) (vb_ 1))))) (zaa (zaE s_bl)
      zag)
      zag)
      (zaa (zfd PassesOwn.never rfl (zpN (by rfl) T.b_zip (zaD hu1 (vb_ 2) (SE.toB zao)) (zaw (dds := []) c__law_things_got (hr.mono (by decide)) (m_bw (vb_ 1) (m_bw (vb_ 2) za7)))) (zl6 rfl (zeN (zaC 3 zbS.nd (by rfl) (by first | exact Or.inl rfl | exact Or.inr rfl)) (zeN (zaC 4 zbS.nd (by rfl) (by first | exact Or.inl rfl | exact Or.inr rfl)) zl7))) (zaa (s_if (zgV (zei (SE.toB (zaw (dds := []) c__law_likes (hr.mono (by decide)) (m_bw (vb_ 0) (m_bw (vb_ 3) (m_bw (vb_ 4) (m_bw (SE.toB (zaD hu1 (vb_ 1) (vb_ 3))) za7)))))))) (zaa (zaE s_bl)
      zag)
      zag)
      zag))
      (zaa (zaE s_bl)
      zag))))))))
noncomputable abbrev zeH : Stmt := top 24
noncomputable abbrev zfz : List Str := ["_law_row_here","_law_left","_law_thing"]
noncomputable abbrev zd7 : List Str := ["_law_row_here","_law_left"]
theorem zeJ : FnScope zfz zd7 (zac zeH) := ⟨rfl,rfl,rfl,by decide +kernel,rfl,by decide +kernel,by decide +kernel⟩
noncomputable abbrev zbG : FS :=
  (seqF (ifF q105 (zax (f2 (gv 2) (gv 1) inD)) (seqF (retF q105 (gv 2)) zak) zak) zak)
noncomputable def zdn : FS :=
  (seqF (zcH q105 (fSeq zbm (gv 0)) (ftN 2) zbG) (seqF (retF q105 (fun _ => Res.ok D.non)) zak))
noncomputable def zcF : List D→Res D := fun ds => outR false (zdn (zaq zfz.length ds))
theorem zmK {P : Program} {w : World} {K : PySem.W.Frag} {mg : Str→Option Value} {base : Heap} (T : Txt K mg) (A : DefAt K mg "_law_best" zeH) : Callee P w K mg base "_law_best" zd7 [] 1 false q0 zcF := by
  refine zaM (k := 0) (fs := zdn) (m' := q105) A zeJ rfl (fun _ _ _ _ _ _ us hl => by obtain ⟨u0,u1,rfl⟩ := zen us hl; kernel_rfl) fun f cdv A outer s H g E hr => ?_
  have hu1 := zbI hr
  have hu64 := hr.units
  exact (zaa (zmA PassesOwn.never rfl (zds (vb_ 0)) (fun _ => (zaC 2 zeJ.nd (by rfl) (by first | exact Or.inl rfl | exact Or.inr rfl))) (fun _ => (zaa (s_if (q_in hu1 (vb_ 2) (vb_ 1)) (zaa (zaE (v_ 2))
      zag)
      zag)
      zag)))
      (zaa (zaE zfC)
      zag))
noncomputable abbrev zaQ : Stmt := top 25
noncomputable abbrev za5 : List Str := ["_law_wishes_here","_law_order","_law_things","_law_got","_law_hand"]
noncomputable abbrev zbF : List Str := ["_law_wishes_here","_law_order"]
theorem zaR : FnScope za5 zbF (zac zaQ) := ⟨rfl,rfl,rfl,by decide +kernel,rfl,by decide +kernel,by decide +kernel⟩
noncomputable abbrev zcf : FS :=
  (seqF (putF q118 3 (gv 4) (zaB (zab (f2 (gv 0) (gv 4) ixA) (zab (gv 2) lNil)) [] zcF)) (seqF (mutF "list" q118 2 (zab (f2 (gv 3) (gv 4) ixA) lNil) remD) zak))
noncomputable def za6 : FS :=
  (seqF (setF q122 2 (fC (zab (fC (zab (f2 (gv 0) (ci 0) ixA) lNil) lenD) lNil) zhQ)) (seqF (setF q114 3 (zci 1 [] (fSeq zbm (gv 1)) (ftN 0) (fun _ => Res.ok true) (fun _ => Res.ok D.non))) (seqF (zcH q118 (fSeq zbm (gv 1)) (ftN 4) zcf) (seqF (retF q118 (fC (zab (gv 3) lNil) tupD)) zak))))
noncomputable def zaJ : List D→Res D := fun ds => outR false (za6 (zaq za5.length ds))
theorem zhL {P : Program} {w : World} {K : PySem.W.Frag} {mg : Str→Option Value} {base : Heap} (T : Txt K mg) (A : DefAt K mg "_law_order_dealt" zaQ) (c__law_best : Callee P w K mg base "_law_best" zd7 [] 1 false q0 zcF) : Callee P w K mg base "_law_order_dealt" zbF [] 2 false q0 zaJ := by
  refine zaM (k := 1) (fs := za6) (m' := q118) A zaR rfl (fun _ _ _ _ _ _ us hl => by obtain ⟨u0,u1,rfl⟩ := zen us hl; kernel_rfl) fun f cdv A outer s H g E hr => ?_
  have hu1 := zbI hr
  have hu64 := hr.units
  exact (zaa (zdU 2 zaR.nd (by rfl) (by first | exact Or.inl rfl | exact Or.inr rfl) (zhM rfl (by rfl) T.b_list (by rfl) T.b_range (zap (SE.toB (zc9 (by rfl) T.b_len (zap (SE.toB (zaD hu1 (vb_ 0) (SE.toB zao))) zaH))) zaH)))
      (zaa (zb4 3 (X := (cxOf CX0 P w K mg base za5 "_law_order_dealt" (zac zaQ) f cdv A outer s H E).nox) (m := q114) (N' := ["_law_hand"]) (nl := 1) (cap := []) zaR.nd rfl (by rfl) (by rfl) (zaN (osc := (zac zaQ)) (ON := za5) rfl rfl (by decide +kernel)) (zds (vb_ 1)) (fun _ _ _ _ _ _ => (zaC 0 (show List.Nodup (["_law_hand"] : List Str) by decide +kernel) (by rfl) (by first | exact Or.inl rfl | exact Or.inr rfl))) (zcO (by decide)) (fun _ _ _ _ _ _ => zgU) (fun _ _ _ _ _ _ => zfC))
      (zaa (zmB PassesOwn.never rfl (zmR (vw_ 1)) (zaC 4 zaR.nd (by rfl) (by first | exact Or.inl rfl | exact Or.inr rfl)) (zaa (zlv 3 hu1 rfl (by rfl) (by first | exact Or.inl rfl | exact Or.inr (Or.inl rfl) | exact Or.inr (Or.inr rfl)) (vb_ 4) (zaw (dds := []) c__law_best (hr.mono (by decide)) (m_bw (SE.toB (zaD hu1 (vb_ 0) (vb_ 4))) (m_bw (vb_ 2) za7))))
      (zaa (zgQ 2 rfl PySem.F.plainAttrs_list PySem.F.slot_list_remove PySem.F.type_list_remove zfh zjC (by rfl) (by first | exact Or.inl rfl | exact Or.inr (Or.inl rfl) | exact Or.inr (Or.inr rfl)) (zba (zaD hu1 (vb_ 3) (vb_ 4)) zbE))
      zag)))
      (zaa (zaE (zfc (by rfl) T.b_tuple (zap (vb_ 3) zaH)))
      zag))))
noncomputable abbrev zfL : Stmt := top 33
noncomputable abbrev zji : List Str := ["_law_script","_law_cell_here","_law_n","_law_m","_law_wishes_here","_law_dealing","_law_better","_law_by_some","_law_way","_law_order"]
noncomputable abbrev zqc : List Str := ["_law_script"]
theorem zdS : FnScope zji zqc (zac zfL) := ⟨rfl,rfl,rfl,by decide +kernel,rfl,by decide +kernel,by decide +kernel⟩
noncomputable def zmu : FS :=
  (seqF (setF q110 1 (zaB (zab (gv 0) (zab (ci 1) lNil)) [] zbf)) (seqF (setF q110 2 (f2 (ci 1) (f2 (gv 1) (ci 4) modI) addA)) (seqF (setF q110 3 (f2 (gv 2) (f2 (f2 (gv 1) (ci 4) zja) (f2 (ci 6) (gv 2) subI) modI) addA)) (seqF (setF q110 4 (zaB (zab (gv 0) (zab (ci 4) (zab (gv 2) (zab (gv 3) lNil)))) [] zcl)) (seqF (setF q110 5 (fSlA (zaB (zab (zaB (zab (gv 0) (zab (ci 11) lNil)) [] zbf) (zab (gv 3) lNil)) [] zbO) (fun _ => Res.ok none) (zfp (gv 2)))) (seqF (setF q110 6 (zci 1 [4,5] (fSeq zbm (zaB (zab (gv 2) (zab (gv 3) lNil)) [] zaV)) (ftN 0) (fTru (zaB (zab (gv 1) (zab (gv 0) (zab (gv 2) lNil))) [] zbq)) (gv 0))) (seqF (setF q126 7 (zci 1 [5,4] (fSeq zbm (zaB (zab (gv 2) lNil) [] zbi)) (ftN 0) (zax (f2 (zaB (zab (gv 2) (zab (gv 0) lNil)) [] zaJ) (gv 1) eqD)) (gv 0))) (seqF (setF q107 8 (zaB (zab (gv 4) (zab (gv 5) lNil)) [] zca)) (seqF (setF q107 9 (zaB (zab (gv 4) (zab (gv 5) lNil)) [] zbZ)) (seqF (ifF q107 (zax (f2 (f2 (gv 6) (mkL lNil) eqD) (f2 (gv 7) (mkL lNil) neD) neD)) (seqF (retF q107 (fun _ => Res.ok (D.bl false))) zak) zak) (seqF (ifF q107 (zax (f2 (gv 6) (mkL lNil) eqD)) (seqF (retF q107 (vAnd (f2 (gv 8) (fun _ => Res.ok D.non) isD) (vAnd (f1 (gv 9) (isiD "list")) (f2 (zaB (zab (gv 4) (zab (gv 9) lNil)) [] zaJ) (gv 5) eqD)))) zak) zak) (seqF (ifF q107 (fOr (zax (f2 (gv 9) (fun _ => Res.ok D.non) isnD)) (fNot (fTru (zaB (zab (gv 4) (zab (gv 5) (zab (gv 8) lNil))) [] zcn)))) (seqF (retF q107 (fun _ => Res.ok (D.bl false))) zak) zak) (seqF (retF q107 (f2 (zaB (zab (gv 4) (zab (gv 5) (zab (gv 8) lNil))) [] zdM) (gv 6) inE)) zak)))))))))))))
noncomputable def zoe : List D→Res D := fun ds => outR false (zmu (zaq zji.length ds))
theorem zrd {P : Program} {w : World} {K : PySem.W.Frag} {mg : Str→Option Value} {base : Heap} (T : Txt K mg) {fa : Addr} {fd : FuncData} (A : Fun K "law" "law" zfL fa fd) (c__law_cell : Callee P w K mg base "_law_cell" zdi [] 1 false q0 zbf) (c__law_wishes : Callee P w K mg base "_law_wishes" zdf [] 2 false q103 zcl) (c__law_row : Callee P w K mg base "_law_row" zdK [] 1 false [.sh,.bw] zbO) (c__law_all_dealings : Callee P w K mg base "_law_all_dealings" zbu [] 2 false q0 zaV) (c__law_is_better : Callee P w K mg base "_law_is_better" zcc [] 2 false q106 zbq) (c__law_all_orders : Callee P w K mg base "_law_all_orders" zbM [] 1 false [Md.bw] zbi) (c__law_order_dealt : Callee P w K mg base "_law_order_dealt" zbF [] 2 false q0 zaJ) (c_betterment : Callee P w K mg base "betterment" zdC [] 5 false [.bw,.sh] zca) (c_order_behind : Callee P w K mg base "order_behind" zcU [] 2 false q0 zbZ) (c__law_is_way : Callee P w K mg base "_law_is_way" zdh [] 2 false q106 zcn) (c_bettered : Callee P w K mg base "bettered" zeE [] 3 false q106 zdM) : FnOk P w K mg base CX0 6 fa fd zqc (spM K false [Md.sh] zoe) := by
  refine zmU (k := 5) (fs := zmu) (m' := q107) A zdS rfl fun cdv A outer s H g E hr => ?_
  have hu1 := zbI hr
  have hu64 := hr.units
  exact (zaa (zcg 1 zdS.nd (by rfl) (by first | exact Or.inl rfl | exact Or.inr rfl) (zaw (dds := []) c__law_cell (hr.mono (by decide)) (m_bw (vb_ 0) (m_bw (SE.toB zao) za7))))
      (zaa (zcg 2 zdS.nd (by rfl) (by first | exact Or.inl rfl | exact Or.inr rfl) (zdq (SE.toB zao) (SE.toB (zf9 (vb_ 1) (SE.toB zao)))))
      (zaa (zcg 3 zdS.nd (by rfl) (by first | exact Or.inl rfl | exact Or.inr rfl) (zdq (vb_ 2) (SE.toB (zf9 (SE.toB (zmC (vb_ 1) (SE.toB zao))) (SE.toB (zqu (SE.toB zao) (vb_ 2)))))))
      (zaa (zcg 4 zdS.nd (by rfl) (by first | exact Or.inl rfl | exact Or.inr rfl) (zaw (dds := []) c__law_wishes (hr.mono (by decide)) (m_bw (vb_ 0) (m_bw (SE.toB zao) (m_bw (vb_ 2) (m_bw (vb_ 3) za7))))))
      (zaa (zcg 5 zdS.nd (by rfl) (by first | exact Or.inl rfl | exact Or.inr rfl) (zhG (SE.toB (zaw (dds := []) c__law_row (hr.mono (by decide)) (m_sh (zaw (dds := []) c__law_cell (hr.mono (by decide)) (m_bw (vb_ 0) (m_bw (SE.toB zao) za7))) (m_bw (vb_ 3) za7)))) zfg (zff (vb_ 2))))
      (zaa (zb4 6 (X := (cxOf CX0 P w K mg base zji "law" (zac zfL) fa cdv A outer s H E).nox) (m := q110) (N' := ["_law_other","_law_wishes_here","_law_dealing"]) (nl := 1) (cap := [4,5]) zdS.nd rfl (by rfl) (by rfl) (zaN (osc := (zac zfL)) (ON := zji) rfl rfl (by decide +kernel)) (zds (SE.toB (zaw (dds := []) c__law_all_dealings (hr.mono (by decide)) (m_bw (vb_ 2) (m_bw (vb_ 3) za7))))) (fun _ _ _ _ _ _ => (zaC 0 (show List.Nodup (["_law_other","_law_wishes_here","_law_dealing"] : List Str) by decide +kernel) (by rfl) (by first | exact Or.inl rfl | exact Or.inr rfl))) (zcO (by decide)) (fun _ _ _ _ _ _ => (zeK (zei (SE.toB (zaw (dds := []) c__law_is_better (hr.mono (by decide)) (m_bw (vb_ 1) (m_bw (vb_ 0) (m_bw (vb_ 2) za7)))))))) (fun _ _ _ _ _ _ => (v_ 0)))
      (zaa (zb4 7 (X := (cxOf CX0 P w K mg base zji "law" (zac zfL) fa cdv A outer s H E).nox) (m := q126) (N' := ["_law_order","_law_dealing","_law_wishes_here"]) (nl := 1) (cap := [5,4]) zdS.nd rfl (by rfl) (by rfl) (zaN (osc := (zac zfL)) (ON := zji) rfl rfl (by decide +kernel)) (zds (SE.toB (zaw (dds := []) c__law_all_orders (hr.mono (by decide)) (m_bw (vb_ 2) za7)))) (fun _ _ _ _ _ _ => (zaC 0 (show List.Nodup (["_law_order","_law_dealing","_law_wishes_here"] : List Str) by decide +kernel) (by rfl) (by first | exact Or.inl rfl | exact Or.inr rfl))) (zcO (by decide)) (fun _ _ _ _ _ _ => (zeK (q_eq hu64 (SE.toB (zaw (dds := []) c__law_order_dealt (hr.mono (by decide)) (m_bw (vb_ 2) (m_bw (vb_ 0) za7)))) (vb_ 1)))) (fun _ _ _ _ _ _ => (v_ 0)))
      (zaa (zcg 8 zdS.nd (by rfl) (by first | exact Or.inl rfl | exact Or.inr rfl) (zaw (dds := []) c_betterment (hr.mono (by decide)) (m_bw (vb_ 4) (m_sh (v_ 5) za7))))
      (zaa (zcg 9 zdS.nd (by rfl) (by first | exact Or.inl rfl | exact Or.inr rfl) (zaw (dds := []) c_order_behind (hr.mono (by decide)) (m_bw (vb_ 4) (m_bw (vb_ 5) za7))))
      (zaa (s_if (q_ne hu64 (SE.toB (s_eq hu64 (vb_ 6) (SO.toB (zd3 zbE)))) (SE.toB (s_ne hu64 (vb_ 7) (SO.toB (zd3 zbE))))) (zaa (zaE s_bl)
      zag)
      zag)
      (zaa (s_if (q_eq hu64 (vb_ 6) (SO.toB (zd3 zbE))) (zaa (zaE (zlz (s_is (vb_ 8) (SE.toB zfC)) (zlz (zjx "list" "list" rfl (zl0 _) (by rfl) T.b_isinstance (by rfl) T.b_list (vb_ 9)) (zoD (s_eq hu64 (SE.toB (zaw (dds := []) c__law_order_dealt (hr.mono (by decide)) (m_bw (vb_ 4) (m_bw (vb_ 9) za7)))) (vb_ 5))))))
      zag)
      zag)
      (zaa (s_if (SW.toQ (q_or (zqA (vb_ 9) (SE.toB zfC)) (zjI (zgV (zei (SE.toB (zaw (dds := []) c__law_is_way (hr.mono (by decide)) (m_bw (vb_ 4) (m_bw (vb_ 5) (m_bw (vb_ 8) za7)))))))))) (zaa (zaE s_bl)
      zag)
      zag)
      (zaa (zaE (zqy hu64 (SE.toB (zaw (dds := []) c_bettered (hr.mono (by decide)) (m_bw (vb_ 4) (m_bw (vb_ 5) (m_bw (vb_ 8) za7))))) (vb_ 6)))
      zag)))))))))))))
end Law
end
section
namespace Law
open PySem L2 DL
noncomputable abbrev nD (k : Nat) : D := .int (k : Int)
noncomputable abbrev LN (l : List Nat) : D := .lst (l.map nD)
noncomputable abbrev TN (l : List Nat) : D := .tup (l.map nD)
noncomputable def oD : Option Nat→D
  | none => .non
  | some k => nD k
noncomputable abbrev WD (rows : List (List Nat)) : D := .tup (rows.map TN)
theorem szOk {ds : List D} (h : ds.length≤1000) : sz ds = some ds := zqr (Nat.le_trans h (by rw [sizeLine_eq]; decide))
@[simp] theorem addA_int (a b : Int) : addA (.int a) (.int b) = some (.int (a + b)) := rfl
theorem znK {a b : Int} (h : CMul a b) : mulI (.int a) (.int b) = some (.int (a * b)) := by rw [mulI,intsC_int,if_pos h]
theorem zj6 {a b : Int} (h : 0 < b) : modI (.int a) (.int b) = some (.int (a % b)) := by rw [modI,intsC_int,if_pos h]
theorem zl9 {a b : Int} (h : CDiv a b) : zja (.int a) (.int b) = some (.int (a / b)) := by rw [zja,intsC_int,if_pos h]
theorem zae {s1 s2 : FS} {r r' : Rho} (h : s1 r = .nx r') : seqF s1 s2 r = s2 r' := by unfold seqF; rw [h]
theorem zan {s1 s2 : FS} {r : Rho} {d : D} (h : s1 r = .rt d) : seqF s1 s2 r = .rt d := by unfold seqF; rw [h]
theorem zar {m : List Md} {i : Nat} {f : FE} {r : Rho} {d : D} (h : f r = .ok d) : setF m i f r = .nx (r.set i (some d)) := by unfold setF; rw [h]; rfl
theorem zay {m : List Md} {f : FE} {r : Rho} {d : D} (h : f r = .ok d) : retF m f r = .rt d := by unfold retF; rw [h]; rfl
theorem zpM {m : List Md} {p : FQ} {s1 s2 : FS} {r : Rho} {b : Bool} (h : p r = .ok b) : ifF m p s1 s2 r = if b = true then s1 r else s2 r := by unfold ifF; rw [h]; rfl
theorem if_t {m : List Md} {p : FQ} {s1 s2 : FS} {r : Rho} (h : p r = .ok true) : ifF m p s1 s2 r = s1 r := by rw [zpM h,if_pos rfl]
theorem if_f {m : List Md} {p : FQ} {s1 s2 : FS} {r : Rho} (h : p r = .ok false) : ifF m p s1 s2 r = s2 r := by rw [zpM h,if_neg Bool.false_ne_true]
theorem zpX {p : FQ} {f f' : FE} {r : Rho} (h : p r = .ok true) : fIf p f f' r = f r := by unfold fIf; rw [h]; rfl
theorem zpY {p : FQ} {f f' : FE} {r : Rho} (h : p r = .ok false) : fIf p f f' r = f' r := by unfold fIf; rw [h]; rfl
theorem zfS {fl : Rho→Res (List D)} {r : Rho} {ds : List D} (h : fl r = .ok ds) (hl : ds.length≤1000) : mkT fl r = .ok (.tup ds) := by unfold mkT; rw [h,bind_ok,szOk hl]; rfl
theorem zcN {fl : Rho→Res (List D)} {r : Rho} {ds : List D} (h : fl r = .ok ds) (hl : ds.length≤1000) : mkL fl r = .ok (.lst ds) := by unfold mkL; rw [h,bind_ok,szOk hl]; rfl
theorem zgz {ds : List D} {d : D} (h : ds.length≤1000) : appD (.lst ds) [d] = some (.lst (ds++[d])) := by
  show (if ds.length < sizeLine then some (D.lst (ds++[d])) else none) = _
  rw [if_pos (by rw [sizeLine_eq]; omega)]
theorem zal {fl : Rho→Res (List D)} {dds zs : List D} {F : List D→Res D} {r : Rho} {d : D} (h1 : fl r = .ok zs) (h2 : F (zs++dds) = .ok d) : zaB fl dds F r = .ok d := by unfold zaB; rw [h1,bind_ok,h2]; rfl
theorem zhX {f : FE} {k : D→Option D} {r : Rho} {a d : D} (h1 : f r = .ok a) (h2 : k a = some d) : f1 f k r = .ok d := by unfold f1; rw [h1,bind_ok,h2]; rfl
theorem zaj {f f' : FE} {k : D→D→Option D} {r : Rho} {a b d : D} (h1 : f r = .ok a) (h2 : f' r = .ok b) (h3 : k a b = some d) : f2 f f' k r = .ok d := by unfold f2; rw [h1,bind_ok,h2,bind_ok,h3]; rfl
theorem zbz {fl : Rho→Res (List D)} {k : List D→Option D} {r : Rho} {ds : List D} {d : D} (h1 : fl r = .ok ds) (h2 : k ds = some d) : fC fl k r = .ok d := by unfold fC; rw [h1,bind_ok,h2]; rfl
theorem zad {f : FE} {fl : Rho→Res (List D)} {r : Rho} {d : D} {ds : List D} (h1 : f r = .ok d) (h2 : fl r = .ok ds) : zab f fl r = .ok (d::ds) := by unfold zab; rw [h1,bind_ok,h2]; rfl
theorem zai {r : Rho} : lNil r = .ok [] := rfl
theorem zas {f : FE} {r : Rho} {b : Bool} (h : f r = .ok (.bl b)) : zax f r = .ok b := by unfold zax; rw [h]; rfl
theorem za1 {f : FE} {r : Rho} {d : D} {b : Bool} (h : f r = .ok d) (h2 : truD d = some b) : fTru f r = .ok b := by unfold fTru; rw [h,bind_ok,h2]; rfl
theorem zdX {p : FQ} {r : Rho} {b : Bool} (h : p r = .ok b) : fNot p r = .ok (!b) := by unfold fNot; rw [h]; rfl
theorem zmq {p q : FQ} {r : Rho} (h : p r = .ok true) : fAnd p q r = q r := by unfold fAnd; rw [h]; rfl
theorem zmr {p q : FQ} {r : Rho} (h : p r = .ok false) : fAnd p q r = .ok false := by unfold fAnd; rw [h]; rfl
theorem or_f {p q : FQ} {r : Rho} (h : p r = .ok false) : fOr p q r = q r := by unfold fOr; rw [h]; rfl
theorem zh7 {f f' : FE} {r : Rho} (h : f r = .ok (.bl true)) : vAnd f f' r = f' r := by unfold vAnd; rw [h]; rfl
theorem zm0 {f : FE} {r : Rho} {b : Bool} (h : f r = .ok (.bl b)) : vNot f r = .ok (.bl (!b)) := by unfold vNot; rw [h]; rfl
theorem za2 {m : List Md} {fi : FI} {ft : FT} {b : FS} {r : Rho} {ds : List D} (h : fi r = .ok ds) : zcH m fi ft b r = forF ft b ds r := by unfold zcH; rw [h]; rfl
theorem zfN {f : FE} {r : Rho} {d : D} {ds : List D} (h : f r = .ok d) (h2 : zbm d = some ds) : fSeq zbm f r = .ok ds := by unfold fSeq; rw [h,bind_ok,h2]; rfl
theorem zbs {ft : FT} {b : FS} {r : Rho} : forF ft b [] r = .nx r := by unfold forF; rfl
theorem zce {ft : FT} {b : FS} {r r1 r' : Rho} {d : D} {ds : List D} (h1 : ft d r = some r1) (h2 : b r1 = .nx r') : forF ft b (d::ds) r = forF ft b ds r' := by
  conv => lhs; unfold forF
  simp only [h1,h2]
theorem ziy {ft : FT} {b : FS} {r r1 : Rho} {d v : D} {ds : List D} (h1 : ft d r = some r1) (h2 : b r1 = .rt v) : forF ft b (d::ds) r = .rt v := by
  conv => lhs; unfold forF
  simp only [h1,h2]
theorem zhB {m : List Md} {p : FQ} {b : FS} {n : Nat} {r : Rho} (h : p r = .ok false) : zbv m p b (n + 1) r = .nx r := by unfold zbv; rw [h]; rfl
theorem zf4 {m : List Md} {p : FQ} {b : FS} {n : Nat} {r r' : Rho} (h : p r = .ok true) (h2 : b r = .nx r') : zbv m p b (n + 1) r = zbv m p b n r' := by
  conv => lhs; unfold zbv
  rw [h,onE_ok,if_pos rfl,h2]
theorem zeL {T : String} {m : List Md} {i : Nat} {fl : Rho→Res (List D)} {mk : D→List D→Option D} {r : Rho} {d d' : D} {ds : List D} (h1 : r[i]? = some (some d)) (h2 : tyB T d = true) (h3 : fl r = .ok ds) (h4 : mk d ds = some d') : mutF T m i fl mk r = .nx (r.set i (some d')) := by
  unfold mutF; rw [h1]; simp only [h2,if_true,h3,onE_ok,h4]
theorem zio {m : List Md} {i : Nat} {fk fv : FE} {r : Rho} {d k v d' : D} (h1 : r[i]? = some (some d)) (h2 : fv r = .ok v) (h3 : fk r = .ok k) (h4 : stoD d k v = some d') : DL.putF m i fk fv r = .nx (r.set i (some d')) := by
  unfold DL.putF; rw [h2,onE_ok]; simp only [h1,h3,onE_ok,h4]
theorem zn9 {fa fb fc : FE} {k k' : D→D→Option D} {r : Rho} {x y w d : D} (h1 : fa r = .ok x) (h2 : fb r = .ok y) (h3 : k x y = some (.bl true)) (h4 : fc r = .ok w) (h5 : k' y w = some d) : zhj fa fb fc k k' r = .ok d := by
  unfold zhj; rw [h1,bind_ok,h2,bind_ok,h3,opt_some,bind_ok]
  show (fc r).bind _ = _
  rw [h4,bind_ok,h5]; rfl
theorem zkW {ft : FT} {q : FQ} {fe : FE} {r0 : Rho} : zd5 ft q fe r0 [] = .ok [] := by unfold zd5; rfl
theorem zhn {ft : FT} {q : FQ} {fe : FE} {r0 : Rho} {α : Type} (e : α→D) (keep : α→Bool) (g : α→D) : ∀ (l : List α),(∀ a∈l,∃ r1,ft (e a) r0 = some r1∧q r1 = .ok (keep a)∧(keep a = true→fe r1 = .ok (g a)))→zd5 ft q fe r0 (l.map e) = .ok ((l.filter keep).map g)
  | [],_ => zkW
  | a::l,h => by
    obtain ⟨r1,h1,h2,h3⟩ := h a List.mem_cons_self
    have ih := zhn (ft := ft) (q := q) (fe := fe) (r0 := r0) e keep g l fun b hb => h b (List.mem_cons_of_mem _ hb)
    rw [List.map_cons]
    conv => lhs; unfold zd5
    rw [h1,opt_some,bind_ok,h2,bind_ok]
    cases k : keep a with
    | true => rw [if_pos rfl,h3 k,bind_ok,ih,bind_ok,List.filter_cons,if_pos k]; rfl
    | false => rw [if_neg Bool.false_ne_true,ih,List.filter_cons,if_neg (by rw [k]; exact Bool.false_ne_true)]
theorem zcx {nl : Nat} {cap : List Nat} {fi : FI} {ft : FT} {q : FQ} {fe : FE} {r : Rho} {α : Type} {l : List α} (e : α→D) (keep : α→Bool) (g : α→D) (h1 : fi r = .ok (l.map e)) (hl : l.length≤1000)
    (h : ∀ a∈l,∃ r1,ft (e a) (capR nl cap r) = some r1∧q r1 = .ok (keep a)∧(keep a = true→fe r1 = .ok (g a))) : zci nl cap fi ft q fe r = .ok (.lst ((l.filter keep).map g)) := by
  unfold zci
  rw [h1,bind_ok,szOk (by simpa using hl),opt_some,bind_ok,zhn e keep g l h,noXL_ok,bind_ok]
theorem zqR (k : Nat) : leI (.int 0) (nD k) = some (.bl true) := by
  show some (D.bl (decide ((0 : Int)≤(k : Int)))) = _
  rw [decide_eq_true (Int.natCast_nonneg k)]
theorem zi5 (a b : Nat) : ltI (nD a) (nD b) = some (.bl (decide (a < b))) := by
  show some (D.bl (decide ((a : Int) < (b : Int)))) = _
  simp only [Int.ofNat_lt]
theorem zqZ (a b : Nat) : gtI (nD a) (nD b) = some (.bl (decide (b < a))) := by
  show some (D.bl (decide ((b : Int) < (a : Int)))) = _
  simp only [Int.ofNat_lt]
theorem zmb (a b : Nat) : eqD (nD a) (nD b) = some (.bl (decide (a = b))) := by
  unfold eqD
  rw [eqB_int]
  show some (D.bl ((a : Int) == (b : Int))) = _
  have : ((a : Int) == (b : Int)) = decide (a = b) := by rw [Bool.eq_iff_iff,beq_iff_eq,decide_eq_true_iff]; exact Int.ofNat_inj
  rw [this]
theorem zpn (a b : Nat) : neD (nD a) (nD b) = some (.bl (!decide (a = b))) := by
  unfold neD
  rw [eqB_int]
  show some (D.bl (!((a : Int) == (b : Int)))) = _
  have : ((a : Int) == (b : Int)) = decide (a = b) := by rw [Bool.eq_iff_iff,beq_iff_eq,decide_eq_true_iff]; exact Int.ofNat_inj
  rw [this]
theorem zaF {B : FS} {n : Nat} {ds : List D} {d : D} (h : B (zaq n ds) = .rt d) : outR false (B (zaq n ds)) = .ok d := by rw [h]; rfl
noncomputable abbrev kI (k : Nat) : Key := Sum.inl (k : Int)
theorem zpP (kvs : List (Nat × D)) (k : Nat) : hasK (kvs.map fun p => (kI p.1,p.2)) (kI k) = decide (k∈kvs.map (·.1)) := by
  unfold hasK
  rw [List.any_map,Bool.eq_iff_iff,List.any_eq_true,decide_eq_true_iff,List.mem_map]
  constructor
  · rintro ⟨p,h1,h2⟩
    refine ⟨p,h1,?_⟩
    simp only [Function.comp_apply,decide_eq_true_eq] at h2
    have : ((p.1 : Nat) : Int) = (k : Int) := Sum.inl.inj h2
    exact Int.ofNat.inj this
  · rintro ⟨p,h1,rfl⟩
    exact ⟨p,h1,by simp⟩
theorem zlH (kvs : List (Nat × D)) (k : Nat) (d : D) (h : k∉kvs.map (·.1)) : putD (kvs.map fun p => (kI p.1,p.2)) (kI k) d = (kvs++[(k,d)]).map fun p => (kI p.1,p.2) := by
  unfold putD
  have e : ((kvs.map fun p => (kI p.1,p.2)).any fun kv => decide (kv.1 = kI k)) = decide (k∈kvs.map (·.1)) := zpP kvs k
  rw [e,decide_eq_false h,if_neg Bool.false_ne_true,List.map_append]
  rfl
@[simp] theorem e_seq (s1 s2 : FS) (r : Rho) : seqF s1 s2 r = (match s1 r with | .nx r' => s2 r' | o => o) := rfl
@[simp] theorem e_skip (r : Rho) : zak r = .nx r := rfl
@[simp] theorem e_set (m : List Md) (i : Nat) (f : FE) (r : Rho) : setF m i f r = onE m r (f r) fun d => .nx (r.set i (some d)) := rfl
@[simp] theorem e_ret (m : List Md) (f : FE) (r : Rho) : retF m f r = onE m r (f r) fun d => .rt d := rfl
@[simp] theorem e_if (m : List Md) (p : FQ) (s1 s2 : FS) (r : Rho) : ifF m p s1 s2 r = onE m r (p r) fun c => if c = true then s1 r else s2 r := rfl
@[simp] theorem e_getV (r : Rho) (i : Nat) : getV r i = (match r[i]? with | some (some d) => .ok d | _ => .stuck) := rfl
@[simp] theorem e_f1 (f : FE) (k : D→Option D) (r : Rho) : f1 f k r = (f r).bind fun d => opt (k d) := rfl
@[simp] theorem e_f2 (f f' : FE) (k : D→D→Option D) (r : Rho) : f2 f f' k r = (f r).bind fun a => (f' r).bind fun b => opt (k a b) := rfl
@[simp] theorem e_fC (fl : Rho→Res (List D)) (k : List D→Option D) (r : Rho) : fC fl k r = (fl r).bind fun ds => opt (k ds) := rfl
@[simp] theorem e_lN (r : Rho) : lNil r = .ok [] := rfl
@[simp] theorem e_lC (f : FE) (fl : Rho→Res (List D)) (r : Rho) : zab f fl r = (f r).bind fun d => (fl r).bind fun ds => .ok (d::ds) := rfl
@[simp] theorem e_test (f : FE) (r : Rho) : zax f r = (f r).bind fun d => opt (asB d) := rfl
@[simp] theorem e_tru (f : FE) (r : Rho) : fTru f r = (f r).bind fun d => opt (truD d) := rfl
@[simp] theorem e_not (p : FQ) (r : Rho) : fNot p r = (p r).bind fun c => .ok (!c) := rfl
@[simp] theorem e_and (p q : FQ) (r : Rho) : fAnd p q r = (p r).bind fun c => if c = true then q r else .ok false := rfl
@[simp] theorem e_or (p q : FQ) (r : Rho) : fOr p q r = (p r).bind fun c => if c = true then .ok true else q r := rfl
@[simp] theorem e_vand (f f' : FE) (r : Rho) : vAnd f f' r = (f r).bind fun d => (opt (asB d)).bind fun c => if c = true then f' r else .ok (.bl false) := rfl
@[simp] theorem e_vor (f f' : FE) (r : Rho) : vOr f f' r = (f r).bind fun d => (opt (asB d)).bind fun c => if c = true then .ok (.bl true) else f' r := rfl
@[simp] theorem e_vnot (f : FE) (r : Rho) : vNot f r = (f r).bind fun d => (opt (asB d)).bind fun c => .ok (.bl (!c)) := rfl
@[simp] theorem e_fIf (p : FQ) (f f' : FE) (r : Rho) : fIf p f f' r = (p r).bind fun c => if c = true then f r else f' r := rfl
@[simp] theorem e_call (fl : Rho→Res (List D)) (dds : List D) (F : List D→Res D) (r : Rho) : zaB fl dds F r = (fl r).bind fun ds => noX (F (ds++dds)) := rfl
@[simp] theorem e_asB (b : Bool) : asB (.bl b) = some b := rfl
@[simp] theorem e_truB (b : Bool) : truD (.bl b) = some b := rfl
@[simp] theorem e_truL (ds : List D) : truD (.lst ds) = some (!ds.isEmpty) := rfl
@[simp] theorem e_loop (m : List Md) (fi : FI) (ft : FT) (b : FS) (r : Rho) : zcH m fi ft b r = onE m r (fi r) fun ds => forF ft b ds r := rfl
@[simp] theorem e_fSeq (k : D→Option (List D)) (f : FE) (r : Rho) : fSeq k f r = (f r).bind fun d => opt (k d) := rfl
@[simp] theorem e_asL (ds : List D) : zbm (.lst ds) = some ds := rfl
@[simp] theorem e_asT (ds : List D) : zbm (.tup ds) = some ds := rfl
@[simp] theorem e_mkT (fl : Rho→Res (List D)) (r : Rho) : mkT fl r = (fl r).bind fun ds => (opt (sz ds)).bind fun ds => .ok (.tup ds) := rfl
@[simp] theorem e_mkL (fl : Rho→Res (List D)) (r : Rho) : mkL fl r = (fl r).bind fun ds => (opt (sz ds)).bind fun ds => .ok (.lst ds) := rfl
@[simp] theorem e_lenL (ds : List D) : lenD [.lst ds] = some (.int ds.length) := rfl
@[simp] theorem e_lenT (ds : List D) : lenD [.tup ds] = some (.int ds.length) := rfl
@[simp] theorem e_lenK (ds : List (Key × D)) : lenD [.dic ds] = some (.int ds.length) := rfl
@[simp] theorem e_tupL (ds : List D) : tupD [.lst ds] = some (.tup ds) := rfl
@[simp] theorem e_listL (ds : List D) : zi7 [.lst ds] = some (.lst ds) := rfl
@[simp] theorem e_listT (ds : List D) : zi7 [.tup ds] = some (.lst ds) := rfl
@[simp] theorem e_isNN : isD .non .non = some (.bl true) := rfl
@[simp] theorem e_isLN (ds : List D) : isD (.lst ds) .non = some (.bl false) := rfl
@[simp] theorem e_isn1 : isnD .non .non = some (.bl false) := rfl
@[simp] theorem e_isn2 (i : Int) : isnD (.int i) .non = some (.bl true) := rfl
@[simp] theorem e_isn3 (ds : List D) : isnD (.tup ds) .non = some (.bl true) := rfl
@[simp] theorem e_valsD (kvs : List (Key × D)) : zqi (.dic kvs) = some (.lst (kvs.map (·.2))) := rfl
theorem zeY {ds : List D} {i : Nat} {d : D} (h : ds[i]? = some d) : ixA (.tup ds) (nD i) = some d := by
  have hl : i < ds.length := (List.getElem?_eq_some_iff.mp h).1
  show atI ds (i : Int) = some d
  unfold atI ixN
  rw [if_pos (Int.natCast_nonneg i),if_pos (by omega)]
  simpa using h
theorem znW {ds : List D} {i : Nat} {d : D} (h : ds[i]? = some d) : ixA (.lst ds) (nD i) = some d := by
  have hl : i < ds.length := (List.getElem?_eq_some_iff.mp h).1
  show atI ds (i : Int) = some d
  unfold atI ixN
  rw [if_pos (Int.natCast_nonneg i),if_pos (by omega)]
  simpa using h
@[simp] theorem ixA_L0 (d : D) (ds : List D) : ixA (.lst (d::ds)) (.int 0) = some d := znW (i := 0) rfl
@[simp] theorem ixA_T0 (d : D) (ds : List D) : ixA (.tup (d::ds)) (.int 0) = some d := zeY (i := 0) rfl
theorem zqT {kvs : List (Key × D)} {k : Nat} {d : D} (h : getK kvs (kI k) = some d) : ixA (.dic kvs) (nD k) = some d := h
theorem anyE (l : List Nat) (k : Nat) : (l.map nD).any (fun y => eqs y (nD k)) = decide (k∈l) := by
  rw [List.any_map,Bool.eq_iff_iff,List.any_eq_true,decide_eq_true_iff]
  constructor
  · rintro ⟨x,h1,h2⟩
    have : (((x : Nat) : Int) == (k : Int)) = true := h2
    have := Int.ofNat_inj.mp (eq_of_beq this)
    subst this; exact h1
  · intro h
    exact ⟨k,h,by show (((k : Nat) : Int) == (k : Int)) = true; simp⟩
theorem zhV (l : List Nat) : (l.map nD).all zaS = true := by
  rw [List.all_eq_true]
  intro x hx
  obtain ⟨k,_,rfl⟩ := List.mem_map.mp hx
  rfl
theorem znY (l : List Nat) (k : Nat) : inD (nD k) (LN l) = some (.bl (decide (k∈l))) := by
  show (if zaS (nD k) = true∧(l.map nD).all zaS = true then some ((l.map nD).any fun y => eqs y (nD k)) else none).map D.bl = _
  rw [if_pos ⟨rfl,zhV l⟩,anyE]; rfl
theorem zpl (l : List Nat) (k : Nat) : ninD (nD k) (LN l) = some (.bl (!decide (k∈l))) := by
  show (if zaS (nD k) = true∧(l.map nD).all zaS = true then some ((l.map nD).any fun y => eqs y (nD k)) else none).map (fun b => D.bl (!b)) = _
  rw [if_pos ⟨rfl,zhV l⟩,anyE]; rfl
end Law
end
section
namespace Law
open PySem L2 DL
theorem zdJ {α : Type} (f : α→D) (l : List α) : lenD [.tup (l.map f)] = some (nD l.length) := by
  show some (D.int ((l.map f).length : Int)) = _
  rw [List.length_map]
theorem zdb {α : Type} (f : α→D) (l : List α) : lenD [.lst (l.map f)] = some (nD l.length) := by
  show some (D.int ((l.map f).length : Int)) = _
  rw [List.length_map]
theorem zmD (n : Nat) : rngD 0 n = (List.range n).map nD := by
  unfold rngD
  refine List.map_congr_left fun i _ => ?_
  show D.int (0 + (i : Int)) = D.int (i : Int)
  rw [Int.zero_add]
theorem zlW (j : Int) : zhQ [.int j] = if -(2 ^ 62)≤j∧j < 2 ^ 62∧j.toNat≤sizeLine then some (.lst (rngD 0 j.toNat)) else none := rfl
theorem zhP {n : Nat} (h : n≤1000) : zhQ [nD n] = some (LN (List.range n)) := by
  have hs : (n : Int).toNat≤sizeLine := by rw [Int.toNat_natCast,sizeLine_eq]; omega
  rw [zlW,if_pos ⟨by omega,by omega,hs⟩,Int.toNat_natCast,zmD]
theorem zng (j : Int) : rng1 [.int j] = if -(2 ^ 62)≤j∧j < 2 ^ 62 then some (rngD 0 j.toNat) else none := rfl
theorem zeh {n : Nat} (h : n≤1000) : rng1 [nD n] = some ((List.range n).map nD) := by
  rw [zng,if_pos ⟨by omega,by omega⟩,Int.toNat_natCast,zmD]
theorem zdc {fl : Rho→Res (List D)} {k : List D→Option (List D)} {r : Rho} {ds es : List D} (h1 : fl r = .ok ds) (h2 : k ds = some es) : fRng k fl r = .ok es := by unfold fRng; rw [h1,bind_ok,h2]; rfl
theorem zfn {p : Nat→Bool} : ∀ (l : List Nat),l.find? p = (l.filter p).head?
  | [] => rfl
  | a::l => by
    rw [List.find?_cons,List.filter_cons]
    cases h : p a with
    | true => simp
    | false => simpa using zfn l
noncomputable def own (owns : List (Option Nat)) (h : Nat) : Option Nat := (owns[h]?).join
end Law
end
section
namespace Law
open PySem L2 DL
theorem ziX {row : List Nat} {rest : List (List Nat)} : zbc [WD (row::rest)] = .ok (nD row.length) := by
  refine zaF (B := zdl) (n := 1) ?_
  unfold zdl
  exact zan (zay (zbz (zad (zaj (a := WD (row::rest)) (b := .int 0) rfl rfl (ixA_T0 _ _)) zai) (zdJ _ _)))
end Law
end
section
namespace Law
open PySem L2 DL
theorem zlB {row things : List Nat} (h : ∃ x∈row,x∈things) (hl : row.length≤1000) : zbN [TN row,LN things] = .ok (nD (Rg.best row things)) := by
  refine zaF (B := zdm) (n := 2) ?_
  unfold zdm
  have hc : (zci 1 [1] (fSeq zbm (gv 0)) (ftN 0) (zax (f2 (gv 0) (gv 1) inD)) (gv 0)) [some (TN row),some (LN things)] = .ok (LN (row.filter fun x => decide (x∈things))) := by
    refine zcx nD (fun x => decide (x∈things)) nD (l := row) rfl hl fun a _ => ⟨[some (nD a),some (LN things)],rfl,?_,fun _ => rfl⟩
    exact zas (zaj (a := nD a) (b := LN things) rfl rfl (znY _ _))
  have hb : ∃ t,(row.filter fun x => decide (x∈things)) = Rg.best row things::t := by
    unfold Rg.best
    rw [zfn]
    cases e : row.filter fun x => decide (x∈things) with
    | nil =>
      obtain ⟨x,h1,h2⟩ := h
      have : x∈row.filter fun x => decide (x∈things) := List.mem_filter.mpr ⟨h1,by simpa using h2⟩
      rw [e] at this; cases this
    | cons a t => exact ⟨t,rfl⟩
  obtain ⟨t,ht⟩ := hb
  rw [ht] at hc
  exact zan (zay (zaj hc (b := .int 0) rfl (ixA_L0 _ _)))
end Law
end
section
namespace Law
open PySem L2 DL
theorem zpB {a b : Nat} (h : kI a = kI b) : a = b := Int.ofNat_inj.mp (Sum.inl.inj h)
structure GI (t : Nat→Nat) (kvs : List (Nat × Nat)) (L : List Nat) : Prop where
  nd : (kvs.map (·.1)).Nodup
  val : ∀ p∈kvs,p.2 = t p.1
  key : ∀ h,h∈kvs.map (·.1)↔h∈L
theorem GI.len {t : Nat→Nat} {kvs : List (Nat × Nat)} {L line : List Nat} (g : GI t kvs L) (hs : ∀ h∈L,h∈line) : kvs.length≤line.length := by
  have := Rg.zem (m := line) g.nd fun h hh => hs h ((g.key h).mp hh)
  simpa using this
theorem GI.mem {t : Nat→Nat} {kvs : List (Nat × Nat)} {L M : List Nat} (g : GI t kvs L) (h : ∀ x,x∈L↔x∈M) : GI t kvs M := ⟨g.nd,g.val,fun x => (g.key x).trans (h x)⟩
theorem GI.nil (t : Nat→Nat) : GI t [] [] := ⟨by simp,fun _ hp => (nomatch hp),fun h => by simp⟩
theorem zfo {α : Type} (l : List α) : l.filter (fun _ => true) = l := List.filter_eq_self.mpr fun _ _ => rfl
noncomputable def Wr (rows : List (List Nat)) (h : Nat) : List Nat := (rows[h]?).getD []
theorem zjB {rows : List (List Nat)} {h : Nat} (hh : h < rows.length) : (rows.map TN)[h]? = some (TN (Wr rows h)) := by
  rw [List.getElem?_map]
  unfold Wr
  rw [List.getElem?_eq_getElem hh]; rfl
end Law
end
section
namespace Law
open PySem L2 DL
theorem zj7 {a b : Nat} (h : 0 < b) : modI (nD a) (nD b) = some (nD (a % b)) := by
  rw [zj6 (by omega : (0 : Int) < (b : Int))]
  show some (D.int _) = some (D.int _)
  rw [Int.natCast_emod]
theorem zkF {a b : Nat} (h : 0 < b) (h2 : b < 1000) : zja (nD a) (nD b) = some (nD (a / b)) := by
  rw [zl9 (⟨by omega,by omega⟩ : CDiv (a : Int) (b : Int))]
  show some (D.int _) = some (D.int _)
  rw [Int.natCast_ediv]
theorem zfZ (a b : Nat) : addA (nD a) (nD b) = some (nD (a + b)) := by
  rw [addA_int]
  show some (D.int _) = some (D.int _)
  rw [Int.natCast_add]
section
variable {f f' : FE} {r : Rho}
theorem zjb {b : Int} (h : ∃ i : Int,f r = .ok (.int i)) (h' : f' r = .ok (.int b)) (hb : 0 < b) : ∃ c : Nat,f2 f f' modI r = .ok (nD c) := by
  obtain ⟨i,hi⟩ := h
  refine ⟨(i % b).toNat,zaj hi h' ?_⟩
  rw [zj6 hb]
  show some (D.int _) = some (D.int _)
  rw [Int.toNat_of_nonneg (Int.emod_nonneg _ (by omega))]
theorem exN (h : ∃ c : Nat,f r = .ok (nD c)) : ∃ i : Int,f r = .ok (.int i) := let ⟨c,e⟩ := h; ⟨c,e⟩
theorem zfq {b : Int} (h : ∃ i : Int,f r = .ok (.int i)) (h' : f' r = .ok (.int b)) (hb : -(2 ^ 64) < b∧b < 2 ^ 64) : ∃ i : Int,f2 f f' mulI r = .ok (.int i) := by
  obtain ⟨i,hi⟩ := h
  exact ⟨i * b,zaj hi h' (znK (.inr hb))⟩
theorem zma (h : ∃ i : Int,f r = .ok (.int i)) (h' : ∃ i : Int,f' r = .ok (.int i)) : ∃ i : Int,f2 f f' addA r = .ok (.int i) := by
  obtain ⟨i,hi⟩ := h
  obtain ⟨j,hj⟩ := h'
  exact ⟨i + j,zaj hi hj rfl⟩
end
theorem zpZ {m : List Md} {i : Nat} {f : FE} {s2 : FS} {r : Rho} (h : ∃ c : Nat,f r = .ok (nD c)) (k : ∀ c : Nat,∃ d : Nat,s2 (r.set i (some (nD c))) = .rt (nD d)) : ∃ d : Nat,seqF (setF m i f) s2 r = .rt (nD d) := by
  obtain ⟨c,hc⟩ := h
  obtain ⟨d,hd⟩ := k c
  exact ⟨d,(zae (zar hc)).trans hd⟩
noncomputable abbrev IN (ns : List Int) : D := .lst (ns.map .int)
theorem zgc (ns : List Int) (k : Nat) (hk : k≤1000) : ∃ c : Nat,zbf [IN ns,nD k] = .ok (nD c) := by
  suffices h : ∃ c : Nat,zcG (zaq 4 [IN ns,nD k]) = .rt (nD c) by
    obtain ⟨c,hc⟩ := h
    exact ⟨c,zaF (B := zcG) (n := 4) hc⟩
  unfold zcG
  have st : seqF (setF q102 2 (ci 0)) = seqF (setF q102 2 (fun _ => Res.ok (nD 0))) := rfl
  rw [st]
  refine zpZ ⟨0,rfl⟩ fun c1 => ?_
  show ∃ d : Nat,seqF _ _ [some (IN ns),some (nD k),some (nD c1),none] = _
  have key : ∃ c2 : Nat,(ifF q102 (zax (f2 (gv 1) (fC (zab (gv 0) lNil) lenD) ltI)) (seqF (setF q102 2 (f2 (f2 (gv 0) (gv 1) ixA) (f2 (ci 10) (ci 60) powI) modI)) zak) zak) [some (IN ns),some (nD k),some (nD c1),none] = .nx [some (IN ns),some (nD k),some (nD c2),none] := by
    have t := zas (zaj (f := gv 1) (r := [some (IN ns),some (nD k),some (nD c1),none]) (a := nD k) rfl (zbz (zad (f := gv 0) (d := IN ns) rfl zai) (zdb _ _)) (zi5 k ns.length))
    by_cases hlt : k < ns.length
    · rw [decide_eq_true hlt] at t
      have hx : (ns.map D.int)[k]? = some (.int ns[k]) := by rw [List.getElem?_map,List.getElem?_eq_getElem hlt]; rfl
      have hp : powI (.int 10) (.int 60) = some (.int (10 ^ 60)) := by
        show zhe CPow _ _ _ = _
        rw [intsC_int,if_pos (by unfold CPow; decide)]
        rfl
      obtain ⟨c2,h2⟩ := zjb (f := f2 (gv 0) (gv 1) ixA) (f' := f2 (ci 10) (ci 60) powI) (r := [some (IN ns),some (nD k),some (nD c1),none]) ⟨ns[k],zaj (a := IN ns) (b := nD k) rfl rfl (znW hx)⟩ (zaj rfl rfl hp) (by decide)
      exact ⟨c2,(if_t t).trans ((zae (zar h2)).trans rfl)⟩
    · rw [decide_eq_false hlt] at t
      exact ⟨c1,(if_f t).trans rfl⟩
  obtain ⟨c2,h2⟩ := key
  rw [zae h2]
  have kq : ∃ b,(fAnd (zax (f2 (fC (zab (gv 0) lNil) lenD) (ci 0) gtI)) (zax (f2 (f2 (f2 (gv 0) (ci 0) ixA) (ci 2) modI) (ci 0) eqD))) [some (IN ns),some (nD k),some (nD c2),none] = .ok b := by
    have t := zas (zaj (f := fC (zab (gv 0) lNil) lenD) (f' := fun _ => Res.ok (D.int 0)) (r := [some (IN ns),some (nD k),some (nD c2),none]) (b := nD 0) (zbz (zad (d := IN ns) rfl zai) (zdb _ _)) rfl (zqZ ns.length 0))
    cases ns with
    | nil => exact ⟨false,zmr t⟩
    | cons a ns =>
      rw [decide_eq_true (by simp)] at t
      obtain ⟨c3,h3⟩ := zjb (f := f2 (gv 0) (ci 0) ixA) (f' := fun _ => Res.ok (D.int 2)) (r := [some (IN (a::ns)),some (nD k),some (nD c2),none]) ⟨a,zaj (a := IN (a::ns)) (b := .int 0) rfl rfl (ixA_L0 _ _)⟩ rfl (by decide)
      exact ⟨_,(zmq t).trans (zas (zaj h3 (b := nD 0) rfl (zmb c3 0)))⟩
  obtain ⟨b,hb⟩ := kq
  cases b with
  | true => exact ⟨c2,zan ((if_t hb).trans (zan (zay (d := nD c2) rfl)))⟩
  | false =>
    rw [zae ((if_f (s2 := zak) hb).trans (e_skip _))]
    refine zpZ (zjb (zfq (exN (zjb (zfq (zma (zma (zma ⟨(c2 : Int),rfl⟩ (zfq (b := (k : Int)) (zfq (b := (k : Int)) ⟨7,rfl⟩ rfl (by omega)) rfl (by omega))) (zfq (b := (k : Int)) ⟨13,rfl⟩ rfl (by omega))) ⟨5,rfl⟩) rfl (by decide)) rfl (by decide))) rfl (by decide)) rfl (by decide)) fun c3 => ?_
    obtain ⟨c4,h4⟩ := zjb (f := (f2 (f2 (f2 (f2 (gv 3) (ci 1) addA) (ci 40692) mulI) (ci 2147483629) modI) (ci 39373) mulI)) (f' := fun _ => Res.ok (D.int 999999937)) (r := [some (IN ns),some (nD k),some (nD c2),some (nD c3)]) (zfq (exN (zjb (zfq (zma ⟨(c3 : Int),rfl⟩ ⟨1,rfl⟩) rfl (by decide)) rfl (by decide))) rfl (by decide)) rfl (by decide)
    exact ⟨c4,zan (zay h4)⟩
theorem zl3 {row : List Nat} {i : Int} {x : Nat} : insL (row.map nD) i (nD x) = (insL row i x).map nD := by
  unfold insL
  rw [List.length_map,List.map_append,List.map_cons,List.map_take,List.map_drop]
theorem zkv {row : List Nat} {i : Int} {x : Nat} : (insL row i x).Perm (x::row) := by
  unfold insL
  refine List.perm_middle.trans ?_
  rw [List.take_append_drop]
theorem zil (m : Nat) : ∀ (j i c : Nat) (row : List Nat) (x : Option D),row.Perm (List.range i)→i + j≤60 →
    ∃ (c' : Nat) (row' : List Nat) (x' : Option D),row'.Perm (List.range (i + j))∧forF (ftN 3) zeT ((List.range' i j).map nD) [some (nD c),some (nD m),some (LN row),x] = .nx [some (nD c'),some (nD m),some (LN row'),x']
  | 0,i,c,row,x,hp,_ => ⟨c,row,x,hp,zbs⟩
  | j + 1,i,c,row,x,hp,hl => by
    have hlen : row.length = i := by rw [hp.length_eq]; simp
    obtain ⟨c',row',x',h1,h2⟩ := zil m j (i + 1) (c / (i + 1)) (insL row ((c % (i + 1) : Nat) : Int) i) (some (nD i)) (by
      refine zkv.trans ?_
      rw [List.range_succ]
      exact (List.Perm.cons i hp).trans (List.perm_append_singleton i _).symm) (by omega)
    refine ⟨c',row',x',by rw [show i + (j + 1) = i + 1 + j by omega]; exact h1,?_⟩
    rw [← h2]
    have hmod : c % (i + 1) < i + 1 := Nat.mod_lt _ (by omega)
    refine zce (r1 := [some (nD c),some (nD m),some (LN row),some (nD i)]) rfl ?_
    refine (zae (zeL (d := LN row) (ds := [nD (c % (i + 1)),nD i]) (d' := LN (insL row ((c % (i + 1) : Nat) : Int) i)) rfl rfl (zad (zaj (a := nD c) (b := nD (i + 1)) rfl (zaj (a := nD i) (b := nD 1) rfl rfl (zfZ i 1)) (zj7 (by omega))) (zad (d := nD i) rfl zai)) ?_)).trans ?_
    · show (if _ then some (D.lst (insL _ _ _)) else none) = _
      rw [if_pos ⟨by rw [List.length_map,sizeLine_eq]; omega,by omega,by omega⟩,zl3]
    · exact zae (zar (d := nD (c / (i + 1))) (zaj (a := nD c) (b := nD (i + 1)) rfl (zaj (a := nD i) (b := nD 1) rfl rfl (zfZ i 1)) (zkF (by omega) (by omega))))
theorem zjz (c m : Nat) (hm : m≤60) : ∃ row : List Nat,row.Perm (List.range m)∧zbO [nD c,nD m] = .ok (TN row) := by
  obtain ⟨c',row',x',h1,h2⟩ := zil m m 0 c [] none (by simp) (by omega)
  rw [Nat.zero_add] at h1
  rw [← List.range_eq_range'] at h2
  refine ⟨row',h1,zaF (B := zdP) (n := 4) ?_⟩
  unfold zdP
  refine (zae (zar (d := LN []) (zcN zai (by simp)))).trans ?_
  refine (zae ((za2 (ds := (List.range m).map nD) (zdc (zad (d := nD m) rfl zai) (zeh (by omega)))).trans h2)).trans ?_
  exact zan (zay (zbz (zad (d := LN row') rfl zai) rfl))
end Law
end
section
namespace Law
open PySem L2 DL
theorem ziW (ns : List Int) (at' n m : Nat) (ha : at'≤60) (hn : n≤60) (hm : m≤60) : ∃ rows : List (List Nat),rows.length = n∧(∀ row∈rows,row.Perm (List.range m))∧zcl [IN ns,nD at',nD n,nD m] = .ok (WD rows) := by
  have h : ∀ h : Nat,∃ row : List Nat,h≤60→row.Perm (List.range m)∧∃ c : Nat,zbf [IN ns,nD (at' + h)] = .ok (nD c)∧zbO [nD c,nD m] = .ok (TN row) := by
    intro h
    by_cases hh : h≤60
    · obtain ⟨c,hc⟩ := zgc ns (at' + h) (by omega)
      obtain ⟨row,h1,h2⟩ := zjz c m hm
      exact ⟨row,fun _ => ⟨h1,c,hc,h2⟩⟩
    · exact ⟨[],fun z => absurd z hh⟩
  obtain ⟨g,hg⟩ := Classical.axiomOfChoice h
  refine ⟨(List.range n).map g,by simp,fun row hr => ?_,zaF (B := zcp) (n := 4) ?_⟩
  · obtain ⟨i,hi,rfl⟩ := List.mem_map.mp hr
    exact (hg i (by have := List.mem_range.mp hi; omega)).1
  · unfold zcp
    refine zan (zay (zbz (zad (zcx (l := List.range n) nD (fun _ => true) (fun h => TN (g h)) (zdc (zad (d := nD n) rfl zai) (zeh (by omega))) (by simp; omega) fun h hh => ⟨[some (nD h),some (nD m),some (IN ns),some (nD at')],rfl,rfl,fun _ => ?_⟩) zai) ?_))
    · obtain ⟨_,c,h1,h2⟩ := hg h (by have := List.mem_range.mp hh; omega)
      exact zal (zad (zal (zad (d := IN ns) rfl (zad (zaj (a := nD at') (b := nD h) rfl rfl (zfZ at' h)) zai)) h1) (zad (d := nD m) rfl zai)) h2
    · rw [zfo,e_tupL]
      show some (D.tup _) = some (D.tup _)
      rw [List.map_map]; rfl
end Law
end
section
namespace Law
open PySem PyProof.Rows L2 DL
theorem zq3 (a b : Nat) : eqs (nD a) (nD b) = decide (a = b) := by
  show (((a : Nat) : Int) == (b : Int)) = _
  rw [Bool.eq_iff_iff,beq_iff_eq,decide_eq_true_iff]; exact Int.ofNat_inj
theorem zgm (k : Nat) : ∀ l : List Nat,k∈l→zep (nD k) (l.map nD) = some (l.idxOf k)
  | [],h => by cases h
  | a::l,h => by
    show (if eqs (nD a) (nD k) = true then some 0 else (zep (nD k) (l.map nD)).map (· + 1)) = _
    rw [zq3]
    by_cases e : a = k
    · rw [if_pos (by simpa using e)]; subst e; simp
    · rw [if_neg (by simpa using e),zgm k l ((List.mem_cons.mp h).resolve_left fun z => e z.symm)]
      have hf : (a == k) = false := by simpa using e
      rw [List.idxOf_cons,hf]; rfl
theorem zkJ (k : Nat) : ∀ l : List Nat,(l.map nD).eraseIdx (l.idxOf k) = (l.erase k).map nD
  | [] => rfl
  | a::l => by
    by_cases e : a = k
    · subst e; simp
    · rw [List.idxOf_cons,List.erase_cons_tail (by simpa using e)]
      have : (a == k) = false := by simpa using e
      rw [this]
      show nD a::(l.map nD).eraseIdx (l.idxOf k) = _
      rw [zkJ k l]; rfl
theorem zjD {k : Nat} {l : List Nat} (h : k∈l) : remD (LN l) [nD k] = some (LN (l.erase k)) := by
  show (if (l.map nD).all isInt = true then (zep (nD k) (l.map nD)).map fun j => D.lst ((l.map nD).eraseIdx j) else none) = _
  rw [if_pos (by rw [List.all_eq_true]; intro x hx; obtain ⟨y,_,rfl⟩ := List.mem_map.mp hx; rfl),zgm k l h]
  show some (D.lst _) = some (D.lst _)
  rw [zkJ]
theorem ze2 {k : Nat} {l : List Nat} (h : k∈l) : zey (TN l) [nD k] = some (nD (l.idxOf k)) := by
  show (if zaS (nD k) = true∧(l.map nD).all zaS = true then (zep (nD k) (l.map nD)).map fun j => D.int j else none) = _
  rw [if_pos ⟨rfl,zhV l⟩,zgm k l h]; rfl
theorem zkH {T : String} {fo : FE} {fl : Rho→Res (List D)} {k : D→List D→Option D} {r : Rho} {d d' : D} {ds : List D} (h1 : fo r = .ok d) (ht : tyM T d = true) (h2 : fl r = .ok ds) (h3 : k d ds = some d') : fM T fo fl k r = .ok d' := by
  unfold fM; rw [h1,bind_ok,if_pos ht,h2,bind_ok,h3]; rfl
section
variable {a : Nat → Nat} {n : Nat}
end
end Law
end
section
namespace Law
open PySem PyProof.Rows L2 DL
theorem zhk : ∀ l l' : List Nat,PyData.eqvAll (zcR (l.map nD)) (zcR (l'.map nD)) = decide (l = l')
  | [],[] => by simp [zcR,PyData.eqvAll]
  | [],k::l => by simp [zcR,PyData.eqvAll]
  | k::l,[] => by simp [zcR,PyData.eqvAll]
  | k::l,k'::l' => by
    have ih := zhk l l'
    simp only [List.map_cons,zcR,toPy,PyData.eqvAll,PyData.eqv,ih]
    rw [Bool.eq_iff_iff]
    simp
    omega
theorem zls {l : List Nat} {k : Nat} : ∀ d∈l.map nD,Shp k d := by
  intro d hd
  obtain ⟨x,_,rfl⟩ := List.mem_map.mp hd
  cases k <;> trivial
theorem ziC (l l' : List Nat) : eqB (TN l) (TN l') = some (decide (l = l')) := by
  rw [zgp rfl (zfb.mpr zls) (zfb.mpr zls)]
  unfold eqb
  simp only [toPy,PyData.eqv,zhk]
theorem zp1 (l l' : List Nat) : eqD (TN l) (TN l') = some (.bl (decide (l = l'))) := by unfold eqD; rw [ziC]; rfl
theorem zpo (l l' : List Nat) : neD (TN l) (TN l') = some (.bl (!decide (l = l'))) := by unfold neD; rw [ziC]; rfl
theorem zq5 (l : List Nat) : eqB (TN l) (TN l) = some true := by rw [ziC,decide_eq_true rfl]
theorem zq4 (l : List Nat) : eqD (TN l) (TN l) = some (.bl true) := by unfold eqD; rw [zq5]; rfl
theorem zl4 {k : Nat} {l : List Nat} (h : k∈l) : zhT (LN l) [nD k] = some (nD (l.idxOf k)) := by
  show (if zaS (nD k) = true∧(l.map nD).all zaS = true then (zep (nD k) (l.map nD)).map fun j => D.int j else none) = _
  rw [if_pos ⟨rfl,zhV l⟩,zgm k l h]; rfl
theorem zd2 {f : FE} {r : Rho} {i : Int} (h : f r = .ok (.int i)) : zfp f r = .ok (some i) := by unfold zfp; rw [h]; rfl
theorem zmz {ds : List D} {i : Nat} {v : D} (h : i < ds.length) : stoD (.lst ds) (nD i) v = some (.lst (ds.set i v)) := by
  show (ixN ds.length (i : Int)).map _ = _
  unfold ixN
  rw [if_pos (Int.natCast_nonneg i),if_pos (by omega)]
  simp
theorem zgr {nl : Nat} {cap : List Nat} {fi : FI} {ft : FT} {fe : FE} {r : Rho} {α : Type} {l : List α} (e : α→D) (g : α→D) (h1 : fi r = .ok (l.map e)) (hl : l.length≤1000)
    (h : ∀ a∈l,∃ r1,ft (e a) (capR nl cap r) = some r1∧fe r1 = .ok (g a)) : zci nl cap fi ft (fun _ => Res.ok true) fe r = .ok (.lst (l.map g)) := by
  have := zcx (q := fun _ => Res.ok true) e (fun _ => true) g h1 hl fun a ha => by
    obtain ⟨r1,q1,q2⟩ := h a ha
    exact ⟨r1,q1,rfl,fun _ => q2⟩
  rw [this,zfo]
end Law
end
section
namespace Law
open PySem PyProof.Rows L2 DL
theorem zkh (row things : List Nat) (fst : D) : ∀ (l : List Nat) (y : Option D),
    (match l.find? (fun h => decide (h∈things)) with
      | some h => forF (ftN 2) zbG (l.map nD) [some fst,some (LN things),y] = .rt (nD h)
      | none => ∃ y',forF (ftN 2) zbG (l.map nD) [some fst,some (LN things),y] = .nx [some fst,some (LN things),y'])
  | [],y => ⟨y,zbs⟩
  | h::l,y => by
    have c : (zax (f2 (gv 2) (gv 1) inD)) [some fst,some (LN things),some (nD h)] = .ok (decide (h∈things)) := zas (zaj (a := nD h) (b := LN things) rfl rfl (znY _ _))
    rw [List.find?_cons]
    cases e : decide (h∈things) with
    | true =>
      rw [e] at c
      refine ziy (r1 := [some fst,some (LN things),some (nD h)]) rfl ?_
      exact zan ((if_t c).trans (zan (zay (d := nD h) rfl)))
    | false =>
      rw [e] at c
      have ih := zkh row things fst l (some (nD h))
      have st : forF (ftN 2) zbG ((h::l).map nD) [some fst,some (LN things),y] = forF (ftN 2) zbG (l.map nD) [some fst,some (LN things),some (nD h)] :=
        zce (r1 := [some fst,some (LN things),some (nD h)]) rfl ((zae (if_f c)).trans rfl)
      rw [st]
      exact ih
theorem zjA {row things : List Nat} (h : ∃ x∈row,x∈things) : zcF [TN row,LN things] = .ok (nD (Rg.best row things)) := by
  refine zaF (B := zdn) (n := 3) ?_
  unfold zdn
  have hl := zkh row things (TN row) row none
  unfold Rg.best
  cases e : row.find? fun x => decide (x∈things) with
  | none =>
    obtain ⟨x,h1,h2⟩ := h
    have := List.find?_eq_none.mp e x h1
    simp [h2] at this
  | some k =>
    rw [e] at hl
    exact zan ((za2 (ds := row.map nD) rfl).trans hl)
end Law
end
section
namespace Law
open PySem PyProof.Rows L2 DL
theorem zln {m : List Md} {p : FQ} {b : FS} {n : Nat} {r : Rho} {d : D} (h : p r = .ok true) (h2 : b r = .rt d) : zbv m p b (n + 1) r = .rt d := by
  conv => lhs; unfold zbv
  rw [h,onE_ok,if_pos rfl,h2]
structure Rws (rows : List (List Nat)) (n m : Nat) : Prop where
  n1 : 1≤n
  n7 : n≤7
  nm : n≤m
  m8 : m≤8
  rl : rows.length = n
  rp : ∀ row∈rows,row.Perm (List.range m)
section
variable {rows : List (List Nat)} {n m : Nat}
theorem Rws.row (R : Rws rows n m) {h : Nat} (hh : h < n) : (Wr rows h).Perm (List.range m) := by
  unfold Wr
  rw [List.getElem?_eq_getElem (by rw [R.rl]; exact hh)]
  exact R.rp _ (List.getElem_mem _)
theorem Rws.has (R : Rws rows n m) {h x : Nat} (hh : h < n) (hx : x < m) : x∈Wr rows h := (R.row hh).mem_iff.mpr (List.mem_range.mpr hx)
theorem Rws.one (R : Rws rows n m) {h : Nat} {T : List Nat} (hh : h < n) (hT : 0 < T.length) (hm : ∀ x∈T,x < m) : ∃ x∈Wr rows h,x∈T :=
  ⟨T[0],R.has hh (hm _ (List.getElem_mem _)),List.getElem_mem _⟩
theorem Rws.lbest (R : Rws rows n m) {h : Nat} {T : List Nat} (hh : h < n) (hT : 0 < T.length) (hm : ∀ x∈T,x < m) : zcF [TN (Wr rows h),LN T] = .ok (nD (Rg.best (Wr rows h) T)) :=
  zjA (R.one hh hT hm)
theorem Rws.inT (R : Rws rows n m) {h : Nat} {T : List Nat} (hh : h < n) (hT : 0 < T.length) (hm : ∀ x∈T,x < m) : Rg.best (Wr rows h) T∈T := Rg.zgu (R.one hh hT hm)
theorem Rws.at0 (R : Rws rows n m) : ∃ r rest,rows = r::rest∧r.length = m := by
  cases e : rows with
  | nil => have := R.rl; have := R.n1; rw [e] at *; simp at *; omega
  | cons r rest => exact ⟨r,rest,rfl,by rw [(R.rp r (by rw [e]; exact List.mem_cons_self)).length_eq]; simp⟩
theorem Rws.things (R : Rws rows n m) : zbc [WD rows] = .ok (nD m) := by
  obtain ⟨r,rest,e,hl⟩ := R.at0
  rw [e,ziX,hl]
theorem Rws.ix0 (R : Rws rows n m) : ∃ r0,ixA (WD rows) (.int 0) = some (TN r0)∧lenD [TN r0] = some (nD m) := by
  obtain ⟨r,rest,e,hl⟩ := R.at0
  exact ⟨r,by rw [e]; exact ixA_T0 _ _,by rw [zdJ,hl]⟩
theorem Rws.len (R : Rws rows n m) : lenD [WD rows] = some (nD n) := by rw [zdJ,R.rl]
noncomputable def dOf (dl : List Nat) (h : Nat) : Nat := dl.getD h 0
theorem zn5 {dl : List Nat} {h : Nat} (hh : h < dl.length) : (dl.map nD)[h]? = some (nD (dOf dl h)) := by
  rw [List.getElem?_map,List.getElem?_eq_getElem hh]
  unfold dOf
  rw [List.getD_eq_getElem?_getD,List.getElem?_eq_getElem hh]; rfl
theorem ziE {dl : List Nat} (h : dl.length = n) : (List.range n).map (dOf dl) = dl := by
  refine List.ext_getElem? fun i => ?_
  rw [List.getElem?_map]
  by_cases hi : i < n
  · rw [List.getElem?_range hi,List.getElem?_eq_getElem (by omega)]
    unfold dOf
    rw [Option.map_some,List.getD_eq_getElem?_getD,List.getElem?_eq_getElem (by omega)]; rfl
  · rw [List.getElem?_eq_none (by simp; omega),List.getElem?_eq_none (by omega)]; rfl
noncomputable abbrev resD : Option (List Nat)→D
  | some o => LN o
  | none => .non
theorem Rws.best (R : Rws rows n m) {h : Nat} {T : List Nat} (hh : h < n) (hT : 0 < T.length) (hm : ∀ x∈T,x < m) : zbN [TN (Wr rows h),LN T] = .ok (nD (Rg.best (Wr rows h) T)) :=
  zlB (R.one hh hT hm) (by rw [(R.row hh).length_eq]; have := R.m8; simp; omega)
noncomputable abbrev st6 (rows : List (List Nat)) (dl hands T order : List Nat) (y : Option DL.D) : Rho := [some (WD rows),some (TN dl),some (LN hands),some (LN T),some (LN order),y]
theorem znI (R : Rws rows n m) {dl : List Nat} (hdl : dl.length = n) : ∀ (j : Nat) (hands T order : List Nat) (y : Option DL.D),hands.length < j→hands.length≤T.length→(∀ h∈hands,h < n)→(∀ x∈T,x < m)→order.length + hands.length≤60 →
    match Rg.beh (Wr rows) (dOf dl) j hands T order with
    | some o => ∃ hands' T' y',zbv q111 zbo zbp j (st6 rows dl hands T order y) = .nx (st6 rows dl hands' T' o y')
    | none => zbv q111 zbo zbp j (st6 rows dl hands T order y) = .rt .non := by
  intro j
  induction j with
  | zero => intro hands T order y h; omega
  | succ j ih =>
    intro hands T order y hj hl hh hT hz
    unfold Rg.beh
    by_cases e : hands = []
    · rw [if_pos e]
      refine ⟨hands,T,y,zhB (za1 (d := LN hands) rfl ?_)⟩
      rw [e]; rfl
    · rw [if_neg e]
      have hpos := List.length_pos_iff.mpr e
      have q : zbo (st6 rows dl hands T order y) = .ok true := by
        refine za1 (d := LN hands) rfl ?_
        cases hands with
        | nil => exact absurd rfl e
        | cons a t => rfl
      have hc : (setF q111 5 (zci 1 [3,1,0] (fSeq zbm (gv 2)) (ftN 0) (zax (f2 (zaB (zab (f2 (gv 3) (gv 0) ixA) (zab (gv 1) lNil)) [] zbN) (f2 (gv 2) (gv 0) ixA) eqD)) (gv 0))) (st6 rows dl hands T order y) = .nx (st6 rows dl hands T order (some (LN (Rg.served (Wr rows) (dOf dl) hands T)))) := by
        refine zar (zcx (l := hands) nD (fun h => decide (Rg.best (Wr rows h) T = dOf dl h)) nD rfl (by omega) fun h hm => ⟨[some (nD h),some (LN T),some (TN dl),some (WD rows)],rfl,?_,fun _ => rfl⟩)
        exact zas (zaj (zal (zad (zaj (a := WD rows) (b := nD h) rfl rfl (zeY (zjB (by rw [R.rl]; exact hh h hm)))) (zad (d := LN T) rfl zai)) (R.best (hh h hm) (by omega) hT)) (zaj (a := TN dl) (b := nD h) rfl rfl (zeY (zn5 (by rw [hdl]; exact hh h hm)))) (zmb _ _))
      cases z : Rg.served (Wr rows) (dOf dl) hands T with
      | nil =>
        rw [z] at hc
        refine zln q ?_
        refine (zae hc).trans ?_
        exact zan ((if_t (zdX (b := false) (za1 (d := LN []) rfl rfl))).trans rfl)
      | cons s t =>
        rw [z] at hc
        have hs : s∈Rg.served (Wr rows) (dOf dl) hands T := by rw [z]; exact List.mem_cons_self
        obtain ⟨h1,h2⟩ := List.mem_filter.mp hs
        simp only [decide_eq_true_eq] at h2
        have hin := R.inT (hh s h1) (by omega : 0 < T.length) hT
        rw [h2] at hin
        have hle := List.length_erase_of_mem h1
        have i := ih (hands.erase s) (T.erase (dOf dl s)) (order++[s]) (some (LN (s::t))) (by omega) (by rw [hle,List.length_erase_of_mem hin]; omega) (fun h hm => hh h (List.mem_of_mem_erase hm)) (fun x hx => hT x (List.mem_of_mem_erase hx)) (by rw [List.length_append,hle]; simp; omega)
        have hbody : zbp (st6 rows dl hands T order y) = .nx (st6 rows dl (hands.erase s) (T.erase (dOf dl s)) (order++[s]) (some (LN (s::t)))) := by
          refine (zae hc).trans ?_
          refine (zae ((if_f (zdX (b := true) (za1 (d := LN (s::t)) rfl rfl))).trans (e_skip _))).trans ?_
          refine (zae (zeL (d := LN order) (ds := [nD s]) rfl rfl (zad (zaj (a := LN (s::t)) (b := .int 0) rfl rfl (ixA_L0 _ _)) zai) (zgz (by simp; omega)))).trans ?_
          refine (zae (zeL (d := LN hands) (ds := [nD s]) rfl rfl (zad (zaj (a := LN (s::t)) (b := .int 0) rfl rfl (ixA_L0 _ _)) zai) (zjD h1))).trans ?_
          refine (zae (zeL (d := LN T) (ds := [nD (dOf dl s)]) rfl rfl (zad (zaj (a := TN dl) (b := nD s) rfl (zaj (a := LN (s::t)) (b := .int 0) rfl rfl (ixA_L0 _ _)) (zeY (zn5 (by rw [hdl]; exact hh s h1)))) zai) (zjD hin))).trans ?_
          show Out.nx [_,_,_,_,some (D.lst (order.map nD++[nD s])),_] = Out.nx [_,_,_,_,some (D.lst ((order++[s]).map nD)),_]
          rw [List.map_append]; rfl
        rw [zf4 q hbody]
        exact i
theorem zeW (R : Rws rows n m) {dl : List Nat} (hdl : dl.length = n) : zbZ [WD rows,TN dl] = .ok (resD (Rg.beh (Wr rows) (dOf dl) 64 (List.range n) (List.range m) [])) := by
  have hn7 := R.n7
  have hm8 := R.m8
  have hnm := R.nm
  have hl := znI R hdl 64 (List.range n) (List.range m) [] none (by simp; omega) (by simp; omega) (fun h hh => List.mem_range.mp hh) (fun x hx => List.mem_range.mp hx) (by simp; omega)
  suffices h : zbn (zaq 6 [WD rows,TN dl]) = .rt (resD (Rg.beh (Wr rows) (dOf dl) 64 (List.range n) (List.range m) [])) by
    show outR false (zbn (zaq 6 [WD rows,TN dl])) = _
    rw [h]; rfl
  unfold zbn
  refine (zae (zar (d := LN (List.range n)) (zbz (zad (zbz (zad (d := WD rows) rfl zai) R.len) zai) (zhP (by omega))))).trans ?_
  refine (zae (zar (d := LN (List.range m)) (zbz (zad (zal (zad (d := WD rows) rfl zai) R.things) zai) (zhP (by omega))))).trans ?_
  refine (zae (zar (d := LN []) (zcN zai (by simp)))).trans ?_
  cases e : Rg.beh (Wr rows) (dOf dl) 64 (List.range n) (List.range m) [] with
  | none => rw [e] at hl; exact zan hl
  | some o =>
    rw [e] at hl
    obtain ⟨hands',T',y',hl⟩ := hl
    refine (zae hl).trans ?_
    exact zan (zay (d := LN o) rfl)
end
end Law
end
section
namespace Law
open PySem PyProof.Rows L2 DL
structure Dl (rows : List (List Nat)) (dl : List Nat) (n m : Nat) : Prop where
  R : Rws rows n m
  dn : dl.length = n
  nd : dl.Nodup
  lt : ∀ x∈dl,x < m
section
variable {rows : List (List Nat)} {dl : List Nat} {n m : Nat}
theorem zh1 {h : Nat} (hh : h < dl.length) : dOf dl h∈dl := by
  unfold dOf
  rw [List.getD_eq_getElem?_getD,List.getElem?_eq_getElem hh]
  exact List.getElem_mem _
theorem zeA (hn : dl.Nodup) {h l : Nat} (hh : h < dl.length) (hl : l < dl.length) (e : dOf dl h = dOf dl l) : h = l := by
  unfold dOf at e
  rw [List.getD_eq_getElem?_getD,List.getElem?_eq_getElem hh,List.getD_eq_getElem?_getD,List.getElem?_eq_getElem hl] at e
  simp only [Option.getD_some] at e
  have := List.pairwise_iff_getElem.mp hn
  rcases Nat.lt_trichotomy h l with z | z | z
  · exact absurd e (this h l hh hl z)
  · exact z
  · exact absurd e.symm (this l h hl hh z)
theorem zkT {x : Nat} (h : x∈dl) : ∃ i,i < dl.length∧dOf dl i = x := by
  obtain ⟨i,hi,rfl⟩ := List.getElem_of_mem h
  refine ⟨i,hi,?_⟩
  unfold dOf
  rw [List.getD_eq_getElem?_getD,List.getElem?_eq_getElem hi]; rfl
theorem Dl.dlt (D : Dl rows dl n m) {h : Nat} (hh : h < n) : dOf dl h < m := D.lt _ (zh1 (by rw [D.dn]; exact hh))
theorem Dl.at (D : Dl rows dl n m) {h : Nat} (hh : h < n) : ixA (TN dl) (nD h) = some (nD (dOf dl h)) := zeY (zn5 (by rw [D.dn]; exact hh))
theorem Dl.rw' (D : Dl rows dl n m) {h : Nat} (hh : h < n) : ixA (WD rows) (nD h) = some (TN (Wr rows h)) := zeY (zjB (by rw [D.R.rl]; exact hh))
theorem zgS (D : Dl rows dl n m) {h x y : Nat} (hh : h < n) (hx : x < m) (hy : y < m) : zd8 [WD rows,nD h,nD x,nD y] = .ok (.bl (decide (Rg.lk (Wr rows) h x y))) := by
  refine zaF (B := zgC) (n := 5) ?_
  unfold zgC
  refine (zae (zar (zaj (a := WD rows) (b := nD h) rfl rfl (D.rw' hh)))).trans ?_
  exact zan (zay (zaj (zkH (d := TN (Wr rows h)) rfl rfl (zad (d := nD x) rfl zai) (ze2 (D.R.has hh hx))) (zkH (d := TN (Wr rows h)) rfl rfl (zad (d := nD y) rfl zai) (ze2 (D.R.has hh hy))) (zi5 _ _)))
theorem zfQ (D : Dl rows dl n m) {h x y : Nat} (hh : h < n) (hx : x < m) (hy : y < m) : zbx [WD rows,nD h,nD x,nD y] = .ok (.bl (decide (Rg.lk (Wr rows) h x y))) := by
  refine zaF (B := zcQ) (n := 4) ?_
  unfold zcQ
  exact zan (zay (zaj (zkH (zaj (a := WD rows) (b := nD h) rfl rfl (D.rw' hh)) rfl (zad (d := nD x) rfl zai) (ze2 (D.R.has hh hx))) (zkH (zaj (a := WD rows) (b := nD h) rfl rfl (D.rw' hh)) rfl (zad (d := nD y) rfl zai) (ze2 (D.R.has hh hy))) (zi5 _ _)))
end
theorem zmT (f : Nat→D) : ∀ {T : List Nat} {x : Nat},x∈T→getK (T.map fun x => (kI x,f x)) (kI x) = some (f x)
  | [],_,h => by cases h
  | y::T,x,h => by
    by_cases e : y = x
    · subst e; simp [getK,List.find?_cons]
    · have hne : ¬ kI y = kI x := fun z => e (zpB z)
      have ih := zmT f (T := T) (x := x) ((List.mem_cons.mp h).resolve_left fun z => e z.symm)
      have e1 : getK ((y::T).map fun x => (kI x,f x)) (kI x) = getK (T.map fun x => (kI x,f x)) (kI x) := by
        simp only [getK,List.map_cons,List.find?_cons]
        rw [decide_eq_false hne]
      rw [e1]; exact ih
theorem zox {T : List Nat} {f : Nat→D} {x : Nat} (h : x∉T) (hl : T.length≤1000) : stoD (.dic (T.map fun x => (kI x,f x))) (nD x) (f x) = some (.dic ((T++[x]).map fun x => (kI x,f x))) := by
  show (if (T.map fun x => (kI x,f x)).length < sizeLine then some (D.dic (putD _ (kI x) (f x))) else none) = _
  rw [if_pos (by rw [List.length_map,sizeLine_eq]; omega)]
  have := zlH (T.map fun y => (y,f y)) x (f x) (by rw [List.map_map]; simpa [Function.comp_def] using h)
  rw [List.map_map] at this
  show some (D.dic (putD (T.map fun x => (kI x,f x)) (kI x) (f x))) = _
  have e : putD (T.map fun x => (kI x,f x)) (kI x) (f x) = (T++[x]).map fun x => (kI x,f x) := by
    refine Eq.trans this ?_
    rw [List.map_append,List.map_map,List.map_append]; rfl
  rw [e]
theorem zfX {E : Nat→List Nat} {C : List Nat} (hc : ∀ h∈C,∃ y∈E h,y∈C) : ∀ (k : Nat) (S : List Nat),(∀ h∈C,h∈S)→∀ h∈C,h∈Gr.core E k S
  | 0,S,hs => hs
  | k + 1,S,hs => by
    unfold Gr.core
    by_cases e : (Gr.elim E S).length = S.length
    · rw [if_pos e]; exact hs
    · rw [if_neg e]
      refine zfX hc k _ fun h hh => ?_
      obtain ⟨y,h1,h2⟩ := hc h hh
      exact List.mem_filter.mpr ⟨hs h hh,List.any_eq_true.mpr ⟨y,h1,by simpa using hs y h2⟩⟩
noncomputable abbrev SD (E : Nat→List Nat) (n : Nat) : D := .dic ((List.range n).map fun x => (kI x,LN (E x)))
structure Gf (E : Nat→List Nat) (n : Nat) : Prop where
  n1 : 1≤n
  n7 : n≤7
  lt : ∀ x,x < n→∀ y∈E x,y < n
  few : ∀ x,x < n→(E x).length≤60
section
variable {E : Nat → List Nat} {n : Nat}
theorem zqs {x : Nat} (h : x < n) : ixA (SD E n) (nD x) = some (LN (E x)) := zqT (zmT (fun x => LN (E x)) (List.mem_range.mpr h))
theorem zfO (g : Gf E n) {x : Nat} (hx : x < n) (S : List Nat) : za0 [SD E n,nD x,LN S] = .ok (LN ((E x).filter fun y => decide (y∈S))) := by
  refine zaF (B := zb2) (n := 3) ?_
  unfold zb2
  refine zan (zay (zcx (l := E x) nD (fun y => decide (y∈S)) nD (zfN (zaj (a := SD E n) (b := nD x) rfl rfl (zqs hx)) rfl) (by have := g.few x hx; omega) fun y hy => ⟨[some (nD y),some (LN S)],rfl,?_,fun _ => rfl⟩))
  exact zas (zaj (a := nD y) (b := LN S) rfl rfl (znY S y))
theorem ziM (x : Nat) (S : List Nat) : truD (LN ((E x).filter fun y => decide (y∈S))) = some ((E x).any fun y => decide (y∈S)) := by
  show some (!(((E x).filter fun y => decide (y∈S)).map nD).isEmpty) = _
  rw [List.isEmpty_map]
  congr 1
  rw [Bool.eq_iff_iff,List.any_eq_true]
  constructor
  · intro h
    cases e : (E x).filter fun y => decide (y∈S) with
    | nil => rw [e] at h; simp at h
    | cons y l =>
      have : y∈(E x).filter fun y => decide (y∈S) := by rw [e]; exact List.mem_cons_self
      exact ⟨y,(List.mem_filter.mp this).1,(List.mem_filter.mp this).2⟩
  · rintro ⟨y,h1,h2⟩
    have : y∈(E x).filter fun y => decide (y∈S) := List.mem_filter.mpr ⟨h1,h2⟩
    cases e : (E x).filter fun y => decide (y∈S) with
    | nil => rw [e] at this; cases this
    | cons y l => rfl
theorem zjM (g : Gf E n) {S : List Nat} (hS : ∀ x∈S,x < n) (hl : S.length≤60) (y1 : Option D) : zbb [some (SD E n),y1,some (LN S)] = .nx [some (SD E n),some (LN S),some (LN (Gr.elim E S))] := by
  refine (zae (zar (d := LN S) rfl)).trans ?_
  refine zae (zar (d := LN (Gr.elim E S)) (zcx (l := S) nD (fun x => (E x).any fun y => decide (y∈S)) nD rfl (by omega) fun x hx => ⟨[some (nD x),some (SD E n),some (LN S)],rfl,?_,fun _ => rfl⟩))
  exact za1 (zal (zad (d := SD E n) rfl (zad (d := nD x) rfl (zad (d := LN S) rfl zai))) (zfO g (hS x hx) S)) (ziM x S)
theorem zjL (g : Gf E n) : ∀ (k : Nat) (S : List Nat),S.length < k→(∀ x∈S,x < n)→S.length≤60→∃ z,zbv q104 zb6 zbb k [some (SD E n),some (LN S),some (LN (Gr.elim E S))] = .nx [some (SD E n),some (LN (Gr.core E k S)),z]
  | 0,S,h,_,_ => absurd h (by omega)
  | k + 1,S,h,hS,hl => by
    have t := zas (zaj (f := fC (zab (gv 2) lNil) lenD) (f' := fC (zab (gv 1) lNil) lenD) (r := [some (SD E n),some (LN S),some (LN (Gr.elim E S))]) (zbz (zad (d := LN (Gr.elim E S)) rfl zai) (zdb _ _)) (zbz (zad (d := LN S) rfl zai) (zdb _ _)) (zpn (Gr.elim E S).length S.length))
    by_cases e : (Gr.elim E S).length = S.length
    · rw [decide_eq_true e] at t
      have ec : Gr.core E (k + 1) S = S := by show (if _ then _ else _) = _; rw [if_pos e]
      rw [ec]
      exact ⟨_,zhB t⟩
    · rw [decide_eq_false e] at t
      have hle := Gr.elim_len (E := E) S
      have ec : Gr.core E (k + 1) S = Gr.core E k (Gr.elim E S) := by show (if _ then _ else _) = _; rw [if_neg e]
      rw [ec]
      have hS' : ∀ x∈Gr.elim E S,x < n := fun x hx => hS x (List.mem_filter.mp hx).1
      obtain ⟨z,ih⟩ := zjL g k (Gr.elim E S) (by omega) hS' (by omega)
      exact ⟨z,(zf4 t (zjM g hS' (by omega) _)).trans ih⟩
noncomputable abbrev Co (E : Nat→List Nat) (n : Nat) : List Nat := Gr.core E 63 (List.range n)
theorem zqS (g : Gf E n) : zki (SD E n) = some (LN (List.range n)) := by
  show some (D.lst (((List.range n).map fun x => (kI x,LN (E x))).map fun kv => kyD kv.1)) = _
  rw [List.map_map]; rfl
theorem ziY (g : Gf E n) : zaU [SD E n] = .ok (LN (Co E n)) := by
  have hn1 := g.n1
  have hn7 := g.n7
  obtain ⟨z,h⟩ := zjL g 63 (List.range n) (by simp; omega) (fun x hx => List.mem_range.mp hx) (by simp; omega)
  refine zaF (B := zaW) (n := 3) ?_
  unfold zaW
  refine (zae (zar (d := LN []) (zcN zai (by simp)))).trans ?_
  refine (zae (zar (d := LN (List.range n)) (zhX (a := SD E n) rfl (zqS g)))).trans ?_
  have t := zas (zaj (f := fC (zab (gv 2) lNil) lenD) (f' := fC (zab (gv 1) lNil) lenD) (r := [some (SD E n),some (LN []),some (LN (List.range n))]) (zbz (zad (d := LN (List.range n)) rfl zai) (zdb _ _)) (zbz (zad (d := LN []) rfl zai) (zdb _ _)) (zpn (List.range n).length ([] : List Nat).length))
  rw [decide_eq_false (by simp; omega)] at t
  refine (zae ((zf4 t (zjM g (fun x hx => List.mem_range.mp hx) (by simp; omega) _)).trans h)).trans ?_
  exact zan (zay (d := LN (Co E n)) rfl)
theorem zrb : ∀ x∈Co E n,x < n := fun x hx => List.mem_range.mp (Gr.core_sub 63 _ x hx)
theorem zqd (g : Gf E n) : (Co E n).length≤n := by
  have := Rg.zem (m := List.range n) (Gr.core_nd (E := E) 63 (List.range n) List.nodup_range) fun x hx => Gr.core_sub 63 _ x hx
  simpa using this
theorem zrc (g : Gf E n) : ∀ x∈Co E n,∃ y∈E x,y∈Co E n := Gr.core_go 63 (List.range n) (by have := g.n7; simp; omega)
noncomputable def nxE (E : Nat→List Nat) (C : List Nat) (h : Nat) : Nat := ((E h).filter fun y => decide (y∈C)).headD 0
theorem zmL {C : List Nat} (hg : ∀ x∈C,∃ y∈E x,y∈C) {h : Nat} (hh : h∈C) : ∃ t,(E h).filter (fun y => decide (y∈C)) = nxE E C h::t := by
  obtain ⟨y,h1,h2⟩ := hg h hh
  have : y∈(E h).filter fun y => decide (y∈C) := List.mem_filter.mpr ⟨h1,by simpa using h2⟩
  unfold nxE
  cases e : (E h).filter fun y => decide (y∈C) with
  | nil => rw [e] at this; cases this
  | cons a t => exact ⟨t,rfl⟩
theorem zgf {C : List Nat} (hg : ∀ x∈C,∃ y∈E x,y∈C) {h : Nat} (hh : h∈C) : nxE E C h∈C∧nxE E C h∈E h := by
  obtain ⟨t,e⟩ := zmL hg hh
  have : nxE E C h∈(E h).filter fun y => decide (y∈C) := by rw [e]; exact List.mem_cons_self
  obtain ⟨h1,h2⟩ := List.mem_filter.mp this
  exact ⟨by simpa using h2,h1⟩
theorem zjo (g : Gf E n) {C : List Nat} (hC : ∀ x∈C,x < n) (hg : ∀ x∈C,∃ y∈E x,y∈C) (hl : C.length≤60) : ∀ (j : Nat) (walk : List Nat) (p : Nat),p∈C→walk.Nodup→(∀ x∈walk,x∈C)→C.length < j + walk.length →
    zbv q109 zbK zc2 j [some (SD E n),some (LN C),some (LN walk),some (nD p)] = .nx [some (SD E n),some (LN C),some (LN (Rg.zjP (nxE E C) j walk p).1),some (nD (Rg.zjP (nxE E C) j walk p).2)]
  | 0,walk,p,_,hn,hw,h => by
    have := Rg.zem hn hw
    omega
  | j + 1,walk,p,hp,hn,hw,h => by
    have hpl := Rg.zem hn hw
    have t : zbK [some (SD E n),some (LN C),some (LN walk),some (nD p)] = .ok (!decide (p∈walk)) := zas (zaj (a := nD p) (b := LN walk) rfl rfl (zpl walk p))
    by_cases e : p∈walk
    · rw [decide_eq_true e] at t
      rw [zhB t]
      unfold Rg.zjP
      rw [if_pos e]
    · rw [decide_eq_false e] at t
      obtain ⟨l,hq⟩ := zmL hg hp
      have hn2 : (walk++[p]).Nodup := List.nodup_append.mpr ⟨hn,by simp,fun a ha b hb => by simp at hb; rintro rfl; exact e (hb ▸ ha)⟩
      have hsub : ∀ x∈walk++[p],x∈C := fun x hx => by
        rcases List.mem_append.mp hx with z | z
        · exact hw x z
        · rw [List.mem_singleton.mp z]; exact hp
      have ih := zjo g hC hg hl j (walk++[p]) (nxE E C p) (zgf hg hp).1 hn2 hsub (by simp; omega)
      unfold Rg.zjP
      rw [if_neg e,← ih]
      refine zf4 t ?_
      refine (zae (zeL (d := LN walk) (ds := [nD p]) (d' := LN (walk++[p])) rfl rfl (zad (d := nD p) rfl zai) ?_)).trans ?_
      · rw [zgz (by simp; omega)]
        show some (D.lst _) = some (D.lst _)
        rw [List.map_append]; rfl
      refine zae (zar (d := nD (nxE E C p)) (zaj (b := .int 0) (zal (zad (d := SD E n) rfl (zad (d := nD p) rfl (zad (d := LN C) rfl zai))) (zfO g (hC p hp) C)) rfl ?_))
      rw [hq]; exact ixA_L0 _ _
end
section
variable {rows : List (List Nat)} {dl : List Nat} {n m : Nat}
noncomputable def Ev (rows : List (List Nat)) (dl : List Nat) (n : Nat) (h : Nat) : List Nat := (List.range n).filter fun o => decide (Rg.lk (Wr rows) h (dOf dl o) (dOf dl h))
theorem ziL {h o : Nat} : o∈Ev rows dl n h↔o < n∧Rg.lk (Wr rows) h (dOf dl o) (dOf dl h) := by
  unfold Ev
  rw [List.mem_filter,List.mem_range,decide_eq_true_eq]
theorem Dl.gf (D : Dl rows dl n m) : Gf (Ev rows dl n) n where
  n1 := D.R.n1
  n7 := D.R.n7
  lt := fun x _ y hy => (ziL.mp hy).1
  few := fun x _ => by
    have h7 := D.R.n7
    have : (Ev rows dl n x).length≤(List.range n).length := List.length_filter_le _ _
    rw [List.length_range] at this
    omega
theorem zp3 : ∀ (k i : Nat) (f : Nat→Nat),enuD i ((List.range' i k).map fun o => nD (f o)) = (List.range' i k).map fun o => .tup [nD o,nD (f o)]
  | 0,i,f => rfl
  | k + 1,i,f => by
    rw [List.range'_succ,List.map_cons,List.map_cons,← zp3 k (i + 1) f]; rfl
theorem zp4 (hl : dl.length = n) : enuD 0 (dl.map nD) = (List.range n).map fun o => DL.D.tup [nD o,nD (dOf dl o)] := by
  have e : dl.map nD = (List.range n).map fun o => nD (dOf dl o) := by
    refine List.ext_getElem? fun i => ?_
    rw [List.getElem?_map,List.getElem?_map]
    by_cases hi : i < n
    · rw [List.getElem?_range hi,List.getElem?_eq_getElem (by omega)]
      unfold dOf
      rw [Option.map_some,Option.map_some,List.getD_eq_getElem?_getD,List.getElem?_eq_getElem (by omega)]; rfl
    · rw [List.getElem?_eq_none (by omega),List.getElem?_eq_none (by simp; omega)]; rfl
  rw [e,List.range_eq_range',zp3 n 0 (dOf dl)]
theorem zi0 (D : Dl rows dl n m) {h : Nat} (hh : h < n) : zb0 [WD rows,TN dl,nD h] = .ok (LN (Ev rows dl n h)) := by
  have hn7 := D.R.n7
  refine zaF (B := zb3) (n := 3) ?_
  unfold zb3
  refine zan (zay (zcx (l := List.range n) (fun o => DL.D.tup [nD o,nD (dOf dl o)]) (fun o => decide (Rg.lk (Wr rows) h (dOf dl o) (dOf dl h))) nD ?_ (by simp; omega) fun o hm => ⟨[some (nD o),some (nD (dOf dl o)),some (WD rows),some (nD h),some (TN dl)],rfl,?_,fun _ => rfl⟩))
  · exact (show _ = Res.ok (enuD 0 (dl.map nD)) from rfl).trans (by rw [zp4 D.dn])
  · exact za1 (zal (zad (d := WD rows) rfl (zad (d := nD h) rfl (zad (d := nD (dOf dl o)) rfl (zad (zaj (a := TN dl) (b := nD h) rfl rfl (D.at hh)) zai)))) (zgS D hh (D.dlt (List.mem_range.mp hm)) (D.dlt hh))) rfl
theorem zjs (D : Dl rows dl n m) : ∀ (k i : Nat) (y3 y4 : Option DL.D),i + k = n →
    ∃ z3,forF (ftN 3) zeR ((List.range' i k).map nD) [some (WD rows),some (TN dl),some (SD (Ev rows dl n) i),y3,y4] = .nx [some (WD rows),some (TN dl),some (SD (Ev rows dl n) n),z3,y4]
  | 0,i,y3,y4,h => ⟨y3,by rw [show i = n by omega]; exact zbs⟩
  | k + 1,i,y3,y4,h => by
    have hn7 := D.R.n7
    obtain ⟨z3,ih⟩ := zjs D k (i + 1) (some (nD i)) y4 (by omega)
    refine ⟨z3,?_⟩
    rw [← ih]
    refine zce (r1 := [some (WD rows),some (TN dl),some (SD (Ev rows dl n) i),some (nD i),y4]) rfl ?_
    have es := zox (T := List.range i) (f := fun x => LN (Ev rows dl n x)) (x := i) (by simp) (by simp; omega)
    rw [← List.range_succ] at es
    exact zae (zio (d := SD (Ev rows dl n) i) (k := nD i) (v := LN (Ev rows dl n i)) rfl (zal (zad (d := WD rows) rfl (zad (d := TN dl) rfl (zad (d := nD i) rfl zai))) (zi0 D (by omega))) rfl es)
structure Env (rows : List (List Nat)) (dl : List Nat) (n : Nat) (r : List Nat) : Prop where
  nd : r.Nodup
  lt : ∀ h∈r,h < n
  two : 2≤r.length
  lk : ∀ i h l,r[i]? = some h→r[(i + 1) % r.length]? = some l→Rg.lk (Wr rows) h (dOf dl l) (dOf dl h)
theorem zif {l : List Nat} {i : Nat} (h : i≤l.length) : slA (LN l) (some (i : Int)) none = some (LN (l.drop i)) := by
  show some (D.lst (cutL (l.map nD) (some (i : Int)) none)) = _
  unfold cutL
  rw [HT.sIx_nat,HT.sIx_none,List.length_map,Nat.min_eq_left h,List.take_of_length_le (by simp)]
  show some (D.lst _) = some (D.lst ((l.drop i).map nD))
  rw [List.map_drop]
theorem zfa {fa : FE} {fl fh : FP} {r : Rho} {d d' : D} {lo hi : Option Int} (h1 : fa r = .ok d) (h2 : fl r = .ok lo) (h3 : fh r = .ok hi) (h4 : slA d lo hi = some d') : fSlA fa fl fh r = .ok d' := by
  unfold fSlA; rw [h1,bind_ok,h2,bind_ok,h3,bind_ok,h4]; rfl
theorem zgR (D : Dl rows dl n m) : ∃ o : Option (List Nat),(∀ r,o = some r→Env rows dl n r)∧(o = none→∀ C : List Nat,C≠[]→(∀ h∈C,h < n)→¬ ∀ h∈C,∃ l∈C,Rg.lk (Wr rows) h (dOf dl l) (dOf dl h)) ∧
    zc3 [WD rows,TN dl] = .ok (match o with | some r => .tup [.str "ring",TN r] | none => .non) := by
  have hn7 := D.R.n7
  have g := D.gf
  have s5 := ziY g
  have s1 := zrc g
  have s2 : ∀ h∈Co (Ev rows dl n) n,h < n := zrb
  have s3 := zqd g
  have s4 : ∀ C : List Nat,(∀ h∈C,h < n)→(∀ h∈C,∃ o∈C,Rg.lk (Wr rows) h (dOf dl o) (dOf dl h))→∀ h∈C,h∈Co (Ev rows dl n) n := fun C c1 c2 => zfX (fun h hh => by
    obtain ⟨o,o1,o2⟩ := c2 h hh
    exact ⟨o,ziL.mpr ⟨c1 o o1,o2⟩,o1⟩) 63 (List.range n) fun h hh => List.mem_range.mpr (c1 h hh)
  obtain ⟨z3,hst⟩ := zjs D n 0 none none (by omega)
  rw [← List.range_eq_range'] at hst
  have hfor : ∀ (dr dd : DL.D),zbd [SD (Ev rows dl n) n] = .ok dr→fIf (zax (f2 (gv 4) (fun _ => Res.ok DL.D.non) isD)) (fun _ => Res.ok DL.D.non) (mkT (zab (fun _ => Res.ok (DL.D.str "ring")) (zab (fC (zab (gv 4) lNil) tupD) lNil))) [some (WD rows),some (TN dl),some (SD (Ev rows dl n) n),z3,some dr] = .ok dd→zc3 [WD rows,TN dl] = .ok dd := fun dr dd h1 h2 => by
    refine zaF (B := zdN) (n := 5) ?_
    unfold zdN
    refine (zae (zar (d := .dic []) rfl)).trans ?_
    refine (zae ((za2 (ds := (List.range n).map nD) (zdc (zad (d := nD n) (zbz (zad (d := WD rows) rfl zai) D.R.len) zai) (zeh (by omega)))).trans hst)).trans ?_
    refine (zae (zar (d := dr) (zal (zad (d := SD (Ev rows dl n) n) rfl zai) h1))).trans ?_
    exact zan (zay h2)
  generalize hco : Co (Ev rows dl n) n = S at s1 s2 s3 s4 s5
  cases hS : S with
  | nil =>
    refine ⟨none,fun r e => (nomatch e),fun _ C c1 c2 c3 => ?_,hfor .non .non ?_ (zpX (zas (zaj (a := .non) (b := .non) rfl rfl rfl)))⟩
    · obtain ⟨h,hh⟩ := List.exists_mem_of_ne_nil _ c1
      have := s4 C c2 c3 h hh
      rw [hS] at this; cases this
    · rw [hS] at s5
      refine zaF (B := zaP) (n := 4) ?_
      unfold zaP
      refine (zae (zar (zal (zad (d := SD (Ev rows dl n) n) rfl zai) s5))).trans ?_
      exact zan ((if_t (zdX (b := false) (za1 (d := LN []) rfl rfl))).trans (zan (zay (d := .non) rfl)))
  | cons f0 rest =>
    have hf : f0∈S := by rw [hS]; exact List.mem_cons_self
    have hcl : ∀ h∈S,nxE (Ev rows dl n) S h∈S := fun h hh => (zgf s1 hh).1
    obtain ⟨k,k1,k2,k3⟩ := Rg.zof hcl hf 64 0 (by simp [Rg.orb]) (by omega)
    have e0 : Rg.orb (nxE (Ev rows dl n) S) f0 0 = [] := rfl
    have e1 : Rg.it (nxE (Ev rows dl n) S) 0 f0 = f0 := rfl
    rw [e0,e1] at k3
    have hw := zjo g s2 s1 (by omega) 64 [] f0 hf (by simp) (fun h hh => (nomatch hh)) (by simp; omega)
    rw [k3] at hw
    have hmem := List.idxOf_lt_length_of_mem k2
    generalize hi : (Rg.orb (nxE (Ev rows dl n) S) f0 k).idxOf (Rg.it (nxE (Ev rows dl n) S) k f0) = i at hmem
    rw [Rg.znw] at hmem
    have itS : ∀ t,Rg.it (nxE (Ev rows dl n) S) t f0∈S := fun t => by
      induction t with
      | zero => exact hf
      | succ t iht => rw [Rg.zhR]; exact hcl _ iht
    have hik : Rg.it (nxE (Ev rows dl n) S) i f0 = Rg.it (nxE (Ev rows dl n) S) k f0 := by
      have := List.getElem_idxOf (List.idxOf_lt_length_of_mem k2)
      simp only [hi] at this
      simpa [Rg.orb] using this
    have hdrop := Rg.zqf (nxE (Ev rows dl n) S) f0 k i (by omega)
    have hat : ∀ t,t < k - i→((Rg.orb (nxE (Ev rows dl n) S) f0 k).drop i)[t]? = some (Rg.it (nxE (Ev rows dl n) S) (i + t) f0) := fun t ht => by
      rw [List.getElem?_drop]
      unfold Rg.orb
      rw [List.getElem?_map,List.getElem?_range (by omega)]; rfl
    have hlen : ((Rg.orb (nxE (Ev rows dl n) S) f0 k).drop i).length = k - i := by rw [List.length_drop,Rg.znw]
    have lkE : ∀ i' h l,((Rg.orb (nxE (Ev rows dl n) S) f0 k).drop i)[i']? = some h→((Rg.orb (nxE (Ev rows dl n) S) f0 k).drop i)[(i' + 1) % ((Rg.orb (nxE (Ev rows dl n) S) f0 k).drop i).length]? = some l→l = nxE (Ev rows dl n) S h∧h∈S := by
      intro t h l a1 a2
      have ht : t < k - i := by have := (List.getElem?_eq_some_iff.mp a1).1; rw [hlen] at this; exact this
      rw [hlen] at a2
      rw [hat t ht] at a1
      cases a1
      refine ⟨?_,itS _⟩
      by_cases q : t + 1 < k - i
      · rw [Nat.mod_eq_of_lt q,hat _ q] at a2
        cases a2
        rw [← Rg.zhR (nxE (Ev rows dl n) S)]; rfl
      · have : t + 1 = k - i := by omega
        rw [this,Nat.mod_self,hat 0 (by omega),Nat.add_zero,hik] at a2
        cases a2
        rw [← Rg.zhR (nxE (Ev rows dl n) S),show i + t + 1 = k by omega]
    have env : Env rows dl n ((Rg.orb (nxE (Ev rows dl n) S) f0 k).drop i) := by
      refine ⟨k1.sublist (List.drop_sublist _ _),fun h hh => ?_,?_,fun i' h l a1 a2 => ?_⟩
      · obtain ⟨t,_,rfl⟩ := List.mem_map.mp (List.mem_of_mem_drop hh)
        exact s2 _ (itS t)
      · rw [hlen]
        refine Classical.byContradiction fun z => ?_
        have hk1 : k - i = 1 := by omega
        have hx := (ziL.mp (zgf s1 (itS i)).2).2
        rw [← Rg.zhR (nxE (Ev rows dl n) S),show i + 1 = k by omega,← hik] at hx
        unfold Rg.lk at hx
        omega
      · obtain ⟨rfl,hs⟩ := lkE i' h l a1 a2
        exact (ziL.mp (zgf s1 hs).2).2
    have hrs : zbd [SD (Ev rows dl n) n] = .ok (LN ((Rg.orb (nxE (Ev rows dl n) S) f0 k).drop i)) := by
      refine zaF (B := zaP) (n := 4) ?_
      unfold zaP
      refine (zae (zar (zal (zad (d := SD (Ev rows dl n) n) rfl zai) s5))).trans ?_
      refine (zae ((if_f (zdX (b := true) (za1 (d := LN S) rfl (by rw [hS]; rfl)))).trans (e_skip _))).trans ?_
      refine (zae (zar (d := LN []) (zcN zai (by simp)))).trans ?_
      refine (zae (zar (d := nD f0) (zaj (a := LN S) (b := .int 0) rfl rfl (by rw [hS]; exact ixA_L0 _ _)))).trans ?_
      refine (zae hw).trans ?_
      exact zan (zay (zfa (d := LN (Rg.orb (nxE (Ev rows dl n) S) f0 k)) rfl (zd2 (i := (i : Int)) (zkH (d := LN (Rg.orb (nxE (Ev rows dl n) S) f0 k)) rfl rfl (zad (d := nD (Rg.it (nxE (Ev rows dl n) S) k f0)) rfl zai) (by rw [zl4 k2,hi]))) rfl (zif (by rw [Rg.znw]; omega))))
    refine ⟨some ((Rg.orb (nxE (Ev rows dl n) S) f0 k).drop i),fun r e => by cases e; exact env,fun e => (nomatch e),hfor _ _ hrs ?_⟩
    refine (zpY (zas (zaj (a := LN ((Rg.orb (nxE (Ev rows dl n) S) f0 k).drop i)) (b := .non) rfl rfl rfl))).trans ?_
    exact zfS (zad (d := .str "ring") rfl (zad (d := TN ((Rg.orb (nxE (Ev rows dl n) S) f0 k).drop i)) (zbz (zad (d := LN ((Rg.orb (nxE (Ev rows dl n) S) f0 k).drop i)) rfl zai) rfl) zai)) (by simp)
end
end Law
end
section
namespace Law
open PySem PyProof.Rows L2 DL
inductive Wy where
  | ring (r : List Nat) | line (r : List Nat) (x : Nat)
noncomputable def Wy.hands : Wy→List Nat
  | .ring r => r
  | .line r _ => r
noncomputable def wyD : Wy→DL.D
  | .ring r => .tup [.str "ring",TN r]
  | .line r x => .tup [.str "line",TN r,nD x]
noncomputable def Wy.kind : Wy→Str
  | .ring _ => "ring"
  | .line _ _ => "line"
noncomputable def Wy.last (dl : List Nat) : Wy→Nat
  | .ring r => dOf dl (r.headD 0)
  | .line _ x => x
noncomputable def Wy.things (dl : List Nat) (w : Wy) : List Nat := w.hands.tail.map (dOf dl)++[w.last dl]
noncomputable def betr (dl : List Nat) (ps : List (Nat × Nat)) : List Nat := ps.foldl (fun acc p => acc.set p.1 p.2) dl
noncomputable def Wy.by (dl : List Nat) (w : Wy) : List Nat := betr dl (w.hands.zip (w.things dl))
theorem zd9 (w : Wy) : ixA (wyD w) (.int 1) = some (TN w.hands) := by cases w <;> exact zeY (i := 1) rfl
theorem zqh (w : Wy) (k : Str) (b : Bool) (h : (w.kind == k) = b) : (opt (ixA (wyD w) (.int 0))).bind (fun d => opt (eqD d (.str k))) = .ok (.bl b) := by
  cases w with
  | ring r =>
    rw [show ixA (wyD (.ring r)) (.int 0) = some (.str "ring") from ixA_T0 _ _,opt_some,bind_ok]
    unfold eqD
    rw [eqB_str,show (("ring" : Str) == k) = b from h]; rfl
  | line r x =>
    rw [show ixA (wyD (.line r x)) (.int 0) = some (.str "line") from ixA_T0 _ _,opt_some,bind_ok]
    unfold eqD
    rw [eqB_str,show (("line" : Str) == k) = b from h]; rfl
theorem zf3 : ∀ (l r : List Nat),List.zipWith (fun a b => DL.D.tup [a,b]) (l.map nD) (r.map nD) = (l.zip r).map fun p => DL.D.tup [nD p.1,nD p.2]
  | [],_ => rfl
  | _::_,[] => rfl
  | a::l,b::r => by
    show DL.D.tup [nD a,nD b]::List.zipWith _ (l.map nD) (r.map nD) = _
    rw [zf3 l r]; rfl
theorem zkG {fa fb : FE} {r : Rho} {d e : DL.D} {ds es : List DL.D} (h1 : fa r = .ok d) (h2 : fb r = .ok e) (h3 : zbm d = some ds) (h4 : zbm e = some es) : fZip fa fb r = .ok (List.zipWith (fun a b => DL.D.tup [a,b]) ds es) := by
  unfold fZip; rw [h1,bind_ok,h2,bind_ok,h3,opt_some,bind_ok,h4,opt_some,bind_ok]
theorem zmZ {a b : List Nat} (h : a.length + b.length≤1000) : addA (LN a) (LN b) = some (LN (a++b)) := by
  show (if (a.map nD).length + (b.map nD).length≤sizeLine then some (DL.D.lst (a.map nD++b.map nD)) else none) = _
  rw [if_pos (by rw [List.length_map,List.length_map,sizeLine_eq]; omega),← List.map_append]
theorem zmX {a b : List Nat} (h : a.length + b.length≤1000) : addE (TN a) (TN b) = some (TN (a++b)) := by
  cases a with
  | nil => rfl
  | cons x a =>
    show (if ((x::a).map nD).length + (b.map nD).length≤sizeLine then some (DL.D.tup ((x::a).map nD++b.map nD)) else none) = _
    rw [if_pos (by rw [List.length_map,List.length_map,sizeLine_eq]; omega),← List.map_append]
theorem zgN {l : List Nat} {i : Nat} (h : i≤l.length) : slA (TN l) (some (i : Int)) none = some (TN (l.drop i)) := by
  show some (DL.D.tup (cutL (l.map nD) (some (i : Int)) none)) = _
  unfold cutL
  rw [HT.sIx_nat,HT.sIx_none,List.length_map,Nat.min_eq_left h,List.take_of_length_le (by simp)]
  show some (DL.D.tup _) = some (DL.D.tup ((l.drop i).map nD))
  rw [List.map_drop]
theorem zie (l : List Nat) (k : Nat) : slA (TN l) none (some (k : Int)) = some (TN (l.take k)) := by
  show some (DL.D.tup (cutL (l.map nD) none (some (k : Int)))) = _
  unfold cutL
  rw [HT.sIx_nat,HT.sIx_none,List.length_map,List.drop_zero,Nat.sub_zero,← List.map_take]
  show some (DL.D.tup _) = some (DL.D.tup ((l.take k).map nD))
  rw [List.take_eq_take_iff.mpr (by omega : min (min k l.length) l.length = min k l.length)]
theorem zhJ {a : Nat} {l : List Nat} (hl : l.length≤900) : zbh [TN (a::l)] = .ok (TN (l++[a])) := by
  refine zaF (B := zco) (n := 1) ?_
  unfold zco
  exact zan (zay (zaj (a := TN l) (b := TN [a]) (zfa (d := TN (a::l)) rfl (zd2 (i := ((1 : Nat) : Int)) rfl) rfl (zgN (by simp))) (zfa (d := TN (a::l)) rfl rfl (zd2 (i := ((1 : Nat) : Int)) rfl) (zie (a::l) 1)) (zmX (by simp; omega))))
section
variable {rows : List (List Nat)} {dl : List Nat} {n m : Nat}
theorem zpt (D : Dl rows dl n m) {h : Nat} (hh : h < n) (left : DL.D) : ∀ (l : List Nat) (y : Option DL.D),(∀ x∈l,x < m) →
    (match l.find? (fun x => decide (Rg.lk (Wr rows) h x (dOf dl h))) with
      | some x => forF (ftN 5) zb8 (l.map nD) [some (WD rows),some (TN dl),some left,some (nD h),some (nD (dOf dl h)),y] = .rt (wyD (.line [h] x))
      | none => ∃ y',forF (ftN 5) zb8 (l.map nD) [some (WD rows),some (TN dl),some left,some (nD h),some (nD (dOf dl h)),y] = .nx [some (WD rows),some (TN dl),some left,some (nD h),some (nD (dOf dl h)),y'])
  | [],y,_ => ⟨y,zbs⟩
  | x::l,y,hl => by
    have c : (fTru (zaB (zab (gv 0) (zab (gv 3) (zab (gv 5) (zab (gv 4) lNil)))) [] zd8)) [some (WD rows),some (TN dl),some left,some (nD h),some (nD (dOf dl h)),some (nD x)] = .ok (decide (Rg.lk (Wr rows) h x (dOf dl h))) :=
      za1 (zal (zad (d := WD rows) rfl (zad (d := nD h) rfl (zad (d := nD x) rfl (zad (d := nD (dOf dl h)) rfl zai)))) (zgS D hh (hl x List.mem_cons_self) (D.dlt hh))) rfl
    rw [List.find?_cons]
    cases e : decide (Rg.lk (Wr rows) h x (dOf dl h)) with
    | true =>
      rw [e] at c
      refine ziy (r1 := [some (WD rows),some (TN dl),some left,some (nD h),some (nD (dOf dl h)),some (nD x)]) rfl ?_
      exact zan ((if_t c).trans (zan (zay (zfS (zad (d := .str "line") rfl (zad (d := TN [h]) (zfS (zad (d := nD h) rfl zai) (by simp)) (zad (d := nD x) rfl zai))) (by simp)))))
    | false =>
      rw [e] at c
      have ih := zpt D hh left l (some (nD x)) fun k hk => hl k (List.mem_cons_of_mem _ hk)
      have st : forF (ftN 5) zb8 ((x::l).map nD) [some (WD rows),some (TN dl),some left,some (nD h),some (nD (dOf dl h)),y] = forF (ftN 5) zb8 (l.map nD) [some (WD rows),some (TN dl),some left,some (nD h),some (nD (dOf dl h)),some (nD x)] :=
        zce (r1 := [some (WD rows),some (TN dl),some left,some (nD h),some (nD (dOf dl h)),some (nD x)]) rfl ((zae (if_f c)).trans rfl)
      rw [st]
      exact ih
theorem lf_out (D : Dl rows dl n m) {left : List Nat} (hl : ∀ x∈left,x < m) : ∀ (suf : List Nat) (i : Nat) (y3 y4 y5 : Option DL.D),dl.drop i = suf→i + suf.length = n →
    (∃ h x,h < n∧x∈left∧Rg.lk (Wr rows) h x (dOf dl h)∧forF (ftT (za4 (ftN 3) (za4 (ftN 4) zez))) zb7 (enuD i (suf.map nD)) [some (WD rows),some (TN dl),some (LN left),y3,y4,y5] = .rt (wyD (.line [h] x))) ∨
    ((∀ h,i≤h→h < n→∀ x∈left,¬ Rg.lk (Wr rows) h x (dOf dl h))∧∃ z3 z4 z5,forF (ftT (za4 (ftN 3) (za4 (ftN 4) zez))) zb7 (enuD i (suf.map nD)) [some (WD rows),some (TN dl),some (LN left),y3,y4,y5] = .nx [some (WD rows),some (TN dl),some (LN left),z3,z4,z5])
  | [],i,y3,y4,y5,_,hi => .inr ⟨fun h h1 h2 => by simp at hi; omega,y3,y4,y5,zbs⟩
  | a::suf,i,y3,y4,y5,hd,hi => by
    have hin : i < n := by simp at hi; omega
    have hidl : i < dl.length := by rw [D.dn]; exact hin
    have ha : a = dOf dl i := by
      have : (dl.drop i)[0]? = some a := by rw [hd]; rfl
      rw [List.getElem?_drop,Nat.add_zero,List.getElem?_eq_getElem hidl] at this
      unfold dOf
      rw [List.getD_eq_getElem?_getD,List.getElem?_eq_getElem hidl]
      exact (Option.some.inj this).symm
    subst ha
    have hs : dl.drop (i + 1) = suf := by rw [← List.drop_drop,hd]; rfl
    have c := zpt D hin (LN left) left y5 hl
    cases e : left.find? (fun x => decide (Rg.lk (Wr rows) i x (dOf dl i))) with
    | some x =>
      rw [e] at c
      refine .inl ⟨i,x,hin,List.mem_of_find?_eq_some e,by simpa using List.find?_some e,?_⟩
      show forF _ _ (.tup [.int ((i : Nat) : Int),nD (dOf dl i)]::enuD (i + 1) (suf.map nD)) _ = _
      refine ziy (r1 := [some (WD rows),some (TN dl),some (LN left),some (nD i),some (nD (dOf dl i)),y5]) rfl ?_
      exact zan ((za2 (ds := left.map nD) rfl).trans c)
    | none =>
      rw [e] at c
      obtain ⟨y',c⟩ := c
      have st : forF (ftT (za4 (ftN 3) (za4 (ftN 4) zez))) zb7 (enuD i ((dOf dl i::suf).map nD)) [some (WD rows),some (TN dl),some (LN left),y3,y4,y5] = forF (ftT (za4 (ftN 3) (za4 (ftN 4) zez))) zb7 (enuD (i + 1) (suf.map nD)) [some (WD rows),some (TN dl),some (LN left),some (nD i),some (nD (dOf dl i)),y'] := by
        show forF _ _ (.tup [.int ((i : Nat) : Int),nD (dOf dl i)]::enuD (i + 1) (suf.map nD)) _ = _
        exact zce (r1 := [some (WD rows),some (TN dl),some (LN left),some (nD i),some (nD (dOf dl i)),y5]) rfl ((zae ((za2 (ds := left.map nD) rfl).trans c)).trans rfl)
      rw [st]
      rcases lf_out D hl suf (i + 1) (some (nD i)) (some (nD (dOf dl i))) y' hs (by simp at hi; omega) with z | ⟨z1,z2⟩
      · exact .inl z
      · refine .inr ⟨fun h h1 h2 x hx => ?_,z2⟩
        by_cases q : h = i
        · subst q
          have := List.find?_eq_none.mp e x hx
          simpa using this
        · exact z1 h (by omega) h2 x hx
noncomputable def Good (rows : List (List Nat)) (dl : List Nat) (n m : Nat) : Wy→Prop
  | .ring r => Env rows dl n r
  | .line r x => ∃ h,r = [h]∧h < n∧x < m∧x∉dl∧Rg.lk (Wr rows) h x (dOf dl h)
theorem zfE (D : Dl rows dl n m) : ∃ o : Option Wy,(∀ w,o = some w→Good rows dl n m w)∧(o = none→(∀ h,h < n→∀ x,x < m→x∉dl→¬ Rg.lk (Wr rows) h x (dOf dl h))∧∀ C : List Nat,C≠[]→(∀ h∈C,h < n)→¬ ∀ h∈C,∃ l∈C,Rg.lk (Wr rows) h (dOf dl l) (dOf dl h)) ∧
    zca [WD rows,TN dl] = .ok (match o with | some w => wyD w | none => .non) := by
  have hn7 := D.R.n7
  have hm8 := D.R.m8
  generalize hL : ((List.range m).filter fun x => !decide (x∈dl)) = left
  have hmem : ∀ x,x∈left↔x < m∧x∉dl := fun x => by rw [← hL,List.mem_filter]; simp
  have hcomp : ∀ y3 y4 y5 : Option DL.D,(setF q108 2 (zci 1 [1] (fRng rng1 (zab (zaB (zab (gv 0) lNil) [] zbc) lNil)) (ftN 0) (zax (f2 (gv 0) (gv 1) ninD)) (gv 0))) [some (WD rows),some (TN dl),none,y3,y4,y5] = .nx [some (WD rows),some (TN dl),some (LN left),y3,y4,y5] := fun y3 y4 y5 => by
    rw [← hL]
    refine zar (zcx (l := List.range m) nD (fun x => !decide (x∈dl)) nD (zdc (zad (zal (zad (d := WD rows) rfl zai) D.R.things) zai) (zeh (by omega))) (by simp; omega) fun x hx => ⟨[some (nD x),some (TN dl)],rfl,zas (zaj (a := nD x) (b := TN dl) rfl rfl ?_),fun _ => rfl⟩)
    show (if zaS (nD x) = true∧(dl.map nD).all zaS = true then some ((dl.map nD).any fun y => eqs y (nD x)) else none).map (fun b => DL.D.bl (!b)) = _
    rw [if_pos ⟨rfl,zhV dl⟩,anyE]; rfl
  have line : ∀ d : DL.D,(∀ s2 : FS,zct (zaq 6 [WD rows,TN dl]) = .rt d)→zcs [WD rows,TN dl] = .ok d := fun d h => zaF (B := zct) (n := 6) (h zak)
  rcases lf_out D (fun x hx => ((hmem x).mp hx).1) dl 0 none none none rfl (by rw [Nat.zero_add]; exact D.dn) with ⟨h,x,h1,h2,h3,h4⟩ | ⟨h1,z3,z4,z5,h4⟩
  · have hl : zcs [WD rows,TN dl] = .ok (wyD (.line [h] x)) := line _ fun _ => by
      unfold zct
      exact (zae (hcomp none none none)).trans (zan ((za2 (ds := enuD 0 (dl.map nD)) rfl).trans h4))
    refine ⟨some (.line [h] x),fun w e => by cases e; exact ⟨h,rfl,h1,((hmem x).mp h2).1,((hmem x).mp h2).2,h3⟩,fun e => (nomatch e),zaF (B := zby) (n := 3) ?_⟩
    unfold zby
    refine (zae (zar (zal (zad (d := WD rows) rfl (zad (d := TN dl) rfl zai)) hl))).trans ?_
    exact zan (zay ((zpY (zas (zaj (a := wyD (.line [h] x)) (b := .non) rfl rfl rfl))).trans rfl))
  · have hl : zcs [WD rows,TN dl] = .ok .non := line _ fun _ => by
      unfold zct
      exact (zae (hcomp none none none)).trans ((zae ((za2 (ds := enuD 0 (dl.map nD)) rfl).trans h4)).trans (zan (zay (d := .non) rfl)))
    obtain ⟨o,o1,o2,o3⟩ := zgR D
    refine ⟨o.map Wy.ring,fun w e => ?_,fun e => ⟨fun h hh x hx hn => h1 h (Nat.zero_le _) hh x ((hmem x).mpr ⟨hx,hn⟩),o2 (by cases o with | none => rfl | some r => cases e)⟩,zaF (B := zby) (n := 3) ?_⟩
    · cases o with
      | none => cases e
      | some r => cases e; exact o1 r rfl
    · unfold zby
      refine (zae (zar (zal (zad (d := WD rows) rfl (zad (d := TN dl) rfl zai)) hl))).trans ?_
      refine zan (zay ((zpX (zas (zaj (a := .non) (b := .non) rfl rfl rfl))).trans (zal (zad (d := WD rows) rfl (zad (d := TN dl) rfl zai)) ?_)))
      cases o with
      | none => exact o3
      | some r => exact o3
theorem zjr {l : List Nat} {y x : Nat} : stoD (LN (l++[y])) (.int (-1)) (nD x) = some (LN (l++[x])) := by
  show (ixN ((l++[y]).map nD).length (-1)).map _ = _
  unfold ixN
  rw [if_neg (by omega),if_pos (by simp; omega)]
  simp only [Option.map_some,List.length_map,List.length_append,List.length_singleton]
  rw [show (-1 + ((l.length + 1 : Nat) : Int)).toNat = l.length by omega,List.map_append]
  show some (DL.D.lst _) = some (DL.D.lst ((l++[x]).map nD))
  rw [List.set_append_right _ _ (by simp),List.map_append]
  simp
theorem zk5 (x0 x1 x2 : Option DL.D) : ∀ (ps : List (Nat × Nat)) (acc : List Nat) (y6 y7 : Option DL.D),(∀ p∈ps,p.1 < acc.length) →
    ∃ z6 z7,forF (ftT (za4 (ftN 4) (za4 (ftN 5) zez))) zeS (ps.map fun p => DL.D.tup [nD p.1,nD p.2]) [x0,x1,x2,some (LN acc),y6,y7] = .nx [x0,x1,x2,some (LN (betr acc ps)),z6,z7]
  | [],acc,y6,y7,_ => ⟨y6,y7,zbs⟩
  | p::ps,acc,y6,y7,h => by
    obtain ⟨z6,z7,ih⟩ := zk5 x0 x1 x2 ps (acc.set p.1 p.2) (some (nD p.1)) (some (nD p.2)) (fun q hq => by rw [List.length_set]; exact h q (List.mem_cons_of_mem _ hq))
    refine ⟨z6,z7,Eq.trans ?_ ih⟩
    refine zce (r1 := [x0,x1,x2,some (LN acc),some (nD p.1),some (nD p.2)]) rfl ?_
    refine (zae (zio (d := LN acc) (k := nD p.1) (v := nD p.2) rfl rfl rfl (zmz (by rw [List.length_map]; exact h p List.mem_cons_self)))).trans ?_
    rw [show (acc.map nD).set p.1 (nD p.2) = (acc.set p.1 p.2).map nD by rw [List.map_set]]
    rfl
theorem zn3 {f f' : FE} {k k' : DL.D→DL.D→Option DL.D} {r : Rho} {a b c : DL.D} {g : FE} (h1 : f r = .ok a) (h2 : g r = .ok b) (hc : f' r = .ok c) (h : (opt (k a b)).bind (fun d => opt (k' d c)) = .ok (.bl true)∨(opt (k a b)).bind (fun d => opt (k' d c)) = .ok (.bl false)) : f2 (f2 f g k) f' k' r = (opt (k a b)).bind (fun d => opt (k' d c)) := by
  unfold f2
  rw [h1,bind_ok,h2,bind_ok]
  cases e : opt (k a b) with
  | ok d => rw [bind_ok,hc,bind_ok]; rfl
  | exc x => rfl
  | stuck => rfl
theorem zia {i : Nat} {r : Rho} {w : Wy} {k : Str} {b : Bool} (hr : r[i]? = some (some (wyD w))) (h : (w.kind == k) = b) : (zax (f2 (f2 (fun r => getV r i) (fun _ => Res.ok (DL.D.int 0)) ixA) (fun _ => Res.ok (DL.D.str k)) eqD)) r = .ok b := by
  have hw := zqh w k b h
  have e := zn3 (f := fun r => getV r i) (g := fun _ => Res.ok (DL.D.int 0)) (f' := fun _ => Res.ok (DL.D.str k)) (k := ixA) (k' := eqD) (r := r) (a := wyD w) (b := .int 0) (c := .str k) (by show getV r i = _; unfold getV; rw [hr]) rfl rfl (by rw [hw]; cases b; exact .inr rfl; exact .inl rfl)
  exact zas (e.trans hw)
theorem zeV (D : Dl rows dl n m) {w : Wy} (hw : w.hands≠[]) (hlt : ∀ h∈w.hands,h < n) (hl : w.hands.length≤60) : zbY [TN dl,wyD w] = .ok (LN (w.things dl)) := by
  refine zaF (B := zb1) (n := 3) ?_
  unfold zb1
  cases hh : w.hands with
  | nil => exact absurd hh hw
  | cons a t =>
    rw [hh] at hlt hl
    have hix := zd9 w
    rw [hh] at hix
    have e1 : (setF q105 2 (zci 1 [0] (fSeq zbm (zaB (zab (f2 (gv 1) (fun _ => Res.ok (DL.D.int 1)) ixA) lNil) [] zbh)) (ftN 0) (fun _ => Res.ok true) (f2 (gv 1) (gv 0) ixA))) [some (TN dl),some (wyD w),none] = .nx [some (TN dl),some (wyD w),some (LN (t.map (dOf dl)++[dOf dl a]))] := by
      have := zgr (nl := 1) (cap := [0]) (fi := fSeq zbm (zaB (zab (f2 (gv 1) (fun _ => Res.ok (DL.D.int 1)) ixA) lNil) [] zbh)) (ft := ftN 0) (fe := f2 (gv 1) (gv 0) ixA) (r := [some (TN dl),some (wyD w),none]) (l := t++[a]) nD (fun h => nD (dOf dl h)) (zfN (d := TN (t++[a])) (zal (zad (d := TN (a::t)) (zaj (a := wyD w) (b := .int 1) rfl rfl hix) zai) (zhJ (by simp at hl; omega))) rfl) (by simp at hl ⊢; omega) fun h hm => ⟨[some (nD h),some (TN dl)],rfl,zaj (a := TN dl) (b := nD h) rfl rfl (D.at (hlt h (by simpa [or_comm] using hm)))⟩
      refine zar (this.trans ?_)
      show Res.ok (DL.D.lst _) = Res.ok (DL.D.lst ((t.map (dOf dl)++[dOf dl a]).map nD))
      rw [List.map_append,List.map_append,List.map_map]; rfl
    refine (zae e1).trans ?_
    have eth : w.things dl = t.map (dOf dl)++[w.last dl] := by unfold Wy.things; rw [hh]; rfl
    refine (zae (r' := [some (TN dl),some (wyD w),some (LN (w.things dl))]) ?_).trans ?_
    · rw [eth]
      cases w with
      | ring r =>
        have : r = a::t := hh
        subst this
        exact (if_f (zia (w := .ring (a::t)) rfl rfl)).trans rfl
      | line r x =>
        refine (if_t (zia (w := .line r x) rfl rfl)).trans ?_
        exact zae (zio (d := LN (t.map (dOf dl)++[dOf dl a])) (k := .int (-1)) (v := nD x) rfl (zaj (a := wyD (.line r x)) (b := nD 2) rfl rfl (zeY rfl)) rfl zjr)
    exact zan (zay (d := LN (w.things dl)) rfl)
theorem zgT (D : Dl rows dl n m) {w : Wy} (hw : w.hands≠[]) (hlt : ∀ h∈w.hands,h < n) (hl : w.hands.length≤60) : zdM [WD rows,TN dl,wyD w] = .ok (TN (w.by dl)) := by
  obtain ⟨z6,z7,hloop⟩ := zk5 (some (WD rows)) (some (TN dl)) (some (wyD w)) (w.hands.zip (w.things dl)) dl none none (fun p hp => by rw [D.dn]; exact hlt p.1 (List.of_mem_zip hp).1)
  refine zaF (B := zdO) (n := 6) ?_
  unfold zdO
  refine (zae (zar (d := LN dl) (zbz (zad (d := TN dl) rfl zai) rfl))).trans ?_
  refine (zae ((za2 (ds := (w.hands.zip (w.things dl)).map fun p => DL.D.tup [nD p.1,nD p.2]) (by rw [← zf3]; exact zkG (d := TN w.hands) (e := LN (w.things dl)) (zaj (a := wyD w) (b := .int 1) rfl rfl (zd9 w)) (zal (zad (d := TN dl) rfl (zad (d := wyD w) rfl zai)) (zeV D hw hlt hl)) rfl rfl)).trans hloop)).trans ?_
  exact zan (zay (zbz (zad (d := LN (betr dl (w.hands.zip (w.things dl)))) rfl zai) rfl))
theorem zfD (D : Dl rows dl n m) {w : Wy} (hw : w.hands≠[]) (hlt : ∀ h∈w.hands,h < n) (hl : w.hands.length≤60) : zaO [TN dl,wyD w] = .ok (LN (w.things dl)) := by
  refine zaF (B := zbj) (n := 3) ?_
  unfold zbj
  cases hh : w.hands with
  | nil => exact absurd hh hw
  | cons a t =>
    rw [hh] at hlt hl
    have hix := zd9 w
    rw [hh] at hix
    have eth : w.things dl = t.map (dOf dl)++[w.last dl] := by unfold Wy.things; rw [hh]; rfl
    have := zgr (nl := 1) (cap := [0]) (fi := fSeq zbm (fSlA (f2 (gv 1) (fun _ => Res.ok (DL.D.int 1)) ixA) (zfp (fun _ => Res.ok (DL.D.int 1))) (fun _ => Res.ok none))) (ft := ftN 0) (fe := f2 (gv 1) (gv 0) ixA) (r := [some (TN dl),some (wyD w),none]) (l := t) nD (fun h => nD (dOf dl h)) (zfN (d := TN t) (zfa (d := TN (a::t)) (zaj (a := wyD w) (b := .int 1) rfl rfl hix) (zd2 (i := ((1 : Nat) : Int)) rfl) rfl (zgN (by simp))) rfl) (by simp at hl; omega) fun h hm => ⟨[some (nD h),some (TN dl)],rfl,zaj (a := TN dl) (b := nD h) rfl rfl (D.at (hlt h (List.mem_cons_of_mem _ hm)))⟩
    refine (zae (zar (d := LN (t.map (dOf dl))) (this.trans ?_))).trans ?_
    · show Res.ok (DL.D.lst _) = Res.ok (DL.D.lst ((t.map (dOf dl)).map nD))
      rw [List.map_map]; rfl
    rw [eth]
    have h60 : (t.map (dOf dl)).length + 1≤1000 := by simp at hl ⊢; omega
    cases w with
    | ring r =>
      have : r = a::t := hh
      subst this
      refine zan ((if_t (zia (w := .ring (a::t)) rfl rfl)).trans (zan (zay (zaj (a := LN (t.map (dOf dl))) (b := LN [dOf dl a]) rfl (zcN (ds := [nD (dOf dl a)]) (zad (zaj (a := TN dl) (b := nD a) rfl (zaj (a := TN (a::t)) (b := .int 0) (zaj (a := wyD (.ring (a::t))) (b := .int 1) rfl rfl hix) rfl (ixA_T0 _ _)) (D.at (hlt a List.mem_cons_self))) zai) (by simp)) (zmZ h60)))))
    | line r x =>
      refine (zae ((if_f (zia (w := .line r x) rfl rfl)).trans (e_skip _))).trans ?_
      exact zan (zay (zaj (a := LN (t.map (dOf dl))) (b := LN [x]) rfl (zcN (ds := [nD x]) (zad (zaj (a := wyD (.line r x)) (b := nD 2) rfl rfl (zeY rfl)) zai) (by simp)) (zmZ h60)))
end
end Law
end
section
namespace Law
open PySem PyProof.Rows L2 DL
noncomputable def Wy.cnt : Wy→Nat
  | .ring _ => 2
  | .line _ _ => 3
theorem znf {A : List Nat} {i j : Nat} (hi : i≤A.length) (hj : j < A.length) : (A.drop i++A.take i)[j]? = A[(i + j) % A.length]? := by
  by_cases h : j < A.length - i
  · rw [List.getElem?_append_left (by rw [List.length_drop]; exact h),List.getElem?_drop,Nat.mod_eq_of_lt (by omega)]
  · rw [List.getElem?_append_right (by rw [List.length_drop]; omega),List.length_drop,List.getElem?_take,if_pos (by omega)]
    congr 1
    have : i + j = (i + j - A.length) + A.length := by omega
    rw [this,Nat.add_mod_right,Nat.mod_eq_of_lt (by omega)]
    omega
section
variable {rows : List (List Nat)} {dl : List Nat} {n m : Nat}
theorem Good.ne {w : Wy} (g : Good rows dl n m w) : w.hands≠[] := by
  cases w with
  | ring r =>
    intro z
    have z' : r = [] := z
    have := (show Env rows dl n r from g).two
    rw [z'] at this; simp at this
  | line r x => obtain ⟨h,e,_⟩ := g; subst e; simp [Wy.hands]
theorem Good.nd {w : Wy} (g : Good rows dl n m w) : w.hands.Nodup := by
  cases w with
  | ring r => exact (show Env rows dl n r from g).nd
  | line r x => obtain ⟨h,e,_⟩ := g; subst e; simp [Wy.hands]
theorem Good.lt {w : Wy} (g : Good rows dl n m w) : ∀ h∈w.hands,h < n := by
  cases w with
  | ring r => exact (show Env rows dl n r from g).lt
  | line r x =>
    obtain ⟨h,e,h1,_⟩ := g
    subst e
    intro k hk
    rw [List.mem_singleton.mp hk]; exact h1
theorem Good.len {w : Wy} (g : Good rows dl n m w) : w.hands.length≤n := by
  have := Rg.zem (m := List.range n) g.nd fun h hh => List.mem_range.mpr (g.lt h hh)
  simpa using this
theorem zfK {w : Wy} (h : w.hands≠[]) : (w.things dl).length = w.hands.length := by
  unfold Wy.things
  have := List.length_pos_iff.mpr h
  simp; omega
theorem Good.zip (D : Dl rows dl n m) {w : Wy} (g : Good rows dl n m w) : ∀ p∈w.hands.zip (w.things dl),p.1 < n∧p.2 < m∧Rg.lk (Wr rows) p.1 p.2 (dOf dl p.1) := by
  intro p hp
  have h1 := g.lt p.1 (List.of_mem_zip hp).1
  refine ⟨h1,?_⟩
  cases w with
  | line r x =>
    obtain ⟨h,e,e1,e2,e3,e4⟩ := g
    subst e
    simp [Wy.hands,Wy.things,Wy.last] at hp
    subst hp
    exact ⟨e2,e4⟩
  | ring r =>
    have E : Env rows dl n r := g
    obtain ⟨j,hj⟩ := List.getElem?_of_mem hp
    rw [List.getElem?_zip_eq_some] at hj
    obtain ⟨a1,a2⟩ := hj
    have hjl : j < r.length := (List.getElem?_eq_some_iff.mp a1).1
    have a3 : ((r.drop 1++r.take 1).map (dOf dl))[j]? = some p.2 := by
      rw [← a2]
      unfold Wy.things Wy.last Wy.hands
      cases r with
      | nil => simp at hjl
      | cons a t => simp
    rw [List.getElem?_map,znf (by omega) hjl] at a3
    cases e : r[(1 + j) % r.length]? with
    | none => rw [e] at a3; cases a3
    | some l =>
      rw [e] at a3
      have a3 : dOf dl l = p.2 := Option.some.inj a3
      rw [Nat.add_comm] at e
      have := E.lk j p.1 l a1 e
      rw [a3] at this
      refine ⟨?_,this⟩
      rw [← a3]
      exact D.dlt (E.lt l (List.mem_of_getElem? e))
theorem zfP (k b : Nat) : zbe [nD k,nD b] = .ok (.bl (decide (k < b))) := by
  refine zaF (B := zbH) (n := 2) ?_
  unfold zbH
  refine zan (zay ?_)
  rw [zh7 (zhX (a := nD k) (d := .bl true) rfl rfl),zh7 (zm0 (b := false) (zhX (a := nD k) (d := .bl false) rfl rfl))]
  exact zn9 rfl rfl (zqR k) rfl (zi5 k b)
theorem zk8 : ∀ l : List Nat,zgy (l.map fun _ => DL.D.bl true) = some (l.map fun _ => true)
  | [] => rfl
  | k::l => by
    show (zgy (l.map fun _ => DL.D.bl true)).map _ = _
    rw [zk8 l]; rfl
theorem zra (l : List Nat) : allD [.lst (l.map fun _ => DL.D.bl true)] = some (.bl true) := by
  show (zgy (l.map fun _ => DL.D.bl true)).map _ = _
  rw [zk8]
  show some (DL.D.bl ((l.map fun _ => true).all id)) = _
  congr 2
  rw [List.all_eq_true]
  intro x hx
  obtain ⟨_,_,rfl⟩ := List.mem_map.mp hx
  rfl
theorem zgx : ∀ l : List Nat,zc0 (l.map nD) = some (l.map fun k : Nat => (k : Int))
  | [] => rfl
  | k::l => by
    show (zc0 (l.map nD)).map _ = _
    rw [zgx l]; rfl
theorem zdt : ∀ (ns acc : List Int),(acc++ns).Nodup→(ns.foldl step_dedup acc).length = acc.length + ns.length
  | [],acc,_ => rfl
  | k::ns,acc,h => by
    have hk : k∉acc := fun z => (List.nodup_append.mp h).2.2 k z k List.mem_cons_self rfl
    have e : step_dedup acc k = acc++[k] := by
      unfold step_dedup
      rw [if_neg (by simpa using hk)]
    rw [List.foldl_cons,e,zdt ns (acc++[k]) (by simpa using h)]
    simp; omega
theorem zoA {l : List Nat} (hn : l.Nodup) (h8 : l.length≤60) : zm7 (TN l) = some (nD l.length) := by
  show (zc0 (l.map nD)).bind _ = _
  rw [zgx]
  show (if _ then some (DL.D.int ((zcv (l.map fun k : Nat => (k : Int))).length : Int)) else none) = _
  have hnd : (l.map fun k : Nat => (k : Int)).Nodup := by
    rw [List.nodup_iff_pairwise_ne,List.pairwise_map]
    exact List.Pairwise.imp (fun h z => h (Int.ofNat_inj.mp z)) hn
  have e : (zcv (l.map fun k : Nat => (k : Int))).length = l.length := by
    have := zdt (l.map fun k : Nat => (k : Int)) [] (by simpa using hnd)
    unfold zcv
    rw [this]; simp
  rw [if_pos (by rw [List.length_map]; unfold scanBound; omega),e]
theorem zqW (l : List Nat) (k : Nat) : inD (nD k) (TN l) = some (.bl (decide (k∈l))) := by
  show (if zaS (nD k) = true∧(l.map nD).all zaS = true then some ((l.map nD).any fun y => eqs y (nD k)) else none).map DL.D.bl = _
  rw [if_pos ⟨rfl,zhV l⟩,anyE]; rfl
theorem zmM (l : List Nat) (k : Nat) : ninD (nD k) (TN l) = some (.bl (!decide (k∈l))) := by
  show (if zaS (nD k) = true∧(l.map nD).all zaS = true then some ((l.map nD).any fun y => eqs y (nD k)) else none).map (fun b => DL.D.bl (!b)) = _
  rw [if_pos ⟨rfl,zhV l⟩,anyE]; rfl
theorem zkq (D : Dl rows dl n m) (wd : DL.D) : ∀ (ps : List (Nat × Nat)) (y3 y4 : Option DL.D),(∀ p∈ps,p.1 < n∧p.2 < m∧Rg.lk (Wr rows) p.1 p.2 (dOf dl p.1)) →
    ∃ z3 z4,forF (ftT (za4 (ftN 3) (za4 (ftN 4) zez))) zcB (ps.map fun p => DL.D.tup [nD p.1,nD p.2]) [some (WD rows),some (TN dl),some wd,y3,y4] = .nx [some (WD rows),some (TN dl),some wd,z3,z4]
  | [],y3,y4,_ => ⟨y3,y4,zbs⟩
  | p::ps,y3,y4,h => by
    obtain ⟨h1,h2,h3⟩ := h p List.mem_cons_self
    obtain ⟨z3,z4,ih⟩ := zkq D wd ps (some (nD p.1)) (some (nD p.2)) (fun q hq => h q (List.mem_cons_of_mem _ hq))
    refine ⟨z3,z4,Eq.trans ?_ ih⟩
    have hk := zfQ D h1 h2 (D.dlt h1)
    rw [decide_eq_true h3] at hk
    exact zce (r1 := [some (WD rows),some (TN dl),some wd,some (nD p.1),some (nD p.2)]) rfl ((zae ((if_f (zdX (b := true) (za1 (zal (zad (d := WD rows) rfl (zad (d := nD p.1) rfl (zad (d := nD p.2) rfl (zad (zaj (a := TN dl) (b := nD p.1) rfl rfl (D.at h1)) zai)))) hk) rfl))).trans (e_skip _))).trans rfl)
theorem zj3 (a b : Str) : neD (.str a) (.str b) = some (.bl (!(a == b))) := by unfold neD; rw [eqB_str]; rfl
theorem zlA (D : Dl rows dl n m) {w : Wy} (g : Good rows dl n m w) : zcn [WD rows,TN dl,wyD w] = .ok (.bl true) := by
  have hn7 := D.R.n7
  have hl := g.len
  have hpos := List.length_pos_iff.mpr g.ne
  obtain ⟨z3,z4,hloop⟩ := zkq D (wyD w) (w.hands.zip (w.things dl)) none none (g.zip D)
  obtain ⟨r0,hr0,hr0m⟩ := D.R.ix0
  have hlen : lenD [wyD w] = some (nD w.cnt) := by cases w <;> rfl
  have w1 : ∀ r : Rho,r[2]? = some (some (wyD w))→(f2 (gv 2) (fun _ => Res.ok (DL.D.int 1)) ixA) r = .ok (TN w.hands) := fun r hr => zaj (a := wyD w) (b := .int 1) (by show getV r 2 = _; unfold getV; rw [hr]) rfl (zd9 w)
  refine zaF (B := zcr) (n := 5) ?_
  unfold zcr
  refine (zae ((if_f ?_).trans (e_skip _))).trans ?_
  · rw [or_f (zdX (b := true) (za1 (d := .bl true) (zhX (a := wyD w) rfl (by cases w <;> rfl)) rfl))]
    have t2 : (zax (f2 (fC (zab (gv 2) lNil) lenD) (mkT (zab (fun _ => Res.ok (DL.D.int 2)) (zab (fun _ => Res.ok (DL.D.int 3)) lNil))) ninD)) (zaq 5 [WD rows,TN dl,wyD w]) = .ok false := by
      refine zas (zaj (zbz (zad (d := wyD w) rfl zai) hlen) (zfS (ds := [nD 2,nD 3]) (zad rfl (zad rfl zai)) (by simp)) ?_)
      have := zmM [2,3] w.cnt
      refine this.trans ?_
      cases w <;> rfl
    rw [or_f t2]
    exact zdX (b := true) (za1 (d := .bl true) (zhX (a := TN w.hands) (w1 _ rfl) rfl) rfl)
  refine (zae ((if_f ?_).trans (e_skip _))).trans ?_
  · refine zdX (b := true) (za1 (d := .bl true) (zbz (zad (zgr (l := w.hands) nD (fun _ => .bl true) (zfN (d := TN w.hands) (w1 _ rfl) rfl) (by omega) fun h hh => ⟨[some (nD h),some (WD rows)],rfl,?_⟩) zai) (zra w.hands)) rfl)
    have := zfP h n
    rw [decide_eq_true (g.lt h hh)] at this
    exact zal (zad (d := nD h) rfl (zad (zbz (zad (d := WD rows) rfl zai) D.R.len) zai)) this
  refine (zae ((if_f ?_).trans (e_skip _))).trans ?_
  · have t1 := zmb w.hands.length 0
    rw [decide_eq_false (by omega)] at t1
    have t2 := zi5 w.hands.length w.hands.length
    rw [decide_eq_false (by omega)] at t2
    rw [or_f (zas (zaj (b := nD 0) (zbz (zad (w1 _ rfl) zai) (zdJ _ _)) rfl t1))]
    exact zas (zaj (zhX (a := TN w.hands) (w1 _ rfl) (zoA g.nd (by omega))) (zbz (zad (w1 _ rfl) zai) (zdJ _ _)) t2)
  have lenT : ∀ (k : Nat) (r : Rho),r[2]? = some (some (wyD w))→(zax (f2 (fC (zab (gv 2) lNil) lenD) (fun _ => Res.ok (nD k)) eqD)) r = .ok (decide (w.cnt = k)) := fun k r hr =>
    zas (zaj (zbz (zad (d := wyD w) (by show getV r 2 = _; unfold getV; rw [hr]) zai) hlen) rfl (zmb _ k))
  have l2 := lenT 2 [some (WD rows),some (TN dl),some (wyD w),none,none] rfl
  have l3 := lenT 3 [some (WD rows),some (TN dl),some (wyD w),none,none] rfl
  have fin : seqF (zcH q101 (fZip (f2 (gv 2) (fun _ => Res.ok (DL.D.int 1)) ixA) (zaB (zab (gv 1) (zab (gv 2) lNil)) [] zaO)) (ftT (za4 (ftN 3) (za4 (ftN 4) zez))) zcB) (seqF (retF q101 (fun _ => Res.ok (DL.D.bl true))) zak) [some (WD rows),some (TN dl),some (wyD w),none,none] = .rt (.bl true) := by
    refine (zae ((za2 (ds := (w.hands.zip (w.things dl)).map fun p => DL.D.tup [nD p.1,nD p.2]) (by rw [← zf3]; exact zkG (d := TN w.hands) (e := LN (w.things dl)) (w1 _ rfl) (zal (zad (d := TN dl) rfl (zad (d := wyD w) rfl zai)) (zfD D g.ne g.lt (by omega))) rfl rfl)).trans hloop)).trans ?_
    exact zan (zay (d := .bl true) rfl)
  cases w with
  | ring r =>
    have E : Env rows dl n r := g
    rw [show decide ((Wy.ring r).cnt = 2) = true from rfl] at l2
    rw [show decide ((Wy.ring r).cnt = 3) = false from rfl] at l3
    refine (zae ((if_f ?_).trans (e_skip _))).trans ?_
    · refine (zmq l2).trans ((or_f (zas (zaj (a := .str "ring") (b := .str "ring") (zaj (a := wyD (.ring r)) (b := .int 0) rfl rfl (ixA_T0 _ _)) rfl (d := .bl false) (by rw [zj3]; rfl)))).trans ?_)
      have t2 := zi5 r.length 2
      rw [decide_eq_false (by have := E.two; omega)] at t2
      exact zas (zaj (b := nD 2) (zbz (zad (w1 _ rfl) zai) (zdJ _ _)) rfl t2)
    refine (zae ((if_f (zmr l3)).trans (e_skip _))).trans ?_
    refine (zae ((if_f (zmr l3)).trans (e_skip _))).trans ?_
    exact fin
  | line r x =>
    obtain ⟨h,e,e1,e2,e3,e4⟩ := g
    rw [show decide ((Wy.line r x).cnt = 2) = false from rfl] at l2
    rw [show decide ((Wy.line r x).cnt = 3) = true from rfl] at l3
    refine (zae ((if_f (zmr l2)).trans (e_skip _))).trans ?_
    refine (zae ((if_f ?_).trans (e_skip _))).trans ?_
    · refine (zmq l3).trans ((or_f (zas (zaj (a := .str "line") (b := .str "line") (zaj (a := wyD (.line r x)) (b := .int 0) rfl rfl (ixA_T0 _ _)) rfl (d := .bl false) (by rw [zj3]; rfl)))).trans ?_)
      have := zfP x m
      rw [decide_eq_true e2] at this
      exact zdX (b := true) (za1 (zal (zad (zaj (a := wyD (.line r x)) (b := nD 2) rfl rfl (zeY rfl)) (zad (zbz (zad (zaj (a := WD rows) (b := .int 0) rfl rfl hr0) zai) hr0m) zai)) this) rfl)
    refine (zae ((if_f ?_).trans (e_skip _))).trans ?_
    · refine (zmq l3).trans ?_
      have := zqW dl x
      rw [decide_eq_false e3] at this
      exact zas (zaj (a := nD x) (b := TN dl) (zaj (a := wyD (.line r x)) (b := nD 2) rfl rfl (zeY rfl)) rfl this)
    exact fin
theorem ziG : ∀ (ps : List (Nat × Nat)) (dl : List Nat),(betr dl ps).length = dl.length
  | [],_ => rfl
  | p::ps,dl => by
    show (betr (dl.set p.1 p.2) ps).length = _
    rw [ziG ps,List.length_set]
theorem zkS {i x h : Nat} (hi : i < dl.length) : dOf (dl.set i x) h = if h = i then x else dOf dl h := by
  unfold dOf
  rw [List.getD_eq_getElem?_getD,List.getD_eq_getElem?_getD]
  by_cases e : h = i
  · rw [if_pos e,e,List.getElem?_set_self hi]; rfl
  · rw [if_neg e,List.getElem?_set_ne (Ne.symm e)]
theorem ze4 : ∀ (ps : List (Nat × Nat)) (dl : List Nat) {h : Nat},(∀ p∈ps,p.1 < dl.length)→h∉ps.map (·.1)→dOf (betr dl ps) h = dOf dl h
  | [],_,_,_,_ => rfl
  | p::ps,dl,h,hl,hn => by
    simp only [List.map_cons,List.mem_cons,not_or] at hn
    show dOf (betr (dl.set p.1 p.2) ps) h = _
    rw [ze4 ps (dl.set p.1 p.2) (fun q hq => by rw [List.length_set]; exact hl q (List.mem_cons_of_mem _ hq)) hn.2,zkS (hl p List.mem_cons_self),if_neg hn.1]
theorem zh2 : ∀ (ps : List (Nat × Nat)) (dl : List Nat),(∀ p∈ps,p.1 < dl.length)→(ps.map (·.1)).Nodup→∀ p∈ps,dOf (betr dl ps) p.1 = p.2
  | [],_,_,_,_,hp => nomatch hp
  | q::ps,dl,hl,hn,p,hp => by
    rw [List.map_cons] at hn
    have hn' := List.nodup_cons.mp hn
    show dOf (betr (dl.set q.1 q.2) ps) p.1 = _
    have hl' : ∀ r∈ps,r.1 < (dl.set q.1 q.2).length := fun r hr => by rw [List.length_set]; exact hl r (List.mem_cons_of_mem _ hr)
    rcases List.mem_cons.mp hp with e | hp'
    · subst e
      rw [ze4 ps _ hl' hn'.1,zkS (hl p List.mem_cons_self),if_pos rfl]
    · exact zh2 ps _ hl' hn'.2 p hp'
theorem zeM {l r : List Nat} (h : r.length = l.length) : (l.zip r).map (·.1) = l := by
  have := List.map_fst_zip (l₁ := l) (l₂ := r) (by omega)
  exact this
theorem zmx {f g : Nat→Nat} : ∀ {l : List Nat},(∀ x∈l,f x≤g x)→(∃ x∈l,f x < g x)→(l.map f).sum < (l.map g).sum
  | [],_,h => by obtain ⟨_,h1,_⟩ := h; cases h1
  | a::l,h1,h2 => by
    have le : ∀ {l : List Nat},(∀ x∈l,f x≤g x)→(l.map f).sum≤(l.map g).sum := by
      intro l
      induction l with
      | nil => intro _; exact Nat.le_refl _
      | cons b l ih =>
        intro h
        have := h b List.mem_cons_self
        have := ih fun x hx => h x (List.mem_cons_of_mem _ hx)
        simp only [List.map_cons,List.sum_cons]; omega
    have ha := h1 a List.mem_cons_self
    have hl := le fun x hx => h1 x (List.mem_cons_of_mem _ hx)
    simp only [List.map_cons,List.sum_cons]
    obtain ⟨x,x1,x2⟩ := h2
    rcases List.mem_cons.mp x1 with e | x1
    · subst e; omega
    · have := zmx (fun x hx => h1 x (List.mem_cons_of_mem _ hx)) ⟨x,x1,x2⟩
      omega
noncomputable def tot (rows : List (List Nat)) (n : Nat) (dl : List Nat) : Nat := ((List.range n).map fun h => (Wr rows h).idxOf (dOf dl h)).sum
theorem Good.next (D : Dl rows dl n m) {w : Wy} (g : Good rows dl n m w) : Dl rows (w.by dl) n m∧tot rows n (w.by dl) < tot rows n dl := by
  have hz := g.zip D
  have hne := g.ne
  have hl := zfK (dl := dl) hne
  have hps : ∀ p∈w.hands.zip (w.things dl),p.1 < dl.length := fun p hp => by rw [D.dn]; exact (hz p hp).1
  have hfst := zeM hl
  have hnd : ((w.hands.zip (w.things dl)).map (·.1)).Nodup := by rw [hfst]; exact g.nd
  have hin := zh2 (w.hands.zip (w.things dl)) dl hps hnd
  have hout : ∀ h,h∉w.hands→dOf (w.by dl) h = dOf dl h := fun h hh => ze4 _ _ hps (by rw [hfst]; exact hh)
  have ex : ∀ h∈w.hands,∃ t,(h,t)∈w.hands.zip (w.things dl) := fun h hh => by
    have : h∈(w.hands.zip (w.things dl)).map (·.1) := by rw [hfst]; exact hh
    obtain ⟨p,p1,p2⟩ := List.mem_map.mp this
    exact ⟨p.2,by rw [← p2]; exact p1⟩
  have hlen : (w.by dl).length = n := by unfold Wy.by; rw [ziG,D.dn]
  have ht : (w.things dl).Nodup∧∀ t∈w.things dl,t∉dl∨∃ k∈w.hands,dOf dl k = t := by
    cases w with
    | line r x =>
      obtain ⟨h,e,e1,e2,e3,e4⟩ := g
      subst e
      refine ⟨by simp [Wy.things,Wy.hands],fun t ht => .inl ?_⟩
      simp [Wy.things,Wy.hands,Wy.last] at ht
      subst ht; exact e3
    | ring r =>
      have E : Env rows dl n r := g
      cases r with
      | nil => exact absurd rfl hne
      | cons a t =>
        have e : Wy.things dl (.ring (a::t)) = (t++[a]).map (dOf dl) := by simp [Wy.things,Wy.hands,Wy.last]
        rw [e]
        have hperm : (t++[a]).Perm (a::t) := List.perm_append_singleton a t
        refine ⟨?_,fun x hx => ?_⟩
        · rw [List.nodup_iff_pairwise_ne,List.pairwise_map]
          refine List.Pairwise.imp_of_mem (fun ha hb h z => h ?_) (hperm.nodup_iff.mpr E.nd)
          exact zeA D.nd (by rw [D.dn]; exact E.lt _ (hperm.mem_iff.mp ha)) (by rw [D.dn]; exact E.lt _ (hperm.mem_iff.mp hb)) z
        · obtain ⟨k,k1,k2⟩ := List.mem_map.mp hx
          exact .inr ⟨k,hperm.mem_iff.mp k1,k2⟩
  have zinj : ∀ {h l t : Nat},(h,t)∈w.hands.zip (w.things dl)→(l,t)∈w.hands.zip (w.things dl)→h = l := by
    intro h l t h1 h2
    obtain ⟨i,hi⟩ := List.getElem?_of_mem h1
    obtain ⟨j,hj⟩ := List.getElem?_of_mem h2
    rw [List.getElem?_zip_eq_some] at hi hj
    have e : i = j := by
      have b1 := List.getElem?_eq_some_iff.mp hi.2
      have b2 := List.getElem?_eq_some_iff.mp hj.2
      obtain ⟨c1,q1⟩ := b1
      obtain ⟨c2,q2⟩ := b2
      have := List.pairwise_iff_getElem.mp ht.1
      rcases Nat.lt_trichotomy i j with z | z | z
      · exact absurd (q1.trans q2.symm) (this i j c1 c2 z)
      · exact z
      · exact absurd (q2.trans q1.symm) (this j i c2 c1 z)
    subst e
    exact Option.some.inj (hi.1.symm.trans hj.1)
  have inj : ∀ h l,h < n→l < n→dOf (w.by dl) h = dOf (w.by dl) l→h = l := by
    have mix : ∀ h l,h < n→l < n→h∈w.hands→l∉w.hands→dOf (w.by dl) h≠dOf (w.by dl) l := by
      intro h l hh hl' h1 h2 e
      obtain ⟨t,t1⟩ := ex h h1
      rw [show dOf (w.by dl) h = t from hin (h,t) t1,hout l h2] at e
      rcases ht.2 t (List.of_mem_zip t1).2 with q | ⟨k,k1,k2⟩
      · exact q (by rw [e]; exact zh1 (by rw [D.dn]; exact hl'))
      · have := zeA D.nd (by rw [D.dn]; exact g.lt k k1) (by rw [D.dn]; exact hl') (k2.trans e)
        subst this
        exact h2 k1
    intro h l hh hl' e
    by_cases c1 : h∈w.hands
    · by_cases c2 : l∈w.hands
      · obtain ⟨t,t1⟩ := ex h c1
        obtain ⟨u,u1⟩ := ex l c2
        rw [show dOf (w.by dl) h = t from hin (h,t) t1,show dOf (w.by dl) l = u from hin (l,u) u1] at e
        subst e
        exact zinj t1 u1
      · exact absurd e (mix h l hh hl' c1 c2)
    · by_cases c2 : l∈w.hands
      · exact absurd e.symm (mix l h hl' hh c2 c1)
      · rw [hout h c1,hout l c2] at e
        exact zeA D.nd (by rw [D.dn]; exact hh) (by rw [D.dn]; exact hl') e
  have ltm : ∀ h,h < n→dOf (w.by dl) h < m := fun h hh => by
    by_cases c : h∈w.hands
    · obtain ⟨t,t1⟩ := ex h c
      rw [show dOf (w.by dl) h = t from hin (h,t) t1]
      exact (hz _ t1).2.1
    · rw [hout h c]; exact D.dlt hh
  refine ⟨⟨D.R,hlen,?_,fun x hx => ?_⟩,?_⟩
  · rw [← ziE hlen,List.nodup_iff_pairwise_ne,List.pairwise_map]
    exact List.Pairwise.imp_of_mem (fun ha hb h z => h (inj _ _ (List.mem_range.mp ha) (List.mem_range.mp hb) z)) List.nodup_range
  · obtain ⟨i,hi,rfl⟩ := zkT hx
    exact ltm i (by rw [← hlen]; exact hi)
  · unfold tot
    refine zmx (fun h hh => ?_) ?_
    · by_cases c : h∈w.hands
      · obtain ⟨t,t1⟩ := ex h c
        rw [show dOf (w.by dl) h = t from hin (h,t) t1]
        exact Nat.le_of_lt (hz _ t1).2.2
      · rw [hout h c]; exact Nat.le_refl _
    · obtain ⟨h,hh⟩ := List.exists_mem_of_ne_nil _ hne
      obtain ⟨t,t1⟩ := ex h hh
      refine ⟨h,List.mem_range.mpr (g.lt h hh),?_⟩
      rw [show dOf (w.by dl) h = t from hin (h,t) t1]
      exact (hz _ t1).2.2
theorem zmp (D : Dl rows dl n m) {w : Wy} (g : Good rows dl n m w) : Rg.beh (Wr rows) (dOf dl) 64 (List.range n) (List.range m) [] = none := by
  cases e : Rg.beh (Wr rows) (dOf dl) 64 (List.range n) (List.range m) [] with
  | none => rfl
  | some o =>
    exfalso
    obtain ⟨o',_,e2,e3⟩ := Rg.zoc e
    have hmem : ∀ h,h∈o'↔h < n := fun h => by rw [e2.mem_iff]; exact List.mem_range
    cases w with
    | ring r =>
      have E : Env rows dl n r := g
      refine Rg.zna (C := r) e3 (List.ne_nil_of_length_pos (by have := E.two; omega)) (fun h hh => (hmem h).mpr (E.lt h hh)) (fun h hh => ?_) (fun h hh => List.mem_range.mpr (D.dlt ((hmem h).mp hh))) (fun h hh l hl => zeA D.nd (by rw [D.dn]; exact (hmem h).mp hh) (by rw [D.dn]; exact (hmem l).mp hl)) (fun h hh x hx => D.R.has ((hmem h).mp hh) (List.mem_range.mp hx))
      obtain ⟨i,hi⟩ := List.getElem?_of_mem hh
      have hlt : (i + 1) % r.length < r.length := Nat.mod_lt _ (by have := E.two; omega)
      exact ⟨r[(i + 1) % r.length],List.getElem_mem _,E.lk i h _ hi (List.getElem?_eq_getElem hlt)⟩
    | line r x =>
      obtain ⟨h,_,h1,h2,h3,h4⟩ := g
      exact Rg.znb e3 ((hmem h).mpr h1) (List.mem_range.mpr h2) (fun l hl z => h3 (by rw [← z]; exact zh1 (by rw [D.dn]; exact (hmem l).mp hl))) h4 (D.R.has h1 h2)
theorem zk6 (D : Dl rows dl n m) (h1 : ∀ h,h < n→∀ x,x < m→x∉dl→¬ Rg.lk (Wr rows) h x (dOf dl h)) (h2 : ∀ C : List Nat,C≠[]→(∀ h∈C,h < n)→¬ ∀ h∈C,∃ l∈C,Rg.lk (Wr rows) h (dOf dl l) (dOf dl h)) : Rg.beh (Wr rows) (dOf dl) 64 (List.range n) (List.range m) []≠none := by
  have hn7 := D.R.n7
  refine Rg.zp9 (fun h hh => List.mem_range.mpr (D.dlt (List.mem_range.mp hh))) List.nodup_range List.nodup_range (by simp; omega) (fun h hh x hx => D.R.has (List.mem_range.mp hh) (List.mem_range.mp hx)) (fun h hh x hx hno => h1 h (List.mem_range.mp hh) x (List.mem_range.mp hx) fun z => ?_) (fun C c1 c2 => h2 C c1 fun h hh => List.mem_range.mp (c2 h hh)) (fun h hh l hl => zeA D.nd (by rw [D.dn]; exact List.mem_range.mp hh) (by rw [D.dn]; exact List.mem_range.mp hl))
  obtain ⟨i,hi,e⟩ := zkT z
  exact hno i (List.mem_range.mpr (by rw [← D.dn]; exact hi)) e
end
end Law
end
section
namespace Law
open PySem PyProof.Rows L2 DL
theorem zm5 {l : List Nat} {i : Nat} (h : i≤l.length) : slA (LN l) none (some (i : Int)) = some (LN (l.take i)) := by
  show some (DL.D.lst (cutL (l.map nD) none (some (i : Int)))) = _
  unfold cutL
  rw [HT.sIx_nat,HT.sIx_none,List.length_map,Nat.min_eq_left h,List.drop_zero,Nat.sub_zero]
  show some (DL.D.lst _) = some (DL.D.lst ((l.take i).map nD))
  rw [List.map_take]
theorem zmY {a b : List Nat} (h : a.length + b.length≤1000) : addE (LN a) (LN b) = some (LN (a++b)) := by
  show (if (a.map nD).length + (b.map nD).length≤sizeLine then some (DL.D.lst (a.map nD++b.map nD)) else none) = some (DL.D.lst ((a++b).map nD))
  rw [if_pos (by rw [List.length_map,List.length_map,sizeLine_eq]; omega),List.map_append]
noncomputable def fc : Nat→Nat
  | 0 => 1
  | i + 1 => fc i * (i + 1)
theorem zn2 {i : Nat} (h : i≤4) : fc i≤24 := by
  match i,h with
  | 0,_ => decide
  | 1,_ => decide
  | 2,_ => decide
  | 3,_ => decide
  | 4,_ => decide
theorem zi1 {i : Nat} {row : List Nat} (hp : row.Perm (List.range i)) (at' : Nat) : (row.take at'++[i]++row.drop at').Perm (List.range (i + 1)) := by
  have h1 : (row.take at'++[i]++row.drop at').Perm (i::row) := by
    rw [List.append_assoc,List.singleton_append]
    refine List.perm_middle.trans ?_
    rw [List.take_append_drop]
  refine h1.trans ?_
  rw [List.range_succ]
  exact (List.Perm.cons i hp).trans (List.perm_append_singleton i _).symm
theorem zlq {i : Nat} {r : List Nat} (h : r.Perm (List.range (i + 1))) : ∃ (row : List Nat) (a : Nat),row.Perm (List.range i)∧a≤i∧r = row.take a++[i]++row.drop a := by
  have hi : i∈r := h.mem_iff.mpr (List.mem_range.mpr (by omega))
  obtain ⟨A,B,rfl⟩ := List.append_of_mem hi
  refine ⟨A++B,A.length,?_,?_,?_⟩
  · have h1 : (i::(A++B)).Perm (i::List.range i) := by
      refine List.perm_middle.symm.trans (h.trans ?_)
      rw [List.range_succ]
      exact List.perm_append_singleton i _
    exact h1.cons_inv
  · have := h.length_eq
    simp at this; omega
  · rw [List.take_left,List.drop_left]; simp
noncomputable abbrev LL (l : List (List Nat)) : DL.D := .lst (l.map LN)
theorem ao_0 (kd fnd : Option DL.D) {i : Nat} {row : List Nat} (hp : row.Perm (List.range i)) (hi : i≤10) : ∀ (l : List Nat) (lg : List (List Nat)) (y : Option DL.D),(∀ a∈l,a≤i)→lg.length + l.length≤100 →
    ∃ (lg' : List (List Nat)) (y' : Option DL.D),lg'.length = lg.length + l.length∧(∀ r∈lg',r∈lg∨r.Perm (List.range (i + 1)))∧(∀ r∈lg,r∈lg')∧(∀ a∈l,row.take a++[i]++row.drop a∈lg') ∧
      forF (ftN 5) zcE (l.map nD) [kd,fnd,some (nD i),some (LL lg),some (LN row),y] = .nx [kd,fnd,some (nD i),some (LL lg'),some (LN row),y']
  | [],lg,y,_,_ => ⟨lg,y,rfl,fun r hr => .inl hr,fun r hr => hr,fun _ h => (nomatch h),zbs⟩
  | a::l,lg,y,ha,hl => by
    have hlen : row.length = i := by rw [hp.length_eq]; simp
    obtain ⟨lg',y',h1,h2,h4,h5,h3⟩ := ao_0 kd fnd hp hi l (lg++[row.take a++[i]++row.drop a]) (some (nD a)) (fun x hx => ha x (List.mem_cons_of_mem _ hx)) (by simp at hl ⊢; omega)
    refine ⟨lg',y',by rw [h1]; simp; omega,fun r hr => ?_,fun r hr => h4 r (List.mem_append_left _ hr),fun b hb => (List.mem_cons.mp hb).elim (fun e => by subst e; exact h4 _ (List.mem_append_right _ (List.mem_singleton.mpr rfl))) (h5 b),Eq.trans ?_ h3⟩
    · rcases h2 r hr with z | z
      · rcases List.mem_append.mp z with z | z
        · exact .inl z
        · rw [List.mem_singleton.mp z]; exact .inr (zi1 hp a)
      · exact .inr z
    · have ha' := ha a List.mem_cons_self
      refine zce (r1 := [kd,fnd,some (nD i),some (LL lg),some (LN row),some (nD a)]) rfl ?_
      refine (zae (zeL (d := LL lg) (ds := [LN (row.take a++[i]++row.drop a)]) (d' := LL (lg++[row.take a++[i]++row.drop a])) rfl rfl (zad (zaj (a := LN (row.take a++[i])) (b := LN (row.drop a)) (zaj (a := LN (row.take a)) (b := LN [i]) (zfa (d := LN row) rfl rfl (zd2 (i := (a : Int)) rfl) (zm5 (by omega))) (zcN (zad (d := nD i) rfl zai) (by simp)) (zmY (by simp; omega))) (zfa (d := LN row) rfl (zd2 (i := (a : Int)) rfl) rfl (zif (by omega))) (zmY (by simp; omega))) zai) ?_)).trans rfl
      rw [zgz (by simp at hl ⊢; omega)]
      show some (DL.D.lst _) = some (DL.D.lst _)
      rw [List.map_append]; rfl
theorem ao_1 (kd fnd : Option DL.D) {i : Nat} (hi : i≤10) : ∀ (l : List (List Nat)) (lg : List (List Nat)) (x y : Option DL.D),(∀ r∈l,r.Perm (List.range i))→(∀ r∈lg,r.Perm (List.range (i + 1)))→lg.length + l.length * (i + 1)≤100 →
    ∃ (lg' : List (List Nat)) (x' y' : Option DL.D),lg'.length = lg.length + l.length * (i + 1)∧(∀ r∈lg',r.Perm (List.range (i + 1)))∧(∀ r∈lg,r∈lg')∧(∀ row∈l,∀ a,a≤i→row.take a++[i]++row.drop a∈lg') ∧
      forF (ftN 4) zcD (l.map LN) [kd,fnd,some (nD i),some (LL lg),x,y] = .nx [kd,fnd,some (nD i),some (LL lg'),x',y']
  | [],lg,x,y,_,hg,_ => ⟨lg,x,y,by simp,hg,fun _ h => h,fun _ h => (nomatch h),zbs⟩
  | row::l,lg,x,y,hp,hg,hl => by
    have hr := hp row List.mem_cons_self
    have hlen : row.length = i := by rw [hr.length_eq]; simp
    have hm : (row::l).length * (i + 1) = l.length * (i + 1) + (i + 1) := by rw [List.length_cons,Nat.succ_mul]
    obtain ⟨lg1,y1,h1,h2,h4,h5,h3⟩ := ao_0 kd fnd hr hi (List.range (i + 1)) lg y (fun a ha => by have := List.mem_range.mp ha; omega) (by simp; omega)
    rw [List.length_range] at h1
    obtain ⟨lg',x',y',i1,i2,i4,i5,i3⟩ := ao_1 kd fnd hi l lg1 (some (LN row)) y1 (fun r hr => hp r (List.mem_cons_of_mem _ hr)) (fun r hr => (h2 r hr).elim (hg r) id) (by omega)
    refine ⟨lg',x',y',by omega,i2,fun r hr => i4 r (h4 r hr),fun r hr b hb => (List.mem_cons.mp hr).elim (fun e => by subst e; exact i4 _ (h5 b (List.mem_range.mpr (by omega)))) fun h => i5 r h b hb,Eq.trans ?_ i3⟩
    refine zce (r1 := [kd,fnd,some (nD i),some (LL lg),some (LN row),y]) rfl (zae ((za2 (ds := (List.range (i + 1)).map nD) (zdc (zad (zaj (a := nD i) (b := nD 1) (zbz (zad (d := LN row) rfl zai) ?_) rfl (zfZ i 1)) zai) (zeh (by omega)))).trans h3))
    rw [zdb,hlen]
theorem ao_2 (kd : Option DL.D) : ∀ (j i : Nat) (fnd : List (List Nat)) (x2 x3 x4 x5 : Option DL.D),i + j≤4→fnd.length = fc i→(∀ r∈fnd,r.Perm (List.range i))→(∀ r : List Nat,r.Perm (List.range i)→r∈fnd) →
    ∃ (fnd' : List (List Nat)) (y2 y3 y4 y5 : Option DL.D),fnd'.length = fc (i + j)∧(∀ r∈fnd',r.Perm (List.range (i + j)))∧(∀ r : List Nat,r.Perm (List.range (i + j))→r∈fnd') ∧
      forF (ftN 2) zcC ((List.range' i j).map nD) [kd,some (LL fnd),x2,x3,x4,x5] = .nx [kd,some (LL fnd'),y2,y3,y4,y5]
  | 0,i,fnd,x2,x3,x4,x5,_,hl,hp,hc => ⟨fnd,x2,x3,x4,x5,hl,hp,hc,zbs⟩
  | j + 1,i,fnd,x2,x3,x4,x5,hj,hl,hp,hc => by
    have hb : fc (i + 1)≤24 := zn2 (by omega)
    have hfc : fc (i + 1) = fc i * (i + 1) := rfl
    obtain ⟨lg,z4,z5,h1,h2,_,h5,h3⟩ := ao_1 kd (some (LL fnd)) (i := i) (by omega) fnd [] x4 x5 hp (fun r hr => (nomatch hr)) (by rw [hl,← hfc]; simp; omega)
    obtain ⟨fnd',y2,y3,y4,y5,i1,i2,i4,i3⟩ := ao_2 kd j (i + 1) lg (some (nD i)) (some (LL lg)) z4 z5 (by omega) (by rw [h1,hl,hfc]; simp) h2 (fun r hr => by
      obtain ⟨row,b,p1,p2,p3⟩ := zlq hr
      rw [p3]; exact h5 row (hc row p1) b p2)
    refine ⟨fnd',y2,y3,y4,y5,by rw [show i + (j + 1) = i + 1 + j by omega]; exact i1,by rw [show i + (j + 1) = i + 1 + j by omega]; exact i2,by rw [show i + (j + 1) = i + 1 + j by omega]; exact i4,Eq.trans ?_ i3⟩
    refine zce (r1 := [kd,some (LL fnd),some (nD i),x3,x4,x5]) rfl ?_
    refine (zae (zar (d := LL []) (zcN zai (by simp)))).trans ?_
    refine (zae ((za2 (ds := fnd.map LN) rfl).trans h3)).trans ?_
    exact zae (zar (d := LL lg) rfl)
theorem ziu : ∀ (l : List (List Nat)),zgh (l.map LN) = some (l.map fun r => r.map fun k : Nat => (k : Int))
  | [] => rfl
  | r::l => by
    show (zc0 (r.map nD)).bind _ = _
    rw [zgx]
    show (zgh (l.map LN)).map _ = _
    rw [ziu l]; rfl
theorem zhE (rs : List (List Nat)) (hl : rs.length < 64) : ∃ rs' : List (List Nat),rs'.Perm rs∧zid [LL rs] = some (LL rs') := by
  refine ⟨(zfA (rs.map LN).length fun i j => HT.lexLt ((rs.map fun r => r.map fun k : Nat => (k : Int)).getD i []) ((rs.map fun r => r.map fun k : Nat => (k : Int)).getD j [])).map fun i => rs.getD i [],?_,?_⟩
  · have := (zet (rs.map LN).length fun i j => HT.lexLt ((rs.map fun r => r.map fun k : Nat => (k : Int)).getD i []) ((rs.map fun r => r.map fun k : Nat => (k : Int)).getD j [])).map fun i => rs.getD i []
    refine this.trans ?_
    rw [List.length_map]
    have e2 : (List.range rs.length).map (fun i => rs.getD i []) = rs := by
      refine List.ext_getElem? fun i => ?_
      rw [List.getElem?_map]
      by_cases hi : i < rs.length
      · rw [List.getElem?_range hi]; simp [List.getElem?_eq_getElem hi]
      · rw [List.getElem?_eq_none (by simp; omega),List.getElem?_eq_none (by omega)]; rfl
    rw [e2]
  · show (zgh (rs.map LN)).bind _ = _
    rw [ziu]
    show (if _ then _ else _) = _
    rw [if_pos (by rw [List.length_map]; exact hl)]
    unfold zgL
    show some (DL.D.lst _) = some (DL.D.lst _)
    rw [List.map_map]
    congr 2
    refine List.map_congr_left fun i hi => ?_
    have hi := ze9 hi
    rw [List.length_map] at hi
    simp [List.getD,List.getElem?_eq_getElem hi]
theorem zne {k : Nat} (hk : k≤4) : ∃ rs : List (List Nat),(∀ r : List Nat,r∈rs↔r.Perm (List.range k))∧rs.length≤24∧zbi [nD k] = .ok (LL rs) := by
  obtain ⟨fnd,y2,y3,y4,y5,h1,h2,h4,h3⟩ := ao_2 (some (nD k)) k 0 [[]] none none none none (by omega) rfl (fun r hr => by rw [List.mem_singleton.mp hr]; simp) (fun r hr => by rw [List.perm_nil.mp (show r.Perm [] from hr)]; exact List.mem_singleton.mpr rfl)
  rw [Nat.zero_add] at h1 h2 h4
  rw [← List.range_eq_range'] at h3
  obtain ⟨rs',p,hs⟩ := zhE fnd (by have := zn2 hk; omega)
  refine ⟨rs',fun r => ⟨fun hr => h2 r (p.mem_iff.mp hr),fun hr => p.mem_iff.mpr (h4 r hr)⟩,by rw [p.length_eq,h1]; exact zn2 hk,zaF (B := zbk) (n := 6) ?_⟩
  unfold zbk
  refine (zae (zar (d := LL [[]]) (zcN (zad (zcN zai (by simp)) zai) (by simp)))).trans ?_
  refine (zae ((za2 (ds := (List.range k).map nD) (zdc (zad (d := nD k) rfl zai) (zeh (by omega)))).trans h3)).trans ?_
  exact zan (zay (zbz (zad (d := LL fnd) rfl zai) hs))
section
variable {rows : List (List Nat)} {n m : Nat}
theorem zj0 (R : Rws rows n m) (od : Option DL.D) : ∀ (o T : List Nat) (g : List (Option Nat)) (y : Option DL.D),o.Nodup→(∀ h∈o,h < n)→o.length≤T.length→(∀ x∈T,x < m)→g.length = n →
    ∃ (g' : List (Option Nat)) (T' : List Nat) (y' : Option DL.D),g'.length = n∧(∀ h∈o,g'[h]? = some (some (Rg.serD (Wr rows) o T h)))∧(∀ h,h∉o→g'[h]? = g[h]?) ∧
      forF (ftN 4) zcf (o.map nD) [some (WD rows),od,some (LN T),some (.lst (g.map oD)),y] = .nx [some (WD rows),od,some (LN T'),some (.lst (g'.map oD)),y']
  | [],T,g,y,_,_,_,_,hg => ⟨g,T,y,hg,fun _ h => (nomatch h),fun _ _ => rfl,zbs⟩
  | h::o,T,g,y,hn,hh,hl,hT,hg => by
    have h0 := hh h List.mem_cons_self
    have hn' := List.nodup_cons.mp hn
    have hp : 0 < T.length := by simp at hl; omega
    have hin := R.inT h0 hp hT
    obtain ⟨g',T',y',i1,i2,i3,i4⟩ := zj0 R od o (T.erase (Rg.best (Wr rows h) T)) (g.set h (some (Rg.best (Wr rows h) T))) (some (nD h)) hn'.2 (fun k hk => hh k (List.mem_cons_of_mem _ hk)) (by rw [List.length_erase_of_mem hin]; simp at hl; omega) (fun x hx => hT x (List.mem_of_mem_erase hx)) (by rw [List.length_set]; exact hg)
    refine ⟨g',T',y',i1,fun k hk => ?_,fun k hk => ?_,?_⟩
    · rcases List.mem_cons.mp hk with e | hk2
      · subst e
        rw [i3 k hn'.1,List.getElem?_set_self (by omega)]
        simp [Rg.serD]
      · have hne : k≠h := fun e => by subst e; exact hn'.1 hk2
        rw [i2 k hk2]
        simp [Rg.serD,hne]
    · rw [i3 k fun z => hk (List.mem_cons_of_mem _ z),List.getElem?_set_ne]
      rintro rfl
      exact hk List.mem_cons_self
    · rw [← i4]
      refine zce (r1 := [some (WD rows),od,some (LN T),some (.lst (g.map oD)),some (nD h)]) rfl ?_
      have es : (g.map oD).set h (nD (Rg.best (Wr rows h) T)) = (g.set h (some (Rg.best (Wr rows h) T))).map oD := by rw [List.map_set]; rfl
      refine (zae (zio (d := .lst (g.map oD)) (k := nD h) (v := nD (Rg.best (Wr rows h) T)) rfl (zal (zad (zaj (a := WD rows) (b := nD h) rfl rfl (zeY (zjB (by rw [R.rl]; exact h0)))) (zad (d := LN T) rfl zai)) (R.lbest h0 hp hT)) rfl (zmz (by rw [List.length_map]; omega)))).trans ?_
      rw [es]
      refine zae (zeL (d := LN T) (ds := [nD (Rg.best (Wr rows h) T)]) rfl rfl (zad (zaj (a := .lst ((g.set h (some (Rg.best (Wr rows h) T))).map oD)) (b := nD h) rfl rfl (znW ?_)) zai) (zjD hin))
      rw [List.getElem?_map,List.getElem?_set_self (by omega)]; rfl
theorem zdr (R : Rws rows n m) {o : List Nat} (hp : o.Perm (List.range n)) : zaJ [WD rows,LN o] = .ok (TN ((List.range n).map (Rg.serD (Wr rows) o (List.range m)))) := by
  have hn7 := R.n7
  have hm8 := R.m8
  have hnm := R.nm
  have hlen : o.length = n := by rw [hp.length_eq]; simp
  obtain ⟨r0,hr0,hr0m⟩ := R.ix0
  obtain ⟨g',T',y',i1,i2,i3,i4⟩ := zj0 R (some (LN o)) o (List.range m) (o.map fun _ => none) none (hp.nodup_iff.mpr List.nodup_range) (fun h hh => List.mem_range.mp (hp.mem_iff.mp hh)) (by simp; omega) (fun x hx => List.mem_range.mp hx) (by simp; exact hlen)
  have hg : g' = (List.range n).map fun h => some (Rg.serD (Wr rows) o (List.range m) h) := by
    refine List.ext_getElem? fun h => ?_
    by_cases hh : h < n
    · rw [i2 h (hp.mem_iff.mpr (List.mem_range.mpr hh)),List.getElem?_map,List.getElem?_range hh]; rfl
    · rw [List.getElem?_eq_none (by omega),List.getElem?_eq_none (by simp; omega)]
  refine zaF (B := za6) (n := 5) ?_
  unfold za6
  refine (zae (zar (d := LN (List.range m)) (zbz (zad (d := nD m) (zbz (zad (zaj (a := WD rows) (b := .int 0) rfl rfl hr0) zai) hr0m) zai) (zhP (by omega))))).trans ?_
  refine (zae (zar (zcx (l := o) nD (fun _ => true) (fun _ => .non) rfl (by omega) fun h hh => ⟨[some (nD h)],rfl,rfl,fun _ => rfl⟩))).trans ?_
  rw [zfo]
  have em : o.map (fun _ => DL.D.non) = (o.map fun _ => (none : Option Nat)).map oD := by rw [List.map_map]; rfl
  rw [em]
  refine (zae ((za2 (ds := o.map nD) rfl).trans i4)).trans ?_
  refine zan (zay (zbz (zad (d := .lst (g'.map oD)) rfl zai) ?_))
  rw [e_tupL,hg,List.map_map]
  show some (D.tup _) = some (D.tup _)
  rw [List.map_map]; rfl
end
end Law
end
section
namespace Law
open PySem PyProof.Rows L2 DL
noncomputable def ext (m : Nat) (row : List Nat) : List (List Nat) := ((List.range m).filter fun x => !decide (x∈row)).map fun x => row++[x]
noncomputable def alld (m : Nat) : Nat→List (List Nat)
  | 0 => [[]]
  | i + 1 => (alld m i).flatMap (ext m)
noncomputable abbrev LT (l : List (List Nat)) : DL.D := .lst (l.map TN)
theorem zel {m : Nat} : ∀ {i : Nat} {r : List Nat},r∈alld m i↔r.length = i∧r.Nodup∧∀ x∈r,x < m
  | 0,r => by
    constructor
    · intro h; rw [List.mem_singleton.mp h]; simp
    · rintro ⟨h,_⟩; rw [List.length_eq_zero_iff.mp h]; exact List.mem_singleton.mpr rfl
  | i + 1,r => by
    constructor
    · intro h
      obtain ⟨q,h1,h2⟩ := List.mem_flatMap.mp h
      obtain ⟨x,h3,rfl⟩ := List.mem_map.mp h2
      obtain ⟨h4,h5⟩ := List.mem_filter.mp h3
      obtain ⟨a,b,c⟩ := zel.mp h1
      have h5 : x∉q := by simpa using h5
      refine ⟨by simp [a],?_,fun y hy => ?_⟩
      · rw [List.nodup_append]
        exact ⟨b,by simp,fun y hy z hz => by rw [List.mem_singleton.mp hz]; rintro rfl; exact h5 hy⟩
      · rcases List.mem_append.mp hy with z | z
        · exact c y z
        · rw [List.mem_singleton.mp z]; exact List.mem_range.mp h4
    · rintro ⟨h1,h2,h3⟩
      have hne : r≠[] := by intro e; rw [e] at h1; simp at h1
      have e := List.dropLast_concat_getLast hne
      rw [← e] at h2 h3 ⊢
      have hd := List.nodup_append.mp h2
      refine List.mem_flatMap.mpr ⟨r.dropLast,zel.mpr ⟨by simp [h1],hd.1,fun x hx => h3 x (List.mem_append_left _ hx)⟩,List.mem_map.mpr ⟨r.getLast hne,List.mem_filter.mpr ⟨List.mem_range.mpr (h3 _ (List.mem_append_right _ (List.mem_singleton.mpr rfl))),?_⟩,rfl⟩⟩
      have : r.getLast hne∉r.dropLast := fun hx => hd.2.2 _ hx _ (List.mem_singleton.mpr rfl) rfl
      simpa using this
theorem zkI (m : Nat) (row : List Nat) : (ext m row).length≤m := by
  unfold ext
  rw [List.length_map]
  have := List.length_filter_le (fun x => !decide (x∈row)) (List.range m)
  simpa using this
theorem ziA (m : Nat) : ∀ l : List (List Nat),(l.flatMap (ext m)).length≤l.length * m
  | [] => by simp
  | r::l => by
    have h1 := ziA m l
    have h2 := zkI m r
    rw [List.flatMap_cons,List.length_append,List.length_cons,Nat.succ_mul]
    omega
theorem zgA {m : Nat} (hm : m≤5) : ∀ i : Nat,(alld m i).length≤5 ^ i
  | 0 => by simp [alld]
  | i + 1 => by
    have h1 := zgA hm i
    have h2 := ziA m (alld m i)
    have h3 : (alld m i).length * m≤5 ^ i * 5 := Nat.mul_le_mul h1 hm
    show ((alld m i).flatMap (ext m)).length≤5 ^ (i + 1)
    rw [Nat.pow_succ]; omega
theorem lo_0 (x0 x1 : Option DL.D) (row : List Nat) (hr : row.length≤60) : ∀ (l : List Nat) (fnd : List (List Nat)) (y : Option DL.D),fnd.length + l.length≤900 →
    ∃ y',forF (ftN 4) zdG (l.map nD) [x0,x1,some (LT fnd),some (TN row),y] = .nx [x0,x1,some (LT (fnd++(l.filter fun x => !decide (x∈row)).map fun x => row++[x])),some (TN row),y']
  | [],fnd,y,_ => ⟨y,by simp only [List.filter_nil,List.map_nil,List.append_nil]; exact zbs⟩
  | x::l,fnd,y,hl => by
    have t := zas (zaj (f := gv 4) (f' := gv 3) (r := [x0,x1,some (LT fnd),some (TN row),some (nD x)]) (a := nD x) (b := TN row) rfl rfl (zmM row x))
    by_cases hx : x∈row
    · obtain ⟨y',ih⟩ := lo_0 x0 x1 row hr l fnd (some (nD x)) (by simp at hl ⊢; omega)
      refine ⟨y',?_⟩
      rw [List.filter_cons_of_neg (by simp [hx]),← ih]
      refine zce (r1 := [x0,x1,some (LT fnd),some (TN row),some (nD x)]) rfl ?_
      rw [decide_eq_true hx] at t
      exact zae ((if_f t).trans (e_skip _))
    · obtain ⟨y',ih⟩ := lo_0 x0 x1 row hr l (fnd++[row++[x]]) (some (nD x)) (by simp at hl ⊢; omega)
      refine ⟨y',?_⟩
      rw [List.filter_cons_of_pos (by simp [hx]),List.map_cons (f := fun x => row++[x]),List.append_cons,← ih]
      refine zce (r1 := [x0,x1,some (LT fnd),some (TN row),some (nD x)]) rfl ?_
      rw [decide_eq_false hx] at t
      refine zae ((if_t t).trans ((zae (zeL (d := LT fnd) (ds := [TN (row++[x])]) (d' := LT (fnd++[row++[x]])) rfl rfl (zad (zaj (a := TN row) (b := TN [x]) rfl (zfS (ds := [nD x]) (zad (d := nD x) rfl zai) (by simp)) (zmX (by simp; omega))) zai) ?_)).trans rfl))
      rw [zgz (by simp at hl ⊢; omega)]
      show some (DL.D.lst _) = some (DL.D.lst _)
      rw [List.map_append]; rfl
theorem lo_1 (x0 : Option DL.D) {m : Nat} (hm : m≤5) : ∀ (l fnd : List (List Nat)) (y3 y4 : Option DL.D),(∀ r∈l,r.length≤60)→fnd.length + l.length * m≤800 →
    ∃ y3' y4',forF (ftN 3) zdF (l.map TN) [x0,some (nD m),some (LT fnd),y3,y4] = .nx [x0,some (nD m),some (LT (fnd++l.flatMap (ext m))),y3',y4']
  | [],fnd,y3,y4,_,_ => ⟨y3,y4,by simp only [List.flatMap_nil,List.append_nil]; exact zbs⟩
  | row::l,fnd,y3,y4,hr,hl => by
    have hmul : (row::l).length * m = l.length * m + m := by rw [List.length_cons,Nat.succ_mul]
    have he := zkI m row
    obtain ⟨y',h0⟩ := lo_0 x0 (some (nD m)) row (hr row List.mem_cons_self) (List.range m) fnd y4 (by simp; omega)
    obtain ⟨a,b,ih⟩ := lo_1 x0 hm l (fnd++ext m row) (some (TN row)) y' (fun r h => hr r (List.mem_cons_of_mem _ h)) (by simp; omega)
    refine ⟨a,b,?_⟩
    rw [List.flatMap_cons,← List.append_assoc,← ih]
    refine zce (r1 := [x0,some (nD m),some (LT fnd),some (TN row),y4]) rfl ?_
    exact zae ((za2 (ds := (List.range m).map nD) (zdc (zad (d := nD m) rfl zai) (zeh (by omega)))).trans h0)
theorem ziZ {m : Nat} (hm : m≤5) {l : List (List Nat)} (hr : ∀ r∈l,r.length≤60) (hl : l.length * m≤800) : zcm [LT l,nD m] = .ok (LT (l.flatMap (ext m))) := by
  obtain ⟨a,b,h⟩ := lo_1 (some (LT l)) hm l [] none none hr (by simpa using hl)
  refine zaF (B := zcq) (n := 5) ?_
  unfold zcq
  refine (zae (zar (d := LT []) (zcN zai (by simp)))).trans ?_
  refine (zae ((za2 (ds := l.map TN) rfl).trans h)).trans ?_
  rw [List.nil_append]
  exact zan (zay (d := LT (l.flatMap (ext m))) rfl)
theorem zlc (x0 : Option DL.D) {m : Nat} (hm : m≤5) : ∀ (j i : Nat) (y : Option DL.D),i + j≤4 →
    ∃ y',forF (ftN 3) zb9 ((List.range' i j).map nD) [x0,some (nD m),some (LT (alld m i)),y] = .nx [x0,some (nD m),some (LT (alld m (i + j))),y']
  | 0,i,y,_ => ⟨y,zbs⟩
  | j + 1,i,y,hj => by
    obtain ⟨y',ih⟩ := zlc x0 hm j (i + 1) (some (nD i)) (by omega)
    refine ⟨y',?_⟩
    rw [show i + (j + 1) = i + 1 + j by omega,← ih]
    refine zce (r1 := [x0,some (nD m),some (LT (alld m i)),some (nD i)]) rfl ?_
    have h1 := zgA hm i
    have h2 : 5 ^ i≤5 ^ 3 := Nat.pow_le_pow_right (by decide) (by omega)
    have h3 : (alld m i).length * m≤125 * 5 := Nat.mul_le_mul (Nat.le_trans h1 h2) hm
    exact zae (zar (zal (zad (d := LT (alld m i)) rfl (zad (d := nD m) rfl zai)) (ziZ hm (fun r hr => by have := (zel.mp hr).1; omega) (by omega))))
theorem zlC {n m : Nat} (hn : n≤4) (hm : m≤5) : zaV [nD n,nD m] = .ok (LT (alld m n)) := by
  obtain ⟨y,h⟩ := zlc (some (nD n)) hm n 0 none (by omega)
  rw [Nat.zero_add,← List.range_eq_range'] at h
  refine zaF (B := zaX) (n := 4) ?_
  unfold zaX
  refine (zae (zar (d := LT [[]]) (zcN (zad (zfS zai (by simp)) zai) (by simp)))).trans ?_
  refine (zae ((za2 (ds := (List.range n).map nD) (zdc (zad (d := nD n) rfl zai) (zeh (by omega)))).trans h)).trans ?_
  exact zan (zay (d := LT (alld m n)) rfl)
section
variable {rows : List (List Nat)} {n m : Nat}
noncomputable def zjh (rows : List (List Nat)) (ot dl : List Nat) (h : Nat) : Bool := decide (Rg.lk (Wr rows) h (dOf dl h) (dOf ot h))
noncomputable def betB (rows : List (List Nat)) (n : Nat) (ot dl : List Nat) : Bool := !(List.range n).any (zjh rows ot dl) && !decide (ot = dl)
theorem zky {ot dl : List Nat} (D : Dl rows dl n m) (D2 : Dl rows ot n m) : ∀ (l : List Nat) (y : Option DL.D),(∀ h∈l,h < n) →
    (if l.any (zjh rows ot dl) then forF (ftN 3) zaI (l.map nD) [some (WD rows),some (TN ot),some (TN dl),y] = .rt (.bl false)
    else ∃ y',forF (ftN 3) zaI (l.map nD) [some (WD rows),some (TN ot),some (TN dl),y] = .nx [some (WD rows),some (TN ot),some (TN dl),y'])
  | [],y,_ => by rw [if_neg (by simp)]; exact ⟨y,zbs⟩
  | h::l,y,hl => by
    have hh := hl h List.mem_cons_self
    have c := zal (dds := []) (zad (f := gv 0) (r := [some (WD rows),some (TN ot),some (TN dl),some (nD h)]) (d := WD rows) rfl (zad (f := gv 3) (d := nD h) rfl (zad (zaj (f := gv 2) (f' := gv 3) (a := TN dl) (b := nD h) rfl rfl (D.at hh)) (zad (zaj (f := gv 1) (f' := gv 3) (a := TN ot) (b := nD h) rfl rfl (D2.at hh)) zai)))) (zfQ D hh (D.dlt hh) (D2.dlt hh))
    rw [List.any_cons]
    by_cases w : Rg.lk (Wr rows) h (dOf dl h) (dOf ot h)
    · rw [if_pos (by simp [zjh,w])]
      rw [decide_eq_true w] at c
      refine ziy (r1 := [some (WD rows),some (TN ot),some (TN dl),some (nD h)]) rfl ?_
      exact zan ((if_t (za1 c rfl)).trans (zan (zay (d := .bl false) rfl)))
    · have e : zjh rows ot dl h = false := decide_eq_false w
      rw [e,Bool.false_or]
      rw [decide_eq_false w] at c
      have ih := zky D D2 l (some (nD h)) fun x hx => hl x (List.mem_cons_of_mem _ hx)
      have st : forF (ftN 3) zaI ((h::l).map nD) [some (WD rows),some (TN ot),some (TN dl),y] = forF (ftN 3) zaI (l.map nD) [some (WD rows),some (TN ot),some (TN dl),some (nD h)] :=
        zce (r1 := [some (WD rows),some (TN ot),some (TN dl),some (nD h)]) rfl (zae ((if_f (za1 c rfl)).trans (e_skip _)))
      rw [st]; exact ih
theorem zgb {ot dl : List Nat} (D : Dl rows dl n m) (D2 : Dl rows ot n m) : zbq [WD rows,TN ot,TN dl] = .ok (.bl (betB rows n ot dl)) := by
  have hl := zky D D2 (List.range n) none fun h hh => List.mem_range.mp hh
  refine zaF (B := zbr) (n := 4) ?_
  unfold zbr betB
  have hr : fRng rng1 (zab (fC (zab (gv 0) lNil) lenD) lNil) [some (WD rows),some (TN ot),some (TN dl),none] = .ok ((List.range n).map nD) := zdc (zad (zbz (zad (d := WD rows) rfl zai) D.R.len) zai) (zeh (by have := D.R.n7; omega))
  by_cases w : (List.range n).any (zjh rows ot dl) = true
  · rw [if_pos w] at hl
    rw [w]
    exact zan ((za2 hr).trans hl)
  · rw [if_neg w] at hl
    obtain ⟨y',hl⟩ := hl
    rw [Bool.eq_false_iff.mpr w]
    refine (zae ((za2 hr).trans hl)).trans ?_
    exact zan (zay (zaj (a := TN ot) (b := TN dl) rfl rfl (zpo ot dl)))
end
end Law
end
section
namespace Law
open PySem PyProof.Rows L2 DL
noncomputable def owD : Option Wy→DL.D
  | some w => wyD w
  | none => .non
theorem zmN (a b : Bool) : neD (.bl a) (.bl b) = some (.bl (!(a == b))) := by
  unfold neD
  rw [zgo rfl]
  cases a <;> cases b <;> rfl
theorem zkK {α : Type} (e : α→DL.D) (l : List α) (h : ∀ x∈l,Shp 59 (e x)) : eqB (.lst (l.map e)) (.lst []) = some l.isEmpty := by
  rw [zgp rfl (zd1.mpr fun x hx => by obtain ⟨w,h1,rfl⟩ := List.mem_map.mp hx; exact h w h1) (zd1.mpr (by simp))]
  unfold eqb
  cases l with
  | nil => simp [toPy,zcR,PyData.eqv,PyData.eqvAll]
  | cons w ws => simp [toPy,zcR,PyData.eqv,PyData.eqvAll]
theorem shpT (l : List Nat) (k : Nat) : Shp (k + 1) (TN l) := zfb.mpr zls
theorem shpL (l : List Nat) (k : Nat) : Shp (k + 1) (LN l) := zd1.mpr zls
theorem zqV {r : List Nat} {l : List (List Nat)} : inE (TN r) (LT l) = some (.bl (decide (r∈l))) := by
  unfold inE
  simp only
  rw [if_pos ⟨shpT r 59,zd1.mpr fun x hx => by obtain ⟨w,_,rfl⟩ := List.mem_map.mp hx; exact shpT w 58⟩,List.any_map]
  congr 2
  rw [Bool.eq_iff_iff,List.any_eq_true,decide_eq_true_iff]
  have e : ∀ x : List Nat,eqb (TN x) (TN r) = decide (x = r) := fun x => by
    have := ziC x r
    rw [zgp rfl (shpT x 59) (shpT r 59)] at this
    exact Option.some.inj this
  constructor
  · rintro ⟨x,h1,h2⟩
    have : decide (x = r) = true := by rw [← e x]; exact h2
    rw [← of_decide_eq_true this]; exact h1
  · intro h
    exact ⟨r,h,by show eqb (TN r) (TN r) = true; rw [e r]; exact decide_eq_true rfl⟩
section
variable {rows : List (List Nat)} {n m : Nat} {dl ot : List Nat}
theorem zk9 (R : Rws rows n m) (h : ot∈alld m n) : Dl rows ot n m := by
  obtain ⟨a,b,c⟩ := zel.mp h
  exact ⟨R,a,b,c⟩
theorem zn6 (D : Dl rows dl n m) : dl∈alld m n := zel.mpr ⟨D.dn,D.nd,D.lt⟩
theorem idx_inj {l : List Nat} {x y : Nat} (hx : x∈l) (hy : y∈l) (e : l.idxOf x = l.idxOf y) : x = y := by
  have h1 := List.getElem_idxOf (List.idxOf_lt_length_of_mem hx)
  have h2 := List.getElem_idxOf (List.idxOf_lt_length_of_mem hy)
  rw [← h1,← h2]
  simp only [e]
theorem zj2 (D : Dl rows dl n m) (D2 : Dl rows ot n m) (h1 : ∀ h,h < n→∀ x,x < m→x∉dl→¬ Rg.lk (Wr rows) h x (dOf dl h)) (h2 : ∀ C : List Nat,C≠[]→(∀ h∈C,h < n)→¬ ∀ h∈C,∃ l∈C,Rg.lk (Wr rows) h (dOf dl l) (dOf dl h)) : betB rows n ot dl = false := by
  rw [Bool.eq_false_iff]
  intro hb
  unfold betB at hb
  rw [Bool.and_eq_true] at hb
  obtain ⟨b1,b2⟩ := hb
  have nw : ∀ h,h < n→¬ Rg.lk (Wr rows) h (dOf dl h) (dOf ot h) := fun h hh z => by
    have : (List.range n).any (zjh rows ot dl) = true := List.any_eq_true.mpr ⟨h,List.mem_range.mpr hh,decide_eq_true z⟩
    rw [this] at b1; cases b1
  have hne : ot≠dl := by simpa using b2
  have up : ∀ h,h < n→dOf ot h≠dOf dl h→Rg.lk (Wr rows) h (dOf ot h) (dOf dl h) := fun h hh z => by
    have a := nw h hh
    unfold Rg.lk at a ⊢
    have b : (Wr rows h).idxOf (dOf ot h)≠(Wr rows h).idxOf (dOf dl h) := fun q => z (idx_inj (D.R.has hh (D2.dlt hh)) (D.R.has hh (D.dlt hh)) q)
    omega
  refine h2 ((List.range n).filter fun h => decide (dOf ot h≠dOf dl h)) (fun z => hne ?_) (fun h hh => List.mem_range.mp (List.mem_filter.mp hh).1) fun h hh => ?_
  · rw [← ziE D.dn,← ziE D2.dn]
    refine List.map_congr_left fun h hh => ?_
    have := List.filter_eq_nil_iff.mp z h hh
    simpa using this
  · obtain ⟨a,b⟩ := List.mem_filter.mp hh
    have hh := List.mem_range.mp a
    have b := of_decide_eq_true b
    have hu := up h hh b
    by_cases q : dOf ot h∈dl
    · obtain ⟨l,l1,l2⟩ := zkT q
      rw [D.dn] at l1
      refine ⟨l,List.mem_filter.mpr ⟨List.mem_range.mpr l1,decide_eq_true fun z => b ?_⟩,by rw [l2]; exact hu⟩
      have : l = h := zeA D2.nd (by rw [D2.dn]; exact l1) (by rw [D2.dn]; exact hh) (by rw [z,l2])
      rw [← this]; exact z
    · exact absurd hu (h1 h hh _ (D2.dlt hh) q)
theorem zhU (D : Dl rows dl n m) {w : Wy} (g : Good rows dl n m w) : betB rows n (w.by dl) dl = true := by
  have hz := g.zip D
  have hl := zfK (dl := dl) g.ne
  have hps : ∀ p∈w.hands.zip (w.things dl),p.1 < dl.length := fun p hp => by rw [D.dn]; exact (hz p hp).1
  have hfst := zeM hl
  have hnd : ((w.hands.zip (w.things dl)).map (·.1)).Nodup := by rw [hfst]; exact g.nd
  have hin := zh2 (w.hands.zip (w.things dl)) dl hps hnd
  have hout : ∀ h,h∉w.hands→dOf (w.by dl) h = dOf dl h := fun h hh => ze4 _ _ hps (by rw [hfst]; exact hh)
  unfold betB
  rw [Bool.and_eq_true]
  constructor
  · rw [Bool.not_eq_true',Bool.eq_false_iff]
    intro z
    obtain ⟨h,_,h2⟩ := List.any_eq_true.mp z
    have h2 : Rg.lk (Wr rows) h (dOf dl h) (dOf (w.by dl) h) := of_decide_eq_true h2
    by_cases q : h∈w.hands
    · have : h∈(w.hands.zip (w.things dl)).map (·.1) := by rw [hfst]; exact q
      obtain ⟨p,p1,p2⟩ := List.mem_map.mp this
      have p2 : p.1 = h := p2
      have e : dOf (w.by dl) p.1 = p.2 := hin p p1
      have k := (hz p p1).2.2
      rw [p2] at e k
      rw [e] at h2
      unfold Rg.lk at h2 k; omega
    · rw [hout h q] at h2
      unfold Rg.lk at h2; omega
  · rw [Bool.not_eq_true',decide_eq_false_iff_not]
    intro e
    have := (g.next D).2
    rw [e] at this; omega
theorem zm9 (D : Dl rows dl n m) (hb : Rg.beh (Wr rows) (dOf dl) 64 (List.range n) (List.range m) [] = none) {o : List Nat} (p1 : o.Perm (List.range n)) : (List.range n).map (Rg.serD (Wr rows) o (List.range m))≠dl := fun p2 => by
  have hn7 := D.R.n7
  have hnm := D.R.nm
  have hnd : o.Nodup := p1.nodup_iff.mpr List.nodup_range
  have hlt : ∀ h∈o,h < n := fun h hh => List.mem_range.mp (p1.mem_iff.mp hh)
  have hs := Rg.zoB (W := Wr rows) o (List.range m) hnd
  have hrow : ∀ h∈o,∀ x∈List.range m,x∈Wr rows h := fun h hh x hx => D.R.has (hlt h hh) (List.mem_range.mp hx)
  have hlen : o.length = n := by rw [p1.length_eq]; simp
  obtain ⟨m1,m2⟩ := Rg.znc hs List.nodup_range (by rw [hlen]; simp; omega) hrow
  have e : ∀ h∈o,Rg.serD (Wr rows) o (List.range m) h = dOf dl h := fun h hh => by
    rw [← p2]
    unfold dOf
    rw [List.getD_eq_getElem?_getD,List.getElem?_map,List.getElem?_range (hlt h hh)]; rfl
  exact Rg.zmo (o := o) p1 (Rg.zgO e hs) List.nodup_range hnd (fun h hh => by rw [← e h hh]; exact m1 h hh) (fun h hh l hl q => m2 h hh l hl hnd (by rw [e h hh,e l hl]; exact q)) hrow (by simp; omega) hb
theorem zig {W : Nat→List Nat} {d : Nat→Nat} : ∀ {o T : List Nat},Rg.Ser W d o T→∀ h∈o,Rg.serD W o T h = d h
  | [],_,_,_,h => (nomatch h)
  | a::o,T,s,h,hh => by
    unfold Rg.serD
    by_cases e : h = a
    · rw [if_pos e,s.1,e]
    · rw [if_neg e,s.1]
      exact zig s.2 h ((List.mem_cons.mp hh).resolve_left e)
theorem zlu (D : Dl rows dl n m) {o : List Nat} (hb : Rg.beh (Wr rows) (dOf dl) 64 (List.range n) (List.range m) [] = some o) : o.Perm (List.range n)∧(List.range n).map (Rg.serD (Wr rows) o (List.range m)) = dl := by
  obtain ⟨o',e1,e2,e3⟩ := Rg.zoc hb
  rw [List.nil_append] at e1
  subst e1
  refine ⟨e2,Eq.trans (List.map_congr_left fun h hh => zig e3 h (e2.mem_iff.mpr hh)) (ziE D.dn)⟩
theorem zqP (ns : List Int) : zoe [IN ns] = .ok (.bl true) := by
  obtain ⟨c1,h1⟩ := zgc ns 1 (by decide)
  obtain ⟨c11,h11⟩ := zgc ns 11 (by decide)
  have hn : c1 % 4 < 4 := Nat.mod_lt _ (by decide)
  have hm : c1 / 4 % (6 - (1 + c1 % 4)) < 6 - (1 + c1 % 4) := Nat.mod_lt _ (by omega)
  obtain ⟨rows,r1,r2,r3⟩ := ziW ns 4 (1 + c1 % 4) (1 + c1 % 4 + c1 / 4 % (6 - (1 + c1 % 4))) (by omega) (by omega) (by omega)
  have hsub : subI (.int 6) (nD (1 + c1 % 4)) = some (nD (6 - (1 + c1 % 4))) := by
    have e : (6 : Int) - ((1 + c1 % 4 : Nat) : Int) = ((6 - (1 + c1 % 4) : Nat) : Int) := by omega
    show some (DL.D.int ((6 : Int) - ((1 + c1 % 4 : Nat) : Int))) = some (DL.D.int _)
    rw [e]
  have hn4 : 1 + c1 % 4≤4 := by omega
  have hn1 : 1≤1 + c1 % 4 := by omega
  generalize en : 1 + c1 % 4 = n at r1 r2 r3 hm hsub hn4 hn1
  have hm5 : n + c1 / 4 % (6 - n)≤5 := by omega
  have hmn : n≤n + c1 / 4 % (6 - n) := by omega
  generalize em : n + c1 / 4 % (6 - n) = m at r2 r3 hm5 hmn
  have R : Rws rows n m := ⟨by omega,by omega,by omega,by omega,r1,r2⟩
  obtain ⟨row,p1,p2⟩ := zjz c11 m (by omega)
  have hrl : row.length = m := by rw [p1.length_eq]; simp
  have hd0 : (row.take n).length = n := by rw [List.length_take]; omega
  have D : Dl rows (row.take n) n m := ⟨R,hd0,(p1.nodup_iff.mpr List.nodup_range).sublist (List.take_sublist _ _),fun x hx => List.mem_range.mp (p1.mem_iff.mp (List.mem_of_mem_take hx))⟩
  have hslice := zie row n
  generalize row.take n = dl at D hslice hd0
  obtain ⟨o,o1,o2,o3⟩ := zfE D
  have o3 : zca [WD rows,TN dl] = .ok (owD o) := by rw [o3]; cases o <;> rfl
  have hb := zeW R D.dn
  obtain ⟨rs,q1,q2,q3⟩ := zne (k := n) hn4
  have hlen : (alld m n).length≤625 := Nat.le_trans (zgA hm5 n) (Nat.pow_le_pow_right (by decide) hn4)
  refine zaF (B := zmu) (n := 10) ?_
  unfold zmu
  refine (zae (zar (zal (zad (d := IN ns) rfl (zad (d := nD 1) rfl zai)) h1))).trans ?_
  refine (zae (zar (d := nD n) (zaj (a := nD 1) (b := nD (c1 % 4)) rfl (zaj (a := nD c1) (b := nD 4) rfl rfl (zj7 (by decide))) (by rw [zfZ,en])))).trans ?_
  refine (zae (zar (d := nD m) (zaj (a := nD n) (b := nD (c1 / 4 % (6 - n))) rfl (zaj (a := nD (c1 / 4)) (b := nD (6 - n)) (zaj (a := nD c1) (b := nD 4) rfl rfl (zkF (by decide) (by decide))) (zaj (a := .int 6) (b := nD n) rfl rfl hsub) (zj7 (by omega))) (by rw [zfZ,em])))).trans ?_
  refine (zae (zar (zal (zad (d := IN ns) rfl (zad (d := nD 4) rfl (zad (d := nD n) rfl (zad (d := nD m) rfl zai)))) r3))).trans ?_
  refine (zae (zar (d := TN dl) (zfa (zal (zad (zal (zad (d := IN ns) rfl (zad (d := nD 11) rfl zai)) h11) (zad (d := nD m) rfl zai)) p2) rfl (zd2 (i := (n : Int)) rfl) hslice))).trans ?_
  refine (zae (zar (zcx (l := alld m n) TN (fun ot => betB rows n ot dl) TN (zfN (d := LT (alld m n)) (zal (zad (d := nD n) rfl (zad (d := nD m) rfl zai)) (zlC hn4 hm5)) rfl) (by omega) fun ot hot => ⟨[some (TN ot),some (WD rows),some (TN dl)],rfl,za1 (zal (zad (d := WD rows) rfl (zad (d := TN ot) rfl (zad (d := TN dl) rfl zai))) (zgb D (zk9 R hot))) (by cases betB rows n ot dl <;> rfl),fun _ => rfl⟩))).trans ?_
  refine (zae (zar (zcx (l := rs) LN (fun od => decide ((List.range n).map (Rg.serD (Wr rows) od (List.range m)) = dl)) LN (zfN (d := LL rs) (zal (zad (d := nD n) rfl zai) q3) rfl) (by omega) fun od hod => ⟨[some (LN od),some (TN dl),some (WD rows)],rfl,zas (zaj (b := TN dl) (zal (zad (d := WD rows) rfl (zad (d := LN od) rfl zai)) (zdr R ((q1 od).mp hod))) rfl (zp1 _ _)),fun _ => rfl⟩))).trans ?_
  refine (zae (zar (zal (zad (d := WD rows) rfl (zad (d := TN dl) rfl zai)) o3))).trans ?_
  refine (zae (zar (zal (zad (d := WD rows) rfl (zad (d := TN dl) rfl zai)) hb))).trans ?_
  generalize eB : (alld m n).filter (fun ot => betB rows n ot dl) = better
  generalize eS : rs.filter (fun od => decide ((List.range n).map (Rg.serD (Wr rows) od (List.range m)) = dl)) = some'
  have z6 : ∀ s : Rho,s[6]? = some (some (LT better))→(f2 (gv 6) (mkL lNil) eqD) s = .ok (.bl better.isEmpty) := fun s hs => by
    refine zaj (a := LT better) (b := .lst []) (by show getV s 6 = _; unfold getV; rw [hs]) (zcN zai (by simp)) ?_
    unfold eqD
    rw [zkK TN better fun x _ => shpT x 58]; rfl
  have z7 : ∀ s : Rho,s[7]? = some (some (LL some'))→(f2 (gv 7) (mkL lNil) neD) s = .ok (.bl !some'.isEmpty) := fun s hs => by
    refine zaj (a := LL some') (b := .lst []) (by show getV s 7 = _; unfold getV; rw [hs]) (zcN zai (by simp)) ?_
    unfold neD
    rw [zkK LN some' fun x _ => shpL x 58]; rfl
  cases eb : Rg.beh (Wr rows) (dOf dl) 64 (List.range n) (List.range m) [] with
  | some od =>
    rw [eb] at hb
    have ho : o = none := by
      cases o with
      | none => rfl
      | some w => exact absurd eb (by rw [zmp D (o1 w rfl)]; simp)
    subst ho
    obtain ⟨a1,a2⟩ := o2 rfl
    obtain ⟨s1,s2⟩ := zlu D eb
    have e1 : better = [] := by
      rw [← eB]
      refine List.filter_eq_nil_iff.mpr fun ot hot => ?_
      rw [zj2 D (zk9 R hot) a1 a2]; simp
    have e2 : some'.isEmpty = false := by
      have : od∈some' := by rw [← eS]; exact List.mem_filter.mpr ⟨(q1 od).mpr s1,decide_eq_true s2⟩
      cases some' with
      | nil => cases this
      | cons => rfl
    subst e1
    refine (zae ((if_f (zas (zaj (z6 _ rfl) (z7 _ rfl) (by rw [zmN,e2]; rfl)))).trans (e_skip _))).trans ?_
    refine zan ((if_t (zas (z6 _ rfl))).trans (zan (zay ?_)))
    refine (zh7 (zaj (a := .non) (b := .non) rfl rfl rfl)).trans ?_
    refine (zh7 (zhX (a := LN od) (d := .bl true) rfl rfl)).trans ?_
    refine zaj (b := TN dl) (zal (zad (d := WD rows) rfl (zad (d := LN od) rfl zai)) (zdr R s1)) rfl ?_
    rw [s2]; exact zq4 dl
  | none =>
    rw [eb] at hb
    cases o with
    | none => obtain ⟨a1,a2⟩ := o2 rfl; exact absurd eb (zk6 D a1 a2)
    | some w =>
      have g := o1 w rfl
      have gl : w.hands.length≤60 := by have := g.len; omega
      have hin : w.by dl∈better := by rw [← eB]; exact List.mem_filter.mpr ⟨zn6 (g.next D).1,zhU D g⟩
      have e1 : better.isEmpty = false := by
        cases better with
        | nil => cases hin
        | cons => rfl
      have e2 : some' = [] := by
        rw [← eS]
        refine List.filter_eq_nil_iff.mpr fun od hod => ?_
        rw [decide_eq_false (zm9 D eb ((q1 od).mp hod))]; simp
      subst e2
      have z6' := fun s hs => (z6 s hs).trans (by rw [e1])
      refine (zae ((if_f (zas (zaj (z6' _ rfl) (z7 _ rfl) (by rw [zmN]; rfl)))).trans (e_skip _))).trans ?_
      refine (zae ((if_f (zas (z6' _ rfl))).trans (e_skip _))).trans ?_
      refine (zae ((if_f ?_).trans (e_skip _))).trans ?_
      · refine (or_f (zas (zaj (a := .non) (b := .non) rfl rfl rfl))).trans ?_
        exact zdX (b := true) (za1 (zal (zad (d := WD rows) rfl (zad (d := TN dl) rfl (zad (d := wyD w) rfl zai))) (zlA D g)) rfl)
      refine zan (zay (zaj (b := LT better) (zal (zad (d := WD rows) rfl (zad (d := TN dl) rfl (zad (d := wyD w) rfl zai))) (zgT D g.ne g.lt gl)) rfl ?_))
      rw [zqV,decide_eq_true hin]
end
theorem main (ns : List Int) (_ : ns.length≤63) : zoe [.lst (ns.map .int)] = .ok (.bl true) := zqP ns
end Law
end
open PySem PySem.W PyProof.Rows
set_option maxRecDepth 100000 in
set_option maxHeartbeats 0 in
theorem PySem.Challenge.cw_ringtrade_k21_whole_order_or_betterment_holds : PySem.Challenge.rw_ringtrade_k21_whole_order_or_betterment.Holds := by
  w_on; o_law; k_head; (case hw => w_witness2)
  k_fill
  refine DL.zrg (l := PySem.Challenge.rw_ringtrade_k21_whole_order_or_betterment) (k := 6) (x := "_law_script") (F := Law.zoe) rfl rfl ⟨rfl,by decide,by decide⟩ (fun w h Y => PySem.W.kIn_of Y) Law.main ?C
  intro w mg fa h KX G hmg
  have T : Law.Txt (L2.KOf KX) mg := by
    dsimp only [L2.KOf]
    refine ⟨?b_len,?b_range,?b_tuple,?b_enumerate,?b_list,?b_zip,?b_sorted,?b_isinstance,?b_bool,?b_int,?b_all,?b_set⟩
    case b_len => (refine' PySem.W.mg_none_of KX G ?z_b_len; k_is)
    case b_range => (refine' PySem.W.mg_none_of KX G ?z_b_range; k_is)
    case b_tuple => (refine' PySem.W.mg_none_of KX G ?z_b_tuple; k_is)
    case b_enumerate => (refine' PySem.W.mg_none_of KX G ?z_b_enumerate; k_is)
    case b_list => (refine' PySem.W.mg_none_of KX G ?z_b_list; k_is)
    case b_zip => (refine' PySem.W.mg_none_of KX G ?z_b_zip; k_is)
    case b_sorted => (refine' PySem.W.mg_none_of KX G ?z_b_sorted; k_is)
    case b_isinstance => (refine' PySem.W.mg_none_of KX G ?z_b_isinstance; k_is)
    case b_bool => (refine' PySem.W.mg_none_of KX G ?z_b_bool; k_is)
    case b_int => (refine' PySem.W.mg_none_of KX G ?z_b_int; k_is)
    case b_all => (refine' PySem.W.mg_none_of KX G ?z_b_all; k_is)
    case b_set => (refine' PySem.W.mg_none_of KX G ?z_b_set; k_is)
  have A__law_cell : DL.DefAt (L2.KOf KX) mg "_law_cell" Law.zeG := by
    dsimp only [L2.KOf]
    refine' DL.zrf KX G ?a ?l ?c ?k
    (case a => k_is)
    (case l => k_is)
    (case c => k_is)
    (case k => k_is)
  have A__law_row : DL.DefAt (L2.KOf KX) mg "_law_row" Law.ze8 := by
    dsimp only [L2.KOf]
    refine' DL.zrf KX G ?a ?l ?c ?k
    (case a => k_is)
    (case l => k_is)
    (case c => k_is)
    (case k => k_is)
  have A__law_wishes : DL.DefAt (L2.KOf KX) mg "_law_wishes" Law.zbP := by
    dsimp only [L2.KOf]
    refine' DL.zrf KX G ?a ?l ?c ?k
    (case a => k_is)
    (case l => k_is)
    (case c => k_is)
    (case k => k_is)
  have A_likes : DL.DefAt (L2.KOf KX) mg "likes" Law.zic := by
    dsimp only [L2.KOf]
    refine' DL.zrf KX G ?a ?l ?c ?k
    (case a => k_is)
    (case l => k_is)
    (case c => k_is)
    (case k => k_is)
  have A_things_in : DL.DefAt (L2.KOf KX) mg "things_in" Law.zeF := by
    dsimp only [L2.KOf]
    refine' DL.zrf KX G ?a ?l ?c ?k
    (case a => k_is)
    (case l => k_is)
    (case c => k_is)
    (case k => k_is)
  have A_line_for : DL.DefAt (L2.KOf KX) mg "line_for" Law.zc5 := by
    dsimp only [L2.KOf]
    refine' DL.zrf KX G ?a ?l ?c ?k
    (case a => k_is)
    (case l => k_is)
    (case c => k_is)
    (case k => k_is)
  have A_steps_within : DL.DefAt (L2.KOf KX) mg "steps_within" Law.zbB := by
    dsimp only [L2.KOf]
    refine' DL.zrf KX G ?a ?l ?c ?k
    (case a => k_is)
    (case l => k_is)
    (case c => k_is)
    (case k => k_is)
  have A_places_that_go_on : DL.DefAt (L2.KOf KX) mg "places_that_go_on" Law.zaK := by
    dsimp only [L2.KOf]
    refine' DL.zrf KX G ?a ?l ?c ?k
    (case a => k_is)
    (case l => k_is)
    (case c => k_is)
    (case k => k_is)
  have A_ring_of_steps : DL.DefAt (L2.KOf KX) mg "ring_of_steps" Law.zdo := by
    dsimp only [L2.KOf]
    refine' DL.zrf KX G ?a ?l ?c ?k
    (case a => k_is)
    (case l => k_is)
    (case c => k_is)
    (case k => k_is)
  have A_hands_envied : DL.DefAt (L2.KOf KX) mg "hands_envied" Law.zbD := by
    dsimp only [L2.KOf]
    refine' DL.zrf KX G ?a ?l ?c ?k
    (case a => k_is)
    (case l => k_is)
    (case c => k_is)
    (case k => k_is)
  have A_ring_for : DL.DefAt (L2.KOf KX) mg "ring_for" Law.ze6 := by
    dsimp only [L2.KOf]
    refine' DL.zrf KX G ?a ?l ?c ?k
    (case a => k_is)
    (case l => k_is)
    (case c => k_is)
    (case k => k_is)
  have A_betterment : DL.DefAt (L2.KOf KX) mg "betterment" Law.zed := by
    dsimp only [L2.KOf]
    refine' DL.zrf KX G ?a ?l ?c ?k
    (case a => k_is)
    (case l => k_is)
    (case c => k_is)
    (case k => k_is)
  have A_best_left : DL.DefAt (L2.KOf KX) mg "best_left" Law.zcJ := by
    dsimp only [L2.KOf]
    refine' DL.zrf KX G ?a ?l ?c ?k
    (case a => k_is)
    (case l => k_is)
    (case c => k_is)
    (case k => k_is)
  have A_order_behind : DL.DefAt (L2.KOf KX) mg "order_behind" Law.zbC := by
    dsimp only [L2.KOf]
    refine' DL.zrf KX G ?a ?l ?c ?k
    (case a => k_is)
    (case l => k_is)
    (case c => k_is)
    (case k => k_is)
  have A_ones_behind : DL.DefAt (L2.KOf KX) mg "ones_behind" Law.zdQ := by
    dsimp only [L2.KOf]
    refine' DL.zrf KX G ?a ?l ?c ?k
    (case a => k_is)
    (case l => k_is)
    (case c => k_is)
    (case k => k_is)
  have A_things_along : DL.DefAt (L2.KOf KX) mg "things_along" Law.zbA := by
    dsimp only [L2.KOf]
    refine' DL.zrf KX G ?a ?l ?c ?k
    (case a => k_is)
    (case l => k_is)
    (case c => k_is)
    (case k => k_is)
  have A_bettered : DL.DefAt (L2.KOf KX) mg "bettered" Law.ze7 := by
    dsimp only [L2.KOf]
    refine' DL.zrf KX G ?a ?l ?c ?k
    (case a => k_is)
    (case l => k_is)
    (case c => k_is)
    (case k => k_is)
  have A__law_longer : DL.DefAt (L2.KOf KX) mg "_law_longer" Law.zdR := by
    dsimp only [L2.KOf]
    refine' DL.zrf KX G ?a ?l ?c ?k
    (case a => k_is)
    (case l => k_is)
    (case c => k_is)
    (case k => k_is)
  have A__law_all_dealings : DL.DefAt (L2.KOf KX) mg "_law_all_dealings" Law.zcd := by
    dsimp only [L2.KOf]
    refine' DL.zrf KX G ?a ?l ?c ?k
    (case a => k_is)
    (case l => k_is)
    (case c => k_is)
    (case k => k_is)
  have A__law_likes : DL.DefAt (L2.KOf KX) mg "_law_likes" Law.zee := by
    dsimp only [L2.KOf]
    refine' DL.zrf KX G ?a ?l ?c ?k
    (case a => k_is)
    (case l => k_is)
    (case c => k_is)
    (case k => k_is)
  have A__law_is_better : DL.DefAt (L2.KOf KX) mg "_law_is_better" Law.zcW := by
    dsimp only [L2.KOf]
    refine' DL.zrf KX G ?a ?l ?c ?k
    (case a => k_is)
    (case l => k_is)
    (case c => k_is)
    (case k => k_is)
  have A__law_all_orders : DL.DefAt (L2.KOf KX) mg "_law_all_orders" Law.zcK := by
    dsimp only [L2.KOf]
    refine' DL.zrf KX G ?a ?l ?c ?k
    (case a => k_is)
    (case l => k_is)
    (case c => k_is)
    (case k => k_is)
  have A__law_things_got : DL.DefAt (L2.KOf KX) mg "_law_things_got" Law.za3 := by
    dsimp only [L2.KOf]
    refine' DL.zrf KX G ?a ?l ?c ?k
    (case a => k_is)
    (case l => k_is)
    (case c => k_is)
    (case k => k_is)
  have A__law_is_whole : DL.DefAt (L2.KOf KX) mg "_law_is_whole" Law.zdp := by
    dsimp only [L2.KOf]
    refine' DL.zrf KX G ?a ?l ?c ?k
    (case a => k_is)
    (case l => k_is)
    (case c => k_is)
    (case k => k_is)
  have A__law_is_way : DL.DefAt (L2.KOf KX) mg "_law_is_way" Law.zbQ := by
    dsimp only [L2.KOf]
    refine' DL.zrf KX G ?a ?l ?c ?k
    (case a => k_is)
    (case l => k_is)
    (case c => k_is)
    (case k => k_is)
  have A__law_best : DL.DefAt (L2.KOf KX) mg "_law_best" Law.zeH := by
    dsimp only [L2.KOf]
    refine' DL.zrf KX G ?a ?l ?c ?k
    (case a => k_is)
    (case l => k_is)
    (case c => k_is)
    (case k => k_is)
  have A__law_order_dealt : DL.DefAt (L2.KOf KX) mg "_law_order_dealt" Law.zaQ := by
    dsimp only [L2.KOf]
    refine' DL.zrf KX G ?a ?l ?c ?k
    (case a => k_is)
    (case l => k_is)
    (case c => k_is)
    (case k => k_is)
  have A_law : DL.DefAt (L2.KOf KX) mg "law" Law.zfL := by
    dsimp only [L2.KOf]
    refine' DL.zrf KX G ?a ?l ?c ?k
    (case a => k_is)
    (case l => k_is)
    (case c => k_is)
    (case k => k_is)
  refine DL.zre hmg A_law (fun _ _ _ _ _ _ us hl => match us,hl with | [_],_ => rfl) fun f fd Fn base => ?_
  have C__law_cell := Law.zmJ (P := PySem.Challenge.rw_ringtrade_k21_whole_order_or_betterment.prog) (w := w) (base := base) T A__law_cell
  have C__law_row := Law.znG (P := PySem.Challenge.rw_ringtrade_k21_whole_order_or_betterment.prog) (w := w) (base := base) T A__law_row
  have C__law_wishes := Law.zli (P := PySem.Challenge.rw_ringtrade_k21_whole_order_or_betterment.prog) (w := w) (base := base) T A__law_wishes C__law_cell C__law_row
  have C_likes := Law.zqg (P := PySem.Challenge.rw_ringtrade_k21_whole_order_or_betterment.prog) (w := w) (base := base) T A_likes
  have C_things_in := Law.zmH (P := PySem.Challenge.rw_ringtrade_k21_whole_order_or_betterment.prog) (w := w) (base := base) T A_things_in
  have C_line_for := Law.znE (P := PySem.Challenge.rw_ringtrade_k21_whole_order_or_betterment.prog) (w := w) (base := base) T A_line_for C_things_in C_likes
  have C_steps_within := Law.zjW (P := PySem.Challenge.rw_ringtrade_k21_whole_order_or_betterment.prog) (w := w) (base := base) T A_steps_within
  have C_places_that_go_on := Law.zhx (P := PySem.Challenge.rw_ringtrade_k21_whole_order_or_betterment.prog) (w := w) (base := base) T A_places_that_go_on C_steps_within
  have C_ring_of_steps := Law.zjj (P := PySem.Challenge.rw_ringtrade_k21_whole_order_or_betterment.prog) (w := w) (base := base) T A_ring_of_steps C_places_that_go_on C_steps_within
  have C_hands_envied := Law.zjY (P := PySem.Challenge.rw_ringtrade_k21_whole_order_or_betterment.prog) (w := w) (base := base) T A_hands_envied C_likes
  have C_ring_for := Law.znD (P := PySem.Challenge.rw_ringtrade_k21_whole_order_or_betterment.prog) (w := w) (base := base) T A_ring_for C_hands_envied C_ring_of_steps
  have C_betterment := Law.zlS (P := PySem.Challenge.rw_ringtrade_k21_whole_order_or_betterment.prog) (w := w) (base := base) T A_betterment C_line_for C_ring_for
  have C_best_left := Law.zmI (P := PySem.Challenge.rw_ringtrade_k21_whole_order_or_betterment.prog) (w := w) (base := base) T A_best_left
  have C_order_behind := Law.zjX (P := PySem.Challenge.rw_ringtrade_k21_whole_order_or_betterment.prog) (w := w) (base := base) T A_order_behind C_things_in C_best_left
  have C_ones_behind := Law.zlh (P := PySem.Challenge.rw_ringtrade_k21_whole_order_or_betterment.prog) (w := w) (base := base) T A_ones_behind
  have C_things_along := Law.zjV (P := PySem.Challenge.rw_ringtrade_k21_whole_order_or_betterment.prog) (w := w) (base := base) T A_things_along C_ones_behind
  have C_bettered := Law.znF (P := PySem.Challenge.rw_ringtrade_k21_whole_order_or_betterment.prog) (w := w) (base := base) T A_bettered C_things_along
  have C__law_longer := Law.zlj (P := PySem.Challenge.rw_ringtrade_k21_whole_order_or_betterment.prog) (w := w) (base := base) T A__law_longer
  have C__law_all_dealings := Law.zhy (P := PySem.Challenge.rw_ringtrade_k21_whole_order_or_betterment.prog) (w := w) (base := base) T A__law_all_dealings C__law_longer
  have C__law_likes := Law.zlT (P := PySem.Challenge.rw_ringtrade_k21_whole_order_or_betterment.prog) (w := w) (base := base) T A__law_likes
  have C__law_is_better := Law.zi3 (P := PySem.Challenge.rw_ringtrade_k21_whole_order_or_betterment.prog) (w := w) (base := base) T A__law_is_better C__law_likes
  have C__law_all_orders := Law.zis (P := PySem.Challenge.rw_ringtrade_k21_whole_order_or_betterment.prog) (w := w) (base := base) T A__law_all_orders
  have C__law_things_got := Law.zir (P := PySem.Challenge.rw_ringtrade_k21_whole_order_or_betterment.prog) (w := w) (base := base) T A__law_things_got
  have C__law_is_whole := Law.zjk (P := PySem.Challenge.rw_ringtrade_k21_whole_order_or_betterment.prog) (w := w) (base := base) T A__law_is_whole
  have C__law_is_way := Law.zlk (P := PySem.Challenge.rw_ringtrade_k21_whole_order_or_betterment.prog) (w := w) (base := base) T A__law_is_way C__law_is_whole C__law_things_got C__law_likes
  have C__law_best := Law.zmK (P := PySem.Challenge.rw_ringtrade_k21_whole_order_or_betterment.prog) (w := w) (base := base) T A__law_best
  have C__law_order_dealt := Law.zhL (P := PySem.Challenge.rw_ringtrade_k21_whole_order_or_betterment.prog) (w := w) (base := base) T A__law_order_dealt C__law_best
  exact Law.zrd T Fn C__law_cell C__law_wishes C__law_row C__law_all_dealings C__law_is_better C__law_all_orders C__law_order_dealt C_betterment C_order_behind C__law_is_way C_bettered
