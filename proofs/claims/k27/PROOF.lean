import PyProof.Rows.All
import Wide.All
import OpenK.AllK
import Wide.FinOn
import Lean
import PyProof.EqAt
import PyProof.EqKinds
import PyProof.TupleCall
import PyProof.Rows.SetFrom
import KE.KSortTup
import PyProof.Draws
import PyProof.EnumMake
import PyProof.ListRange
import PyProof.Rows.EnumRows
import PyProof.SetRoads
import PyProof.Rows.MinMaxN
import PyProof.Rows.MaxTwoN
import KE.LcSums
import PySem.Challenge.RW_ringtrade_k27_eaten_by_the_log
set_option Elab.async false
set_option linter.all false
set_option maxRecDepth 100000
set_option maxHeartbeats 4000000
section
namespace L2
open PySem PySem.Spec PyProof.Rows
noncomputable abbrev Key := Sum Int Str
noncomputable def ziY : Key→Value→Bool
  | .inl k,v => Value.isInt k v
  | .inr x,v => Value.isStrOf x v
noncomputable def keyH (w : World) : Key→Int
  | .inl k => hashInt k
  | .inr x => hashStr w x
theorem keyIs_shape : ∀ {k : Key} {v : Value},ziY k v = true→(∃ i t,k = Sum.inl i∧v = Value.int i t)∨(∃ x t,k = Sum.inr x∧v = Value.str x t)
  | .inl i,v,h => by
    obtain ⟨t,e⟩ := Value.isInt_shape (k := i) (v := v) h
    exact .inl ⟨i,t,rfl,e⟩
  | .inr x,v,h => by
    obtain ⟨t,e⟩ := Value.isStrOf_shape (x := x) (v := v) h
    exact .inr ⟨x,t,rfl,e⟩
theorem zkk (i : Int) (t : Tok) : ziY (.inl i) (.int i t) = true := by simp [ziY,Value.isInt]
theorem zkj (x : Str) (t : Tok) : ziY (.inr x) (.str x t) = true := by simp [ziY,Value.isStrOf]
theorem zqr (a b : Int) : decide ((Sum.inl a : Key) = Sum.inl b) = (a == b) := by
  by_cases e : a = b
  · subst e; simp
  · have h : ¬ (Sum.inl a : Key) = Sum.inl b := fun q => e (Sum.inl.inj q)
    rw [decide_eq_false h]
    exact (beq_eq_false_iff_ne.mpr e).symm
theorem zqo (a b : Str) : decide ((Sum.inr a : Key) = Sum.inr b) = decide (a = b) := by
  by_cases e : a = b
  · subst e; simp
  · have h : ¬ (Sum.inr a : Key) = Sum.inr b := fun q => e (Sum.inr.inj q)
    rw [decide_eq_false h,decide_eq_false e]
theorem zqq (a : Int) (b : Str) : decide ((Sum.inl a : Key) = Sum.inr b) = false := decide_eq_false (fun q => nomatch q)
theorem zqp (a : Str) (b : Int) : decide ((Sum.inr a : Key) = Sum.inl b) = false := decide_eq_false (fun q => nomatch q)
noncomputable def zbg (prog : Program) (w : World) : PySem.KeyKind prog w Key where
  is := ziY
  hash := keyH w
  inj := fun v a b ha hb => by
    rcases keyIs_shape ha with ⟨i,t,rfl,rfl⟩ | ⟨x,t,rfl,rfl⟩
    · rcases keyIs_shape hb with ⟨j,u,rfl,e⟩ | ⟨y,u,rfl,e⟩
      · injection e with e1 _; rw [e1]
      · exact nomatch e
    · rcases keyIs_shape hb with ⟨j,u,rfl,e⟩ | ⟨y,u,rfl,e⟩
      · exact nomatch e
      · injection e with e1 _; rw [e1]
  byValue := fun k v h => by
    rcases keyIs_shape h with ⟨i,t,rfl,rfl⟩ | ⟨x,t,rfl,rfl⟩ <;> rfl
  pyHash := fun hv h => by
    rcases keyIs_shape hv with ⟨i,t,rfl,rfl⟩ | ⟨x,t,rfl,rfl⟩
    · exact wpAny_pyHash_int h
    · exact wpAny_pyHash_str h
  eqBool := fun hu hv h => by
    rcases keyIs_shape hu with ⟨i,t,rfl,rfl⟩ | ⟨x,t,rfl,rfl⟩
    · rcases keyIs_shape hv with ⟨j,u,rfl,rfl⟩ | ⟨y,u,rfl,rfl⟩
      · rw [zqr] at h; exact wpAny_eqBool_int h
      · rw [zqq] at h; exact SeqAt.EqAt.int_str i t y u _ _ _ _ h
    · rcases keyIs_shape hv with ⟨j,u,rfl,rfl⟩ | ⟨y,u,rfl,rfl⟩
      · rw [zqp] at h; exact SeqAt.EqAt.str_int x t j u _ _ _ _ h
      · rw [zqo] at h; exact wpAny_eqBool_str h
  «strs» := fun k x t v h => by
    rcases keyIs_shape h with ⟨i,u,rfl,e⟩ | ⟨y,u,rfl,e⟩
    · exact nomatch e
    · injection e with e1 _
      subst e1
      cases v <;> rfl
theorem zhO (prog : Program) (w : World) (i : Int) (t : Tok) : (zbg prog w).is (.inl i) (.int i t) = true := zkk i t
theorem zhN (prog : Program) (w : World) (x : Str) (t : Tok) : (zbg prog w).is (.inr x) (.str x t) = true := zkj x t
end L2
namespace L2
open PySem PySem.Spec PyProof.Rows
inductive V where
  | non | bl (b : Bool) | int (i : Int) | str (x : Str) | byt (b : Array UInt8) | flt (b : UInt64) | ref (a : Addr) | ty (n : String)
  deriving DecidableEq
noncomputable def RelV : V→Value→Prop
  | .non,u => u = Value.none
  | .bl b,u => u = Value.bool b
  | .int i,u => ∃ t,u = Value.int i t
  | .str x,u => ∃ t,u = Value.str x t
  | .byt b,u => ∃ t,u = Value.bytes b t
  | .flt b,u => ∃ t,u = Value.float b t
  | .ref a,u => u = Value.ref a
  | .ty n,u => u = Value.type n
noncomputable abbrev Vals : List V→List Value→Prop := Paired RelV
theorem Vals.length {xs : List V} {us : List Value} (r : Vals xs us) : xs.length = us.length := Paired.length r
theorem Vals.get : ∀ {xs : List V} {us : List Value} {i : Nat} {x : V},Vals xs us→xs[i]? = some x→∃ u,us[i]? = some u∧RelV x u
  | _,_,_,_,.nil,e => by simp at e
  | _,_,0,_,.cons r _,e => by simp at e; subst e; exact ⟨_,rfl,r⟩
  | _,_,i + 1,x,.cons _ t,e => by
    obtain ⟨u,h1,h2⟩ := Vals.get (i := i) (x := x) t (by simpa using e)
    exact ⟨u,by simpa using h1,h2⟩
theorem Vals.set {x : V} {u : Value} (r : RelV x u) : ∀ {xs : List V} {us : List Value} (i : Nat),Vals xs us→Vals (xs.set i x) (us.set i u)
  | _,_,_,.nil => .nil
  | _,_,0,.cons _ t => .cons r t
  | _,_,i + 1,.cons q t => .cons q (Vals.set r i t)
theorem Vals.append {xs ys : List V} {us ws : List Value} (h : Vals xs us) (h' : Vals ys ws) : Vals (xs++ys) (us++ws) := by
  induction h with
  | nil => exact h'
  | cons r _ ih => exact .cons r ih
theorem Vals.take : ∀ {xs : List V} {us : List Value} (n : Nat),Vals xs us→Vals (xs.take n) (us.take n)
  | _,_,0,_ => .nil
  | _,_,_ + 1,.nil => .nil
  | _,_,n + 1,.cons r t => .cons r (Vals.take n t)
theorem Vals.drop : ∀ {xs : List V} {us : List Value} (n : Nat),Vals xs us→Vals (xs.drop n) (us.drop n)
  | _,_,0,r => r
  | _,_,_ + 1,.nil => .nil
  | _,_,n + 1,.cons _ t => Vals.drop n t
noncomputable def RelO : Option V→Option Value→Prop
  | some v,some u => RelV v u
  | none,none => True
  | _,_ => False
noncomputable def KV {κ : Type} : List (κ × V)→List (κ × Value)→Prop := Paired fun (p : κ × V) (q : κ × Value) => p.1 = q.1∧RelV p.2 q.2
noncomputable def kV : Key→V
  | .inl i => .int i
  | .inr x => .str x
inductive HO where
  | lst (xs : List V)
  | tup (xs : List V)
  | dK (kvs : List (Key × V)) | dT (kvs : List (List Key × V))
  | set (S : Int→Bool) (n : Nat)
  | ins (C dx : Addr) (fs : List (Str × V))
  | own (x : Addr)
  | xd (fs : List (Str × V))
  | met (f x : Addr)
  | rng (lo hi : Int)
  | frz (o : Obj) (u : HO)
  | tbl (ps : Array Value)
  | ext (φ : Heap→Prop)
noncomputable abbrev Hp := Addr→Option HO
noncomputable def upd (H : Hp) (a : Addr) (o : HO) : Hp := fun b => if b = a then some o else H b
theorem zao {H : Hp} {a : Addr} {o : HO} : upd H a o a = some o := by unfold upd; rw [if_pos rfl]
theorem zan {H : Hp} {a b : Addr} {o : HO} (h : b≠a) : upd H a o b = H b := by unfold upd; rw [if_neg h]
theorem zrL {H : Hp} {a b : Addr} {o u : HO} (h : H a = some o) (h' : H b = some u) (d : o≠u) : a≠b := by
  intro e; subst e; rw [h] at h'; exact d (Option.some.inj h')
theorem zbH {H : Hp} {a b : Addr} {o : HO} (h : H a = some o) (h' : H b = none) : a≠b := by
  intro e; subst e; rw [h] at h'; cases h'
section
variable (P : Program) (w : World)
noncomputable def zbj (H : Hp) (h : Heap) (a : Addr) : HO→Prop
  | .lst xs => xs.length≤sizeLine∧∃ (its : List Value) (n : Nat),Vals xs its∧h.get? a = some { cls := .type "list",data := .seq its.toArray n }
  | .tup xs => xs.length≤sizeLine∧∃ its : List Value,Vals xs its∧IsTup h a its.toArray∧∃ o,h.get? a = some o∧o.dict = none
  | .dK kvs => kvs.length≤sizeLine∧(a == sysModules) = false∧∃ vs,KV kvs vs∧h.DictOf (zbg P w) a vs
  | .dT kvs => kvs.length≤sizeLine∧(a == sysModules) = false∧∃ xs : List (List Key × Addr × Value),
      Paired (fun (p : List Key × V) (q : List Key × Addr × Value) => p.1 = q.1∧H q.2.1 = some (.tup (p.1.map kV))∧RelV p.2 q.2.2) kvs xs ∧
      ∃ o es ep,h.get? a = some o∧o.ExactDict∧o.data = .dict es ep∧es.toList = xs.map (entryOfKey (tupleKind (zbg P w)))∧(xs.map (·.1)).Nodup
  | .set S n => h.SetOf (intKind P w) a S n
  | .ins C dx fs => H dx = some (.own a)∧fs.length≤1000∧dx≠a∧h.get? a = some (PySem.W.instObj C dx) ∧
      ∃ mA,h.Ns1 dx mA∧(∀ f,RelO (fs.lookup f) (mA f))∧PySem.Within mA (fs.map (·.1))
  | .own _ => ∃ o,h.get? a = some o
  | .xd fs => ∃ mA,h.Ns1 a mA∧∀ f,RelO (fs.lookup f) (mA f)
  | .rng lo hi => ∃ t u v,h.get? a = some { cls := .type "range",data := .fields #[.int lo t,.int hi u,.int 1 v] }
  | .frz o u => h.get? a = some o∧zbj H h a u
  | .tbl ps => h.get? a = some { cls := .none,data := .fields ps }
  | .met f x => h.get? a = some (PySem.W.methodObj (.ref f) (.ref x))
  | .ext φ => φ h∧(∃ o,h.get? a = some o)∧∀ h1 h2 : Heap,φ h1→(∀ o,h1.get? a = some o→h2.get? a = some o)→φ h2
noncomputable def HOk (H : Hp) (h : Heap) : Prop := ∀ a o,H a = some o→zbj P w H h a o
end
section
variable {P : Program} {w : World} {H H' : Hp} {h h' : Heap} {a : Addr} {o : HO}
theorem zbj.lt (x : zbj P w H h a o) : a < h.objs.size := by
  cases o with
  | lst xs => obtain ⟨_,_,_,_,e⟩ := x; exact Heap.lt_size e
  | tup xs => obtain ⟨_,_,_,p,_⟩ := x; exact p.lt
  | dK kvs => obtain ⟨_,_,_,_,o,_,_,e,_⟩ := x; exact Heap.lt_size e
  | dT kvs => obtain ⟨_,_,_,_,o,_,_,e,_⟩ := x; exact Heap.lt_size e
  | set S n => obtain ⟨o,_,_,_,e,_⟩ := x; exact Heap.lt_size e
  | ins C dx fs => obtain ⟨_,_,_,e,_⟩ := x; exact Heap.lt_size e
  | own y => obtain ⟨_,e⟩ := x; exact Heap.lt_size e
  | xd fs => obtain ⟨_,⟨_,_,_,e,_⟩,_⟩ := x; exact Heap.lt_size e
  | rng lo hi => obtain ⟨_,_,_,e⟩ := x; exact Heap.lt_size e
  | frz ob u => obtain ⟨e,_⟩ := x; exact Heap.lt_size e
  | tbl ps => exact Heap.lt_size (show h.get? a = some _ from x)
  | met f y => exact Heap.lt_size (show h.get? a = some _ from x)
  | ext φ => obtain ⟨_,⟨_,e⟩,_⟩ := x; exact Heap.lt_size e
theorem Paired.mapP {α β : Type} {F G : α→β→Prop} {l₁ : List α} {l₂ : List β} (h : Paired F l₁ l₂) (f : ∀ a b,F a b→G a b) : Paired G l₁ l₂ := by
  induction h with
  | nil => exact .nil
  | cons r _ ih => exact .cons (f _ _ r) ih
theorem zbj.stay (x : zbj P w H h a o) (k : ∀ b u,(b = a∨H b = some (.own a))→h.get? b = some u→h'.get? b = some u)
    (ho : ∀ b,H b = some (.own a)→H' b = some (.own a)) (ht : ∀ b xs,H b = some (.tup xs)→H' b = some (.tup xs)) : zbj P w H' h' a o := by
  induction o with
  | lst xs => obtain ⟨z,its,n,r,e⟩ := x; exact ⟨z,its,n,r,k _ _ (.inl rfl) e⟩
  | tup xs => obtain ⟨z,its,r,⟨ob,e,c⟩,ob2,e2,c2⟩ := x; exact ⟨z,its,r,⟨ob,k _ _ (.inl rfl) e,c⟩,ob2,k _ _ (.inl rfl) e2,c2⟩
  | dK kvs => obtain ⟨z,y,vs,r,ob,es,ep,e,c⟩ := x; exact ⟨z,y,vs,r,ob,es,ep,k _ _ (.inl rfl) e,c⟩
  | dT kvs =>
    obtain ⟨z,y,xs,r,ob,es,ep,e,c⟩ := x
    exact ⟨z,y,xs,Paired.mapP r fun p q z => ⟨z.1,ht _ _ z.2.1,z.2.2⟩,ob,es,ep,k _ _ (.inl rfl) e,c⟩
  | set S n => obtain ⟨ob,es,ep,t,e,c⟩ := x; exact ⟨ob,es,ep,t,k _ _ (.inl rfl) e,c⟩
  | ins C dx fs =>
    obtain ⟨d,z,ne,e,mA,⟨od,es,ep,e2,c⟩,r⟩ := x
    exact ⟨ho _ d,z,ne,k _ _ (.inl rfl) e,mA,⟨od,es,ep,k _ _ (.inr d) e2,c⟩,r⟩
  | own y => obtain ⟨ob,e⟩ := x; exact ⟨ob,k _ _ (.inl rfl) e⟩
  | xd fs => obtain ⟨mA,⟨od,es,ep,e,c⟩,r⟩ := x; exact ⟨mA,⟨od,es,ep,k _ _ (.inl rfl) e,c⟩,r⟩
  | rng lo hi => obtain ⟨t,u,v,e⟩ := x; exact ⟨t,u,v,k _ _ (.inl rfl) e⟩
  | frz ob u ih => obtain ⟨e,q⟩ := x; exact ⟨k _ _ (.inl rfl) e,ih q⟩
  | tbl ps =>
    have e : h.get? a = some { cls := .none,data := .fields ps } := x
    show h'.get? a = some { cls := .none,data := .fields ps }
    exact k a _ (.inl rfl) e
  | met f y =>
    have e : h.get? a = some (PySem.W.methodObj (.ref f) (.ref y)) := x
    show h'.get? a = some (PySem.W.methodObj (.ref f) (.ref y))
    exact k a _ (.inl rfl) e
  | ext φ => obtain ⟨p,⟨o,e⟩,st⟩ := x; exact ⟨st _ _ p fun o q => k _ _ (.inl rfl) q,⟨o,k _ _ (.inl rfl) e⟩,st⟩
theorem HOk.lt (x : HOk P w H h) (e : H a = some o) : a < h.objs.size := (x a o e).lt
theorem HOk.fresh (x : HOk P w H h) (e : h.objs.size≤a) : H a = none := by
  cases q : H a with
  | none => rfl
  | some u => exact absurd (Nat.lt_of_lt_of_le (x.lt q) e) (Nat.lt_irrefl _)
theorem HOk.kept (x : HOk P w H h) (k : ∀ b u,h.get? b = some u→h'.get? b = some u) : HOk P w H h' := fun a o e =>
  (x a o e).stay (fun b u _ q => k b u q) (fun _ q => q) fun _ _ q => q
theorem HOk.laid (x : HOk P w H h) (k : ∀ b u,h.get? b = some u→h'.get? b = some u) (hp : h.objs.size≤a) (new : zbj P w (upd H a o) h' a o) : HOk P w (upd H a o) h' := fun b u e => by
  have hn := x.fresh hp
  by_cases hb : b = a
  · subst hb; rw [zao] at e; cases e; exact new
  · rw [zan hb] at e
    exact (x b u e).stay (fun c v _ q => k c v q) (fun c q => by rw [zan (zbH q hn)]; exact q) fun c xs q => by rw [zan (zbH q hn)]; exact q
end
noncomputable def Rd (H : Hp) (a : Addr) (u : HO) : Prop := H a = some u∨∃ o,H a = some (.frz o u)
theorem Rd.ok {P : Program} {w : World} {H : Hp} {h : Heap} {a : Addr} {u : HO} (r : Rd H a u) (x : HOk P w H h) : zbj P w H h a u := by
  rcases r with r | ⟨o,r⟩
  · exact x a u r
  · obtain ⟨_,q⟩ := x a _ r
    exact q
noncomputable def Mut : Option HO→Prop
  | some (.lst _) => True
  | some (.dK _) => True
  | some (.dT _) => True
  | some (.set _ _) => True
  | some (.ins _ _ _) => True
  | some (.ext _) => True
  | _ => False
section
variable {P : Program} {w : World} {H : Hp} {h h' : Heap} {x e : Addr} {o' : HO}
theorem HOk.write (ok : HOk P w H h) (mu : Mut (H x)) (he : e = x∨H e = some (.own x)) (k : ∀ b u,b≠e→h.get? b = some u→h'.get? b = some u) (heo : ∃ u,h'.get? e = some u)
    (new : zbj P w (upd H x o') h' x o') : HOk P w (upd H x o') h' := fun b u q => by
  have nown : ∀ c y,H c = some (.own y)→c≠x := fun c y r z => by subst z; rw [r] at mu; exact mu
  have ntup : ∀ c xs,H c = some (.tup xs)→c≠x := fun c xs r z => by subst z; rw [r] at mu; exact mu
  by_cases hb : b = x
  · subst hb; rw [zao] at q; cases q; exact new
  · rw [zan hb] at q
    by_cases hbe : b = e
    · have q' : H b = some (.own x) := by
        rcases he with z | z
        · exact absurd (hbe.trans z) hb
        · rw [hbe]; exact z
      rw [q] at q'; cases q'
      obtain ⟨v,hv⟩ := heo
      exact ⟨v,by rw [hbe]; exact hv⟩
    · refine (ok b u q).stay (fun c v hc r => k c v ?_ r) (fun c r => by rw [zan (nown c b r)]; exact r) fun c xs r => by rw [zan (ntup c xs r)]; exact r
      rcases hc with rfl | hc
      · exact hbe
      · rintro rfl
        rcases he with z | z
        · exact nown c b hc z
        · rw [hc] at z; cases z; exact hb rfl
end
structure Un (fs ex : List Addr) (H H' : Hp) (h h' : Heap) : Prop where
  keep : ∀ b o,h.get? b = some o→H b = none→b∉fs→b∉ex→h'.get? b = some o
  slot : ∀ b o,h.get? b = some o→H b = none→b∈fs→b∉ex→∃ sl,h'.get? b = some { o with slots := sl }
  free : ∀ b o,h.get? b = some o→H b = none→b∉ex→H' b = none
  there : ∀ b o,h.get? b = some o→b∉ex→∃ o',h'.get? b = some o'
  tups : ∀ b xs,H b = some (.tup xs)→H' b = some (.tup xs)
  frzs : ∀ b o u,H b = some (.frz o u)→H' b = some (.frz o u)
  tbls : ∀ b ps,H b = some (.tbl ps)→∃ more,H' b = some (.tbl (ps++more))
section
variable {fs fs' ex ex' : List Addr} {H H1 H2 : Hp} {h h1 h2 h' : Heap} {a x e : Addr} {o : HO}
theorem Un.any (u : Un fs ex H H1 h h1) {b : Addr} {ob : Obj} (q : h.get? b = some ob) (n : H b = none) (hx : b∉ex) : ∃ sl,h1.get? b = some { ob with slots := sl } := by
  by_cases hb : b∈fs
  · exact u.slot b ob q n hb hx
  · exact ⟨ob.slots,u.keep b ob q n hb hx⟩
theorem Un.trans (a : Un fs ex H H1 h h1) (b : Un fs ex H1 H2 h1 h2) : Un fs ex H H2 h h2 where
  keep := fun c ob q n hc hx => b.keep c ob (a.keep c ob q n hc hx) (a.free c ob q n hx) hc hx
  slot := fun c ob q n hc hx => by
    obtain ⟨sl,e1⟩ := a.slot c ob q n hc hx
    obtain ⟨sl',e2⟩ := b.slot c _ e1 (a.free c ob q n hx) hc hx
    exact ⟨sl',e2⟩
  free := fun c ob q n hx => by
    obtain ⟨o',e1⟩ := a.there c ob q hx
    exact b.free c o' e1 (a.free c ob q n hx) hx
  there := fun c ob q hx => by
    obtain ⟨o',e1⟩ := a.there c ob q hx
    exact b.there c o' e1 hx
  tups := fun c xs q => b.tups c xs (a.tups c xs q)
  frzs := fun c ob xs q => b.frzs c ob xs (a.frzs c ob xs q)
  tbls := fun c ps q => by
    obtain ⟨m1,e1⟩ := a.tbls c ps q
    obtain ⟨m2,e2⟩ := b.tbls c _ e1
    exact ⟨m1++m2,by rw [e2,Array.append_assoc]⟩
theorem Un.kept (k : ∀ b u,h.get? b = some u→h'.get? b = some u) : Un fs ex H H h h' :=
  ⟨fun b ob q _ _ _ => k b ob q,fun b ob q _ _ _ => ⟨ob.slots,k b ob q⟩,fun _ _ _ n _ => n,fun b ob q _ => ⟨ob,k b ob q⟩,fun _ _ q => q,fun _ _ _ q => q,fun _ ps q => ⟨#[],by rw [q]; simp⟩⟩
theorem Un.refl : Un fs ex H H h h := Un.kept fun _ _ q => q
theorem Un.laid (k : ∀ b u,h.get? b = some u→h'.get? b = some u) (hp : h.objs.size≤a) (hn : H a = none) : Un fs ex H (upd H a o) h h' where
  keep := fun b u q _ _ _ => k b u q
  slot := fun b u q _ _ _ => ⟨u.slots,k b u q⟩
  free := fun b u q n _ => by rw [zan (Nat.ne_of_lt (Nat.lt_of_lt_of_le (Heap.lt_size q) hp))]; exact n
  there := fun b u q _ => ⟨u,k b u q⟩
  tups := fun b xs q => by rw [zan (zbH q hn)]; exact q
  frzs := fun b u xs q => by rw [zan (zbH q hn)]; exact q
  tbls := fun b ps q => ⟨#[],by rw [zan (zbH q hn),q]; simp⟩
theorem Un.write (mu : Mut (H x)) (he : e = x∨H e = some (.own x)) (k : ∀ b u,b≠e→h.get? b = some u→h'.get? b = some u) (heo : ∃ u,h'.get? e = some u) : Un fs ex H (upd H x o) h h' := by
  have hx : ∀ b,H b = none→b≠x := fun b n z => by subst z; rw [n] at mu; exact mu
  have hb : ∀ b,H b = none→b≠e := fun b n z => by
    subst z
    rcases he with r | r
    · exact hx b n r
    · rw [n] at r; cases r
  have hm : ∀ b u,H b = some u→¬ Mut (some u)→b≠x := fun b u q nm z => by subst z; rw [q] at mu; exact nm mu
  refine ⟨fun b u q n _ _ => k b u (hb b n) q,fun b u q n _ _ => ⟨u.slots,k b u (hb b n) q⟩,fun b u q n _ => by rw [zan (hx b n)]; exact n,fun b u q _ => ?_,
    fun b xs q => by rw [zan (hm b _ q fun z => z)]; exact q,fun b u xs q => by rw [zan (hm b _ q fun z => z)]; exact q,fun b ps q => ⟨#[],by rw [zan (hm b _ q fun z => z),q]; simp⟩⟩
  by_cases hbe : b = e
  · subst hbe; exact heo
  · exact ⟨u,k b u hbe q⟩
end
noncomputable def trk (h : Heap) (H : Hp) : List Addr := (List.range h.objs.size).filter fun a => (H a).isSome
noncomputable def hidT (h : Heap) (H : Hp) : Heap := PySem.W.hideAll h (trk h H)
theorem zkw (h : Heap) (H : Hp) : (hidT h H).objs.size = h.objs.size := PySem.W.hideAll_size _ _
theorem zl2 {h : Heap} {H : Hp} {b : Addr} {o : Obj} (e : h.get? b = some o) (n : H b = none) : (hidT h H).get? b = some o :=
  PySem.W.hideAll_get _ e fun hm => by
    have q : (H b).isSome = true := (List.mem_filter.mp hm).2
    rw [n] at q; simp at q
theorem zoe {h : Heap} {H : Hp} {b : Addr} {o : Obj} (e : (hidT h H).get? b = some o) : h.get? b = some o∧H b = none := by
  have e' : h.get? b = some o := PySem.W.of_hideAll (trk h H) e
  refine ⟨e',?_⟩
  cases q : H b with
  | none => rfl
  | some x =>
    have hm : b∈trk h H := List.mem_filter.mpr ⟨List.mem_range.mpr (Heap.lt_size e'),by simp [q]⟩
    have z : (hidT h H).get? b = none := PySem.W.hideAll_none (trk h H) hm
    rw [z] at e; cases e
noncomputable def zfu (g h : Heap) (L : Addr) : List (Addr × Obj) := (List.range h.objs.size).filterMap fun a => if a = L∨(g.get? a).isSome = true then none else (h.get? a).map fun o => (a,o)
theorem zhP {g h : Heap} {L a : Addr} {o : Obj} (h1 : a≠L) (h2 : g.get? a = none) (h3 : h.get? a = some o) : (a,o)∈zfu g h L :=
  List.mem_filterMap.mpr ⟨a,List.mem_range.mpr (Heap.lt_size h3),by simp [h1,h2,h3]⟩
theorem zfG {g h : Heap} {L : Addr} {p : Addr × Obj} (hp : p∈zfu g h L) : p.1≠L∧g.get? p.1 = none∧h.get? p.1 = some p.2 := by
  obtain ⟨b,_,e⟩ := List.mem_filterMap.mp hp
  split at e
  · cases e
  · rename_i hn
    cases q : h.get? b with
    | none => rw [q] at e; simp at e
    | some u =>
      rw [q] at e
      simp only [Option.map_some,Option.some.injEq] at e
      subst e
      refine ⟨fun z => hn (.inl z),?_,q⟩
      show g.get? b = none
      cases r : g.get? b with
      | none => rfl
      | some v => exact (hn (.inr (by simp [r]))).elim
noncomputable def rest (g h : Heap) (L d : Addr) : List (Addr × Obj) := (zfu g h L).filter fun p => decide (p.1≠d)
theorem zlO {g h : Heap} {L : Addr} : News g L h (zfu g h L) := fun p hp => let ⟨a,b,c⟩ := zfG hp; ⟨c,a,b⟩
end L2
namespace L2
open PySem PySem.Spec PyProof.Rows
structure Mod (K : PySem.W.Frag) (mg : Str→Option Value) (base : Heap) : Prop where
  kin : K.In base
  glob : base.Ns mainGlobals mg
  blt : ∃ mb,base.Ns builtinsNs mb∧∀ x : Str,x≠"__name__"→mb x = bootBuiltins x
  nolimit : base.NoLimit
structure Cx where
  prog : Program
  w : World
  K : PySem.W.Frag
  mg : Str→Option Value
  base : Heap
  A : Around
  N : List Str
  s₀ : Shared
  H₀ : Hp
  env : Env
  outer : List Env
  stack : List Env
  ex : List Addr
  fn : Str→Bool
  calm : Bool
  pn : List (Addr × Obj)
  xe : Value→Shared→Prop
noncomputable def frs (l : List Env) : List Addr := l.filterMap (·.frame)
noncomputable abbrev Cx.fs (X : Cx) : List Addr := frs X.outer
noncomputable def Vis (sc : Scope) (x : Str) : Prop := sc.names.lookup x = some .local∨sc.names.lookup x = some .cell∨sc.names.lookup x = some .free
noncomputable def Loc (sc : Scope) (x : Str) : Prop := sc.names.lookup x = some .local∨sc.names.lookup x = some .cell
noncomputable def Look (env : Env) (h : Heap) (m : Str→Option Value) (x : Str) (u : Value) : Prop :=
  (env.kindOf x = some .local∧m x = some u)∨((env.kindOf x = some .cell∨env.kindOf x = some .free)∧∃ c,env.cells.lookup x = some c∧h.IsCell c (some u))
structure Cx.Ok (X : Cx) : Prop where
  mod : Mod X.K X.mg X.base
  kind : X.env.scope.kind = .function
  glob : X.env.globals = mainGlobals
  blt : X.env.builtins = builtinsNs
  above : X.s₀.heap.objs.size≤X.env.locals
  inj : ∀ x y c,X.env.cells.lookup x = some c→X.env.cells.lookup y = some c→x = y
  has : ∀ x,(X.env.kindOf x = some .cell∨X.env.kindOf x = some .free)→∃ c,X.env.cells.lookup x = some c
  cab : ∀ x c,X.fn x = true→X.env.cells.lookup x = some c→X.s₀.heap.objs.size≤c
  hd : X.calm = true→X.A.handled = none
  frames : X.A.frames = some X.stack
  stk : X.stack = X.outer∨(X.stack = X.env::X.outer∧X.env.frame = some X.env.locals)
  exf : ∀ b∈X.ex,b≠X.env.locals∧∀ x c,X.env.cells.lookup x = some c→c≠b
  bs : ∀ b o,X.base.get? b = some o→X.s₀.heap.get? b = some o∧X.H₀ b = none
  bsz : X.base.objs.size≤X.s₀.heap.objs.size
  noex : ∀ b o,X.base.get? b = some o→b∉X.ex
  exfs : ∀ b∈X.ex,b∉X.fs
  funs : X.s₀.heap.FunFrames X.base X.outer
  frf : ∀ b∈X.fs,X.H₀ b = none
structure Inv (X : Cx) (pins : List (Addr × Obj)) (σ : List (Option V)) (H : Hp) (s : Shared) : Prop where
  ok : X.Ok
  os : s.os = X.s₀.os
  bare : AllBare s.gens
  base : Un X.fs X.ex X.H₀ H X.s₀.heap s.heap
  loc : ∃ m,s.heap.Ns X.env.locals m∧∀ (i : Nat) (x : Str) (v : V),X.N[i]? = some x→σ[i]? = some (some v)→Vis X.env.scope x→∃ u,RelV v u∧Look X.env s.heap m x u
  cell : ∀ x c,X.env.cells.lookup x = some c→∃ v,s.heap.IsCell c v
  free : H X.env.locals = none
  freeC : ∀ x c,X.env.cells.lookup x = some c→H c = none
  pin : ∀ p∈X.pn++pins,s.heap.get? p.1 = some p.2∧H p.1 = none∧p.1≠X.env.locals∧p.1∉X.fs∧∀ v,p.2.data≠.cell v
  hok : HOk X.prog X.w H s.heap
  len : σ.length = X.N.length
section
variable {X : Cx} {pins : List (Addr × Obj)} {σ : List (Option V)} {H H' : Hp} {s : Shared} {h' : Heap}
theorem Cx.Ok.nofr (ok : X.Ok) {b : Addr} {o : Obj} (e : X.base.get? b = some o) : b∉X.fs := fun hb => by
  have := (ok.funs.mem hb).1
  rw [e] at this; cases this
theorem Inv.bs (I : Inv X pins σ H s) : ∀ b o,X.base.get? b = some o→s.heap.get? b = some o∧H b = none := fun b o e =>
  ⟨I.base.keep b o (I.ok.bs b o e).1 (I.ok.bs b o e).2 (I.ok.nofr e) (I.ok.noex b o e),I.base.free b o (I.ok.bs b o e).1 (I.ok.bs b o e).2 (I.ok.noex b o e)⟩
theorem Inv.bk (I : Inv X pins σ H s) : ∀ b o,X.base.get? b = some o→s.heap.get? b = some o := fun b o e => (I.bs b o e).1
theorem Inv.mod (I : Inv X pins σ H s) : Mod X.K X.mg X.base := I.ok.mod
theorem Inv.kIn (I : Inv X pins σ H s) : X.K.In s.heap := I.ok.mod.kin.keeps I.bk
theorem Inv.nolimit (I : Inv X pins σ H s) : s.heap.NoLimit := I.ok.mod.nolimit.keeps I.bk
theorem Inv.fr (I : Inv X pins σ H s) : ∃ m,Fr X.base X.env.locals s.heap m :=
  let ⟨m,hn,_⟩ := I.loc
  ⟨m,hn,I.bk,Nat.le_trans I.ok.bsz I.ok.above⟩
theorem Inv.lt (I : Inv X pins σ H s) : X.env.locals < s.heap.objs.size := let ⟨_,hn,_⟩ := I.loc; hn.lt
theorem Inv.sz (I : Inv X pins σ H s) : X.s₀.heap.objs.size≤s.heap.objs.size := Nat.le_trans I.ok.above (Nat.le_of_lt I.lt)
theorem Inv.nofs (I : Inv X pins σ H s) {a : Addr} (h : s.heap.objs.size≤a) : a∉X.fs := fun hb => by
  obtain ⟨_,o,ho,_⟩ := I.ok.funs.mem hb
  exact absurd (Nat.lt_of_lt_of_le (Heap.lt_size ho) (Nat.le_trans I.sz h)) (Nat.lt_irrefl _)
theorem Inv.cne (I : Inv X pins σ H s) : ∀ x c,X.env.cells.lookup x = some c→c≠X.env.locals := fun x c e z => by
  obtain ⟨v,o,ho,hd⟩ := I.cell x c e
  obtain ⟨m,⟨o',es,ep,ho',hd',_⟩,_⟩ := I.loc
  rw [z,ho'] at ho; cases ho; rw [hd'] at hd; cases hd
theorem Inv.funs (I : Inv X pins σ H s) : s.heap.FunFrames X.base X.outer := by
  have all : ∀ (l : List Env),(∀ b∈frs l,b∈X.fs)→X.s₀.heap.FunFrames X.base l→s.heap.FunFrames X.base l := by
    intro l
    induction l with
    | nil => intro _ _; trivial
    | cons env r ih =>
      intro hs hl
      obtain ⟨hk,⟨L,o,hf,hn,ho,hd⟩,hr⟩ := hl
      have hL : L∈X.fs := hs L (by unfold frs; rw [List.filterMap_cons,hf]; exact List.mem_cons_self)
      obtain ⟨sl,e⟩ := I.base.slot L o ho (I.ok.frf L hL) hL fun z => I.ok.exfs L z hL
      exact ⟨hk,⟨L,_,hf,hn,e,hd⟩,ih (fun b hb => hs b (by unfold frs; rw [List.filterMap_cons,hf]; exact List.mem_cons_of_mem _ hb)) hr⟩
  exact all X.outer (fun _ hb => hb) I.ok.funs
theorem Inv.stack (I : Inv X pins σ H s) : s.heap.FunFrames X.base X.stack := by
  rcases I.ok.stk with e | ⟨e,hf⟩
  · rw [e]; exact I.funs
  · rw [e]
    obtain ⟨m,hn,_⟩ := I.loc
    refine .cons (by rw [I.ok.kind]; decide) hf hn ?_ I.funs
    exact Heap.get?_none_of_le (Nat.le_trans I.ok.bsz I.ok.above)
theorem Inv.stkSub (I : Inv X pins σ H s) : ∀ b∈frs X.stack,b∈X.env.locals::X.fs := fun b hb => by
  rcases I.ok.stk with e | ⟨e,hf⟩
  · rw [e] at hb; exact List.mem_cons_of_mem _ hb
  · rw [e] at hb
    unfold frs at hb
    rw [List.filterMap_cons,hf] at hb
    exact hb
theorem Inv.stkFree (I : Inv X pins σ H s) : ∀ b∈frs X.stack,H b = none := fun b hb => by
  rcases List.mem_cons.mp (I.stkSub b hb) with e | hb
  · rw [e]; exact I.free
  · obtain ⟨_,o,ho,_⟩ := I.ok.funs.mem hb
    exact I.base.free b o ho (I.ok.frf b hb) fun z => I.ok.exfs b z hb
theorem Inv.step {g' : Array GenState} {t' : Nat} {d' : Drawn} {ch : List Addr} (I : Inv X pins σ H s)
    (hch : ∀ b∈ch,(b∈X.ex∨X.s₀.heap.objs.size≤b)∧b≠X.env.locals∧(∀ x c,X.env.cells.lookup x = some c→c≠b)∧∀ p∈X.pn++pins,p.1≠b)
    (keep : ∀ b o,b≠X.env.locals→b∉X.fs→b∉ch→s.heap.get? b = some o→H b = none→h'.get? b = some o)
    (slot : ∀ b o,b≠X.env.locals→b∈X.fs→b∉ch→s.heap.get? b = some o→H b = none→∃ sl,h'.get? b = some { o with slots := sl }) (free : ∀ b o,b∉ch→s.heap.get? b = some o→H b = none→H' b = none)
    (there : ∀ b o,b∉ch→s.heap.get? b = some o→∃ o',h'.get? b = some o')
    (tups : ∀ b xs,H b = some (.tup xs)→H' b = some (.tup xs)) (frzs : ∀ b o u,H b = some (.frz o u)→H' b = some (.frz o u)) (tbls : ∀ b ps,H b = some (.tbl ps)→∃ more,H' b = some (.tbl (ps++more)))
    (ns : ∀ m,s.heap.Ns X.env.locals m→h'.Ns X.env.locals m) (hok : HOk X.prog X.w H' h') (hg : AllBare g') :
    Inv X pins σ H' { s with heap := h',gens := g',drawn := d',toks := t' } := by
  have neL : ∀ b o,X.s₀.heap.get? b = some o→b≠X.env.locals := fun b o e => Nat.ne_of_lt (Nat.lt_of_lt_of_le (Heap.lt_size e) I.ok.above)
  have neC : ∀ b o,X.s₀.heap.get? b = some o→b∉X.ex→b∉ch := fun b o e hx hb => by
    rcases (hch b hb).1 with z | z
    · exact hx z
    · exact absurd (Nat.lt_of_lt_of_le (Heap.lt_size e) z) (Nat.lt_irrefl _)
  have cellK : ∀ x c,X.env.cells.lookup x = some c→∀ v,s.heap.IsCell c v→h'.IsCell c v := fun x c e v ⟨o,ho,hd⟩ => by
    have nch : c∉ch := fun z => (hch c z).2.2.1 x c e rfl
    by_cases hc : c∈X.fs
    · obtain ⟨sl,q⟩ := slot c o (I.cne x c e) hc nch ho (I.freeC x c e)
      exact ⟨_,q,hd⟩
    · exact ⟨o,keep c o (I.cne x c e) hc nch ho (I.freeC x c e),hd⟩
  refine ⟨I.ok,I.os,hg,⟨fun b o e n hb hx => ?_,fun b o e n hb hx => ?_,fun b o e n hx => ?_,fun b o e hx => ?_,fun b xs e => tups b xs (I.base.tups b xs e),fun b o xs e => frzs b o xs (I.base.frzs b o xs e),fun b ps e => ?_⟩,?_,fun x c e => ?_,?_,fun x c e => ?_,fun p hp => ?_,hok,I.len⟩
  · exact keep b o (neL b o e) hb (neC b o e hx) (I.base.keep b o e n hb hx) (I.base.free b o e n hx)
  · obtain ⟨sl,e1⟩ := I.base.slot b o e n hb hx
    obtain ⟨sl',e2⟩ := slot b _ (neL b o e) hb (neC b o e hx) e1 (I.base.free b o e n hx)
    exact ⟨sl',e2⟩
  · obtain ⟨o',e1⟩ := I.base.there b o e hx
    exact free b o' (neC b o e hx) e1 (I.base.free b o e n hx)
  · obtain ⟨o',e1⟩ := I.base.there b o e hx
    exact there b o' (neC b o e hx) e1
  · obtain ⟨m1,e1⟩ := I.base.tbls b ps e
    obtain ⟨m2,e2⟩ := tbls b _ e1
    exact ⟨m1++m2,by rw [e2,Array.append_assoc]⟩
  · obtain ⟨m,hn,hl⟩ := I.loc
    refine ⟨m,ns m hn,fun i x v e1 e2 e3 => ?_⟩
    obtain ⟨u,r,l⟩ := hl i x v e1 e2 e3
    refine ⟨u,r,?_⟩
    rcases l with l | ⟨k,c,e,z⟩
    · exact .inl l
    · exact .inr ⟨k,c,e,cellK x c e _ z⟩
  · obtain ⟨v,z⟩ := I.cell x c e
    exact ⟨v,cellK x c e v z⟩
  · obtain ⟨m,⟨o,_,_,ho,_⟩,_⟩ := I.loc
    exact free _ o (fun z => (hch _ z).2.1 rfl) ho I.free
  · obtain ⟨v,o,ho,hd⟩ := I.cell x c e
    exact free c o (fun z => (hch c z).2.2.1 x c e rfl) ho (I.freeC x c e)
  · obtain ⟨e,n,ne,nf,d⟩ := I.pin p hp
    have nch : p.1∉ch := fun z => (hch p.1 z).2.2.2 p hp rfl
    exact ⟨keep p.1 p.2 ne nf nch e n,free p.1 p.2 nch e n,ne,nf,d⟩
theorem Inv.un {t' : Nat} (I : Inv X pins σ H s) (u : Un X.fs [] H H' s.heap h') (hok : HOk X.prog X.w H' h') : Inv X pins σ H' { s with heap := h',toks := t' } := by
  obtain ⟨m,⟨o,es,ep,ho,r⟩,_⟩ := id I.loc
  obtain ⟨sl,hL⟩ := u.any ho I.free (by simp)
  exact I.step (g' := s.gens) (d' := s.drawn) (ch := []) (fun _ z => nomatch z) (fun b o _ hb _ e n => u.keep b o e n hb (by simp)) (fun b o _ hb _ e n => u.slot b o e n hb (by simp)) (fun b o _ e n => u.free b o e n (by simp)) (fun b o _ e => u.there b o e (by simp)) u.tups u.frzs u.tbls (fun m' hm => by
    obtain ⟨o',es',ep',ho',r'⟩ := hm
    rw [ho] at ho'; cases ho'
    exact ⟨_,es',ep',hL,r'⟩) hok I.bare
theorem Inv.call {g' : Array GenState} {t' : Nat} {d' : Drawn} {ch : List Addr} (I : Inv X pins σ H s) (u : Un (frs X.stack) ch H H' s.heap h') (hok : HOk X.prog X.w H' h') (hg : AllBare g')
    (hch : ∀ b∈ch,(b∈X.ex∨X.s₀.heap.objs.size≤b)∧b≠X.env.locals∧(∀ x c,X.env.cells.lookup x = some c→c≠b)∧∀ p∈X.pn++pins,p.1≠b) :
    Inv X pins σ H' { s with heap := h',gens := g',drawn := d',toks := t' } := by
  obtain ⟨m,⟨o,es,ep,ho,r⟩,_⟩ := id I.loc
  obtain ⟨sl,hL⟩ := u.any ho I.free fun z => (hch _ z).2.1 rfl
  exact I.step (ch := ch) hch (fun b o hL hb hc e n => u.keep b o e n (fun z => (List.mem_cons.mp (I.stkSub b z)).elim hL hb) hc) (fun b o _ _ hc e n => u.any e n hc) (fun b o hc e n => u.free b o e n hc) (fun b o hc e => u.there b o e hc) u.tups u.frzs u.tbls (fun m' hm => by
    obtain ⟨o',es',ep',ho',r'⟩ := hm
    rw [ho] at ho'; cases ho'
    exact ⟨_,es',ep',hL,r'⟩) hok hg
theorem Inv.turned {t' : Nat} {it : Addr} (I : Inv X pins σ H s) (k : ∀ b o,b≠it→s.heap.get? b = some o→h'.get? b = some o) (hn : H it = none) (hL : it≠X.env.locals)
    (h1 : it∈X.ex∨X.s₀.heap.objs.size≤it) (h2 : ∀ x c,X.env.cells.lookup x = some c→c≠it) (h3 : ∀ p∈X.pn++pins,p.1≠it) : Inv X pins σ H { s with heap := h',toks := t' } := by
  have nit : ∀ b u,H b = some u→b≠it := fun b u e z => by rw [z,hn] at e; cases e
  refine I.step (g' := s.gens) (d' := s.drawn) (ch := [it]) (fun b hb => ?_) (fun b o _ _ hc e _ => k b o (fun z => hc (by simp [z])) e) (fun b o _ _ hc e _ => ⟨o.slots,k b o (fun z => hc (by simp [z])) e⟩) (fun _ _ _ _ n => n)
    (fun b o hc e => ⟨o,k b o (fun z => hc (by simp [z])) e⟩) (fun _ _ e => e) (fun _ _ _ e => e) (fun b ps e => ⟨#[],by rw [e]; simp⟩) (fun m hm => ?_) (fun b u e => ?_) I.bare
  · have e : b = it := by simpa using hb
    subst e
    exact ⟨h1,hL,h2,h3⟩
  · obtain ⟨o,es,ep,ho,r⟩ := hm
    exact ⟨o,es,ep,k _ o (Ne.symm hL) ho,r⟩
  · refine (I.hok b u e).stay (fun c v hc q => k c v ?_ q) (fun _ q => q) fun _ _ q => q
    rcases hc with z | z
    · rw [z]; exact nit b u e
    · exact nit c _ z
theorem Inv.tok (I : Inv X pins σ H s) (t : Nat) : Inv X pins σ H { s with toks := t } := I.un (h' := s.heap) (t' := t) Un.refl I.hok
theorem Inv.kept {t' : Nat} (I : Inv X pins σ H s) (k : ∀ b u,s.heap.get? b = some u→h'.get? b = some u) : Inv X pins σ H { s with heap := h',toks := t' } := I.un (Un.kept k) (I.hok.kept k)
theorem Inv.laid {a : Addr} {o : HO} {t' : Nat} (I : Inv X pins σ H s) (k : ∀ b u,s.heap.get? b = some u→h'.get? b = some u) (hp : s.heap.objs.size≤a) (new : zbj X.prog X.w (upd H a o) h' a o) :
    Inv X pins σ (upd H a o) { s with heap := h',toks := t' } := I.un (Un.laid k hp (I.hok.fresh hp)) (I.hok.laid k hp new)
theorem Inv.write {x e : Addr} {o : HO} {t' : Nat} (I : Inv X pins σ H s) (mu : Mut (H x)) (he : e = x∨H e = some (.own x)) (k : ∀ b u,b≠e→s.heap.get? b = some u→h'.get? b = some u) (heo : ∃ u,h'.get? e = some u)
    (new : zbj X.prog X.w (upd H x o) h' x o) : Inv X pins σ (upd H x o) { s with heap := h',toks := t' } := I.un (Un.write mu he k heo) (I.hok.write mu he k heo new)
theorem Inv.pins_of {pins' : List (Addr × Obj)} (I : Inv X pins σ H s) (h : ∀ p∈pins',s.heap.get? p.1 = some p.2∧H p.1 = none∧p.1≠X.env.locals∧p.1∉X.fs∧∀ v,p.2.data≠.cell v) : Inv X pins' σ H s :=
  ⟨I.ok,I.os,I.bare,I.base,I.loc,I.cell,I.free,I.freeC,fun p hp => (List.mem_append.mp hp).elim (fun z => I.pin p (List.mem_append_left _ z)) (h p),I.hok,I.len⟩
theorem zio {N : List Str} (hN : N.Nodup) {i j : Nat} {x : Str} (a : N[i]? = some x) (b : N[j]? = some x) : i = j := by
  obtain ⟨h1,e1⟩ := List.getElem?_eq_some_iff.mp a
  obtain ⟨h2,e2⟩ := List.getElem?_eq_some_iff.mp b
  exact (List.getElem_inj hN).mp (e1.trans e2.symm)
theorem ze9 {M : Model} {A : Around} {E : Value→Shared→Prop} {i : Nat} {x : Str} {v : V} {u : Value} {Q : Unit→Shared→Prop} (I : Inv X pins σ H s) (hN : X.N.Nodup) (hi : X.N[i]? = some x) (hx : Loc X.env.scope x) (r : RelV v u)
    (h : ∀ s',Inv X pins (σ.set i (some v)) H s'→(∃ a,Heap.SameBut a s.heap s'.heap∧(a = X.env.locals∨X.env.cells.lookup x = some a))→Q () s') (hf : X.fn x = true∨X.env.scope.names.lookup x = some .local := by first | exact .inl rfl | exact .inr rfl | assumption) : wpAny M A (storeName X.env x u) Q E s := by
  obtain ⟨m,hn,hl⟩ := id I.loc
  have hcls : (X.env.scope.kind == .class || (X.env.scope.kind == .module && X.env.locals != X.env.globals)) = false := by rw [I.ok.kind]; rfl
  have hiσ : i < σ.length := by rw [I.len]; exact (List.getElem?_eq_some_iff.mp hi).1
  have cne := I.cne
  have tracked : ∀ {a : Addr} {h' : Heap},(∃ o,s.heap.get? a = some o∧H a = none)→Heap.SameBut a s.heap h'→HOk X.prog X.w H h' := fun {a h'} ha hs b ob e => by
    obtain ⟨_,_,hfree⟩ := ha
    refine (I.hok b ob e).stay (fun c w' hc q => (hs.2 c ?_).trans q) (fun _ q => q) fun _ _ q => q
    rintro rfl
    rcases hc with rfl | hc
    · rw [hfree] at e; cases e
    · rw [hfree] at hc; cases hc
  rcases hx with hk | hk
  · refine wpAny_storeName_local hk hn (fun h' hn' hs => ?_) hcls
    obtain ⟨oL,_,_,hoL,_⟩ := id hn
    refine h _ ⟨I.ok,I.os,I.bare,⟨fun b o e n hb hx => ?_,fun b o e n hb hx => ?_,I.base.free,fun b o e hx => ?_,I.base.tups,I.base.frzs,I.base.tbls⟩,⟨_,hn',fun j y v' e1 e2 e3 => ?_⟩,fun y c e => ?_,I.free,I.freeC,fun p hp => ?_,tracked ⟨oL,hoL,I.free⟩ hs,by simpa using I.len⟩ ⟨_,hs,.inl rfl⟩
    · exact (hs.2 b (Nat.ne_of_lt (Nat.lt_of_lt_of_le (Heap.lt_size e) I.ok.above))).trans (I.base.keep b o e n hb hx)
    · obtain ⟨sl,e1⟩ := I.base.slot b o e n hb hx
      exact ⟨sl,(hs.2 b (Nat.ne_of_lt (Nat.lt_of_lt_of_le (Heap.lt_size e) I.ok.above))).trans e1⟩
    · obtain ⟨o',e1⟩ := I.base.there b o e hx
      exact ⟨o',(hs.2 b (Nat.ne_of_lt (Nat.lt_of_lt_of_le (Heap.lt_size e) I.ok.above))).trans e1⟩
    · by_cases hj : j = i
      · subst hj
        rw [hi] at e1; cases e1
        rw [List.getElem?_set_self hiσ] at e2
        cases e2
        exact ⟨u,r,.inl ⟨hk,by simp⟩⟩
      · rw [List.getElem?_set_ne (Ne.symm hj)] at e2
        obtain ⟨u',r',q⟩ := hl j y v' e1 e2 e3
        refine ⟨u',r',?_⟩
        rcases q with ⟨k,e⟩ | ⟨k,c,e,z⟩
        · refine .inl ⟨k,?_⟩
          have : y≠x := fun e => hj (zio hN e1 (e ▸ hi))
          simp [this,e]
        · exact .inr ⟨k,c,e,z.sameBut hs (cne y c e)⟩
    · obtain ⟨w',z⟩ := I.cell y c e
      exact ⟨w',z.sameBut hs (cne y c e)⟩
    · obtain ⟨e,n,ne,nf,d⟩ := I.pin p hp
      exact ⟨(hs.2 p.1 ne).trans e,n,ne,nf,d⟩
  · have hfn : X.fn x = true := by
      rcases hf with z | z
      · exact z
      · rw [z] at hk; cases hk
    obtain ⟨c,hc⟩ := I.ok.has x (.inl hk)
    obtain ⟨w',z⟩ := I.cell x c hc
    refine wpAny_storeName_cell I.ok.kind hk hc z (fun h' hc' hs => ?_)
    obtain ⟨oc,hoc,hocd⟩ := id z
    refine h { s with heap := h' } ⟨I.ok,I.os,I.bare,⟨fun b o e n hb hx => ?_,fun b o e n hb hx => ?_,I.base.free,fun b o e hx => ?_,I.base.tups,I.base.frzs,I.base.tbls⟩,⟨m,hn.sameBut hs (Ne.symm (cne x c hc)),fun j y v' e1 e2 e3 => ?_⟩,fun y c' e => ?_,I.free,I.freeC,fun p hp => ?_,tracked ⟨oc,hoc,I.freeC x c hc⟩ hs,by simpa using I.len⟩ ⟨c,hs,.inr hc⟩
    · exact (hs.2 b (Nat.ne_of_lt (Nat.lt_of_lt_of_le (Heap.lt_size e) (I.ok.cab x c hfn hc)))).trans (I.base.keep b o e n hb hx)
    · obtain ⟨sl,e1⟩ := I.base.slot b o e n hb hx
      exact ⟨sl,(hs.2 b (Nat.ne_of_lt (Nat.lt_of_lt_of_le (Heap.lt_size e) (I.ok.cab x c hfn hc)))).trans e1⟩
    · obtain ⟨o',e1⟩ := I.base.there b o e hx
      exact ⟨o',(hs.2 b (Nat.ne_of_lt (Nat.lt_of_lt_of_le (Heap.lt_size e) (I.ok.cab x c hfn hc)))).trans e1⟩
    · by_cases hj : j = i
      · subst hj
        rw [hi] at e1; cases e1
        rw [List.getElem?_set_self hiσ] at e2
        cases e2
        exact ⟨u,r,.inr ⟨.inl hk,c,hc,hc'⟩⟩
      · rw [List.getElem?_set_ne (Ne.symm hj)] at e2
        obtain ⟨u',r',q⟩ := hl j y v' e1 e2 e3
        refine ⟨u',r',?_⟩
        rcases q with q | ⟨k,c',e,z'⟩
        · exact .inl q
        · refine .inr ⟨k,c',e,z'.sameBut hs ?_⟩
          rintro rfl
          exact hj (zio hN e1 (I.ok.inj _ _ _ e hc ▸ hi))
    · by_cases hcc : c' = c
      · subst hcc; exact ⟨_,hc'⟩
      · obtain ⟨w2,z2⟩ := I.cell y c' e
        exact ⟨w2,z2.sameBut hs hcc⟩
    · obtain ⟨e,n,ne,nf,d⟩ := I.pin p hp
      refine ⟨(hs.2 p.1 ?_).trans e,n,ne,nf,d⟩
      intro q
      rw [q,hoc] at e
      have q' : oc = p.2 := Option.some.inj e
      exact d w' (by rw [← q']; exact hocd)
theorem zib {M : Model} {A : Around} {E : Value→Shared→Prop} {i : Nat} {x : Str} {v : V} {u : Value} {Q : Unit→Shared→Prop} (I : Inv X pins σ H s) (hN : X.N.Nodup) (hi : X.N[i]? = some x) (hx : Loc X.env.scope x) (r : RelV v u)
    (h : ∀ s',Inv X pins (σ.set i (some v)) H s'→Q () s') (hf : X.fn x = true∨X.env.scope.names.lookup x = some .local := by first | exact .inl rfl | exact .inr rfl | assumption) : wpAny M A (storeName X.env x u) Q E s :=
  ze9 I hN hi hx r (fun s' I' _ => h s' I') hf
theorem Inv.call' {s' : Shared} {ch : List Addr} (I : Inv X pins σ H s) (ho : s'.os = s.os) (u : Un (frs X.stack) ch H H' s.heap s'.heap) (hok : HOk X.prog X.w H' s'.heap) (hg : AllBare s'.gens)
    (hch : ∀ b∈ch,(b∈X.ex∨X.s₀.heap.objs.size≤b)∧b≠X.env.locals∧(∀ x c,X.env.cells.lookup x = some c→c≠b)∧∀ p∈X.pn++pins,p.1≠b) : Inv X pins σ H' s' := by
  obtain ⟨h',g',d',t',o'⟩ := s'
  have e : o' = s.os := ho
  subst e
  exact I.call (g' := g') (t' := t') (d' := d') u hok hg hch
end
noncomputable abbrev XK := Value→Option Addr→Hp→Prop
noncomputable abbrev St := List (Option V)
noncomputable abbrev VK := V→Hp→Prop
noncomputable abbrev TE := St→Hp→VK→Prop
noncomputable abbrev TT := St→Hp→(Bool→Hp→Prop)→Prop
noncomputable abbrev TA := St→Hp→(List V→Hp→Prop)→Prop
structure Ends where
  nx : St→Hp→Prop
  rt : VK
  bk : St→Hp→Prop := fun _ _ => False
  ct : St→Hp→Prop := fun _ _ => False
noncomputable abbrev TS := Ends→St→Hp→Prop
noncomputable def EP (X : Cx) (pins : List (Addr × Obj)) (σ : St) (Q : VK) (u : Value) (s' : Shared) : Prop := ∃ v H',Inv X pins σ H' s'∧RelV v u∧Q v H'
noncomputable def TP (X : Cx) (pins : List (Addr × Obj)) (σ : St) (Q : Bool→Hp→Prop) (b : Bool) (s' : Shared) : Prop := ∃ H',Inv X pins σ H' s'∧Q b H'
noncomputable def AP (X : Cx) (pins : List (Addr × Obj)) (σ : St) (Q : List V→Hp→Prop) (us : List Value) (s' : Shared) : Prop := ∃ vs H',Inv X pins σ H' s'∧Vals vs us∧Q vs H'
noncomputable def SP (X : Cx) (pins : List (Addr × Obj)) (D : Ends) (f : Flow) (s' : Shared) : Prop :=
  match f with
  | .next => ∃ σ' H',Inv X pins σ' H' s'∧D.nx σ' H'
  | .brk => ∃ σ' H',Inv X pins σ' H' s'∧D.bk σ' H'
  | .cont => ∃ σ' H',Inv X pins σ' H' s'∧D.ct σ' H'
  | .ret u => ∃ v σ' H',Inv X pins σ' H' s'∧RelV v u∧D.rt v H'
noncomputable def PE (X : Cx) (e : Expr) (t : TE) : Prop :=
  ∀ (pins : List (Addr × Obj)) (s : Shared) (σ : St) (H : Hp) (Q : VK),Inv X pins σ H s→t σ H Q→wpAny (model X.prog X.w) X.A (eval e X.env) (EP X pins σ Q) X.xe s
noncomputable def PT (X : Cx) (e : Expr) (t : TT) : Prop :=
  ∀ (pins : List (Addr × Obj)) (s : Shared) (σ : St) (H : Hp) (Q : Bool→Hp→Prop),Inv X pins σ H s→t σ H Q→wpAny (model X.prog X.w) X.A (isTrue e X.env (eval e X.env)) (TP X pins σ Q) X.xe s
noncomputable def PW (X : Cx) (e : Expr) (t : TT) : Prop :=
  ∀ (whole : Sem Value) (pins : List (Addr × Obj)) (s : Shared) (σ : St) (H : Hp) (Q : Bool→Hp→Prop),Inv X pins σ H s→t σ H Q→wpAny (model X.prog X.w) X.A (isTrue e X.env whole) (TP X pins σ Q) X.xe s
theorem PW.pt {X : Cx} {e : Expr} {t : TT} (h : PW X e t) : PT X e t := h _
noncomputable def PA (X : Cx) (es : List Expr) (t : TA) : Prop :=
  ∀ (pos : Pos) (pins : List (Addr × Obj)) (s : Shared) (σ : St) (H : Hp) (Q : List V→Hp→Prop),Inv X pins σ H s→t σ H Q→wpAny (model X.prog X.w) X.A (spliced (backTo pos (starEach es X.env))) (AP X pins σ Q) X.xe s
noncomputable def PS (X : Cx) (st : Stmt) (t : TS) : Prop :=
  ∀ (pins : List (Addr × Obj)) (s : Shared) (σ : St) (H : Hp) (D : Ends),Inv X pins σ H s→t D σ H→wpAny (model X.prog X.w) X.A (exec st X.env) (SP X pins D) X.xe s
noncomputable def PSs (X : Cx) (st : List Stmt) (t : TS) : Prop :=
  ∀ (pins : List (Addr × Obj)) (s : Shared) (σ : St) (H : Hp) (D : Ends),Inv X pins σ H s→t D σ H→wpAny (model X.prog X.w) X.A (execs st X.env) (SP X pins D) X.xe s
theorem thn {α : Type} {t : Sem α} {Q Q' : α→Shared→Prop} {M : Model} {A : Around} {E : Value→Shared→Prop} {s : Shared} (h : wpAny M A t Q E s) (hQ : ∀ a s,Q a s→Q' a s) : wpAny M A t Q' E s := wpAny_mono h hQ fun _ _ x => x
end L2
namespace L2
open PySem PySem.Spec PyProof.Rows
section
variable {X : Cx}
noncomputable def tVar (i : Nat) : TE := fun σ H Q => ∃ v,σ[i]? = some (some v)∧Q v H
noncomputable def tC (v : V) : TE := fun _ H Q => Q v H
theorem zdO {i : Nat} {x : Str} {pos : Pos} (hN : X.N[i]? = some x) (hv : Vis X.env.scope x) (hd : (x == ("__debug__" : Str)) = false := by decide) (hcd : (x == ("__classdict__" : Str)) = false := by decide) : PE X (.Name x pos) (tVar i) := by
  intro pins s σ H Q I h
  obtain ⟨v,e,h⟩ := h
  obtain ⟨m,hn,hl⟩ := I.loc
  obtain ⟨u,r,l⟩ := hl i x v hN e hv
  have fin : EP X pins σ Q u s := ⟨v,H,I,r,h⟩
  rcases l with ⟨hk,hm⟩ | ⟨hk,c,hc,hcell⟩
  · exact wpAny_Name (wpAny_loadName_local I.ok.kind hk hn hm fin) hd
  · rcases hk with hk | hk
    · exact wpAny_Name (wpAny_loadName_cell I.ok.kind hk hc hcell fin) hd
    · exact wpAny_Name (wpAny_loadName_free I.ok.kind hk hc hcell fin hcd) hd
theorem zmF {i j pos} : PE X (.Constant (.int i) j pos) (tC (.int i)) := fun _ _ _ H _ I h => wpAny_Constant_int ⟨.int i,H,I.tok _,⟨_,rfl⟩,h⟩
theorem zrF {b j pos} : PE X (.Constant (.bool b) j pos) (tC (.bl b)) := fun _ _ _ H _ I h => Constant_bool ⟨.bl b,H,I,rfl,h⟩
theorem zpT {j pos} : PE X (.Constant .none j pos) (tC .non) := fun _ _ _ H _ I h => Constant_none ⟨.non,H,I,rfl,h⟩
noncomputable def Gl (X : Cx) (x : Str) : Prop := X.env.kindOf x = some .globalImplicit
theorem zkf {E : Value→Shared→Prop} {pins : List (Addr × Obj)} {s : Shared} {σ : St} {H : Hp} {x : Str} {u : Value} {pos : Pos} {Q : Value→Shared→Prop} (I : Inv X pins σ H s) (hg : Gl X x) (hm : X.mg x = some u) (h : Q u s)
    (hd : (x == ("__debug__" : Str)) = false := by decide) : wpAny (model X.prog X.w) X.A (eval (.Name x pos) X.env) Q E s :=
  Calls.Name_function_global I.ok.kind hg (Calls.loadGlobal_global (by rw [I.ok.glob]; exact I.mod.glob.keeps I.bk) hm h) hd
theorem ziw {E : Value→Shared→Prop} {pins : List (Addr × Obj)} {s : Shared} {σ : St} {H : Hp} {x : Str} {u : Value} {pos : Pos} {Q : Value→Shared→Prop} (I : Inv X pins σ H s) (hg : Gl X x) (hm : X.mg x = none) (hv : bootBuiltins x = some u) (h : Q u s)
    (hn : x≠"__name__" := by decide) (hd : (x == ("__debug__" : Str)) = false := by decide) : wpAny (model X.prog X.w) X.A (eval (.Name x pos) X.env) Q E s := by
  obtain ⟨mb,h1,h2⟩ := I.mod.blt
  exact Calls.Name_function_global I.ok.kind hg (Calls.loadGlobal_builtin (by rw [I.ok.glob]; exact I.mod.glob.keeps I.bk) hm (by rw [I.ok.blt]; exact h1.keeps I.bk) ((h2 x hn).trans hv) h) hd
theorem znV {x : Str} {v : V} {u : Value} {pos : Pos} (hg : Gl X x) (hm : X.mg x = some u) (r : RelV v u) (hd : (x == ("__debug__" : Str)) = false := by decide) : PE X (.Name x pos) (tC v) :=
  fun _ _ _ H _ I h => zkf I hg hm ⟨v,H,I,r,h⟩ hd
theorem znX {x : Str} {v : V} {u : Value} {pos : Pos} (hg : Gl X x) (hm : X.mg x = none) (hv : bootBuiltins x = some u) (r : RelV v u) (hn : x≠"__name__" := by decide) (hd : (x == ("__debug__" : Str)) = false := by decide) : PE X (.Name x pos) (tC v) :=
  fun _ _ _ H _ I h => ziw I hg hm hv ⟨v,H,I,r,h⟩ hn hd
variable {a b : Expr} {ta tb : TE} {pos : Pos}
variable {tA tB' : TT} {rest : List Expr}
noncomputable def tAnd (t u : TT) : TT := fun σ H Q => t σ H fun c H1 => if c = true then u σ H1 Q else Q false H1
noncomputable def tOr (t u : TT) : TT := fun σ H Q => t σ H fun c H1 => if c = true then Q true H1 else u σ H1 Q
noncomputable def tNot (t : TT) : TT := fun σ H Q => t σ H fun c H1 => Q (! c) H1
theorem znN (ha : PT X a tA) : PW X (.BoolOp .And [a] pos) tA := by
  intro wh pins s σ H Q I h
  refine isTrue_and (thn (ha pins s σ H Q I h) fun c s1 e => ?_)
  cases c with
  | true => exact isTrue_and_nil e
  | false => exact e
theorem zpK (ha : PT X a tA) : PW X (.BoolOp .Or [a] pos) tA := by
  intro wh pins s σ H Q I h
  refine isTrue_or (thn (ha pins s σ H Q I h) fun c s1 e => ?_)
  cases c with
  | false => exact isTrue_or_nil e
  | true => exact e
theorem zpL (ha : PT X a tA) (hb : PW X (.BoolOp .And (b::rest) pos) tB') : PW X (.BoolOp .And (a::b::rest) pos) (tAnd tA tB') := by
  intro wh pins s σ H Q I h
  refine isTrue_and (thn (ha pins s σ H _ I h) fun c s1 ⟨H1,I1,q1⟩ => ?_)
  cases c with
  | true => exact hb wh pins s1 σ H1 Q I1 q1
  | false => exact ⟨H1,I1,q1⟩
theorem zrC (ha : PT X a tA) (hb : PW X (.BoolOp .Or (b::rest) pos) tB') : PW X (.BoolOp .Or (a::b::rest) pos) (tOr tA tB') := by
  intro wh pins s σ H Q I h
  refine isTrue_or (thn (ha pins s σ H _ I h) fun c s1 ⟨H1,I1,q1⟩ => ?_)
  cases c with
  | true => exact ⟨H1,I1,q1⟩
  | false => exact hb wh pins s1 σ H1 Q I1 q1
theorem zpN (ha : PT X a tA) : PT X (.UnaryOp .Not a pos) (tNot tA) := by
  intro pins s σ H Q I h
  exact isTrue_not (ha pins s σ H (fun c H1 => Q (! c) H1) I h)
noncomputable def zrr (ta tb : TE) : TE := fun σ H Q => ta σ H fun x H1 => ∃ c,x = .bl c∧if c = true then tb σ H1 Q else Q (.bl false) H1
noncomputable def zrm (ta : TE) : TE := fun σ H Q => ta σ H fun x H1 => ∃ c,x = .bl c∧Q (.bl (! c)) H1
theorem zpR {op} {t : TE} (h : PE X a t) : PE X (.BoolOp op [a] pos) t := fun pins s σ H Q I hw => BoolOp_one (h pins s σ H Q I hw)
theorem zpX (ha : PE X a ta) (hb : PE X (.BoolOp .And (b::rest) pos) tb) : PE X (.BoolOp .And (a::b::rest) pos) (zrr ta tb) := by
  intro pins s σ H Q I h
  refine BoolOp_and (thn (ha pins s σ H _ I h) fun v s1 ⟨x,H1,I1,r1,q1⟩ => ?_)
  obtain ⟨c,rfl,q1⟩ := q1
  cases r1
  refine wpAny_truthy_bool ?_
  cases c with
  | true => exact hb pins s1 σ H1 Q I1 q1
  | false => exact ⟨.bl false,H1,I1,rfl,q1⟩
theorem zpS (ha : PE X a ta) : PE X (.UnaryOp .Not a pos) (zrm ta) := by
  intro pins s σ H Q I h
  refine UnaryOp_ (thn (ha pins s σ H _ I h) fun v s1 ⟨x,H1,I1,r1,q1⟩ => ?_)
  obtain ⟨c,rfl,q1⟩ := q1
  cases r1
  exact not_of (wpAny_truthy_bool ⟨.bl (! c),H1,I1,rfl,q1⟩)
end
end L2
namespace L2
open PySem PySem.Spec PyProof.Rows
noncomputable def SqL (K : PySem.W.Frag) (H : Hp) (a : Addr) (xs : List V) : Prop :=
  Rd H a (.lst xs) ∨
    ∃ (o : Obj) (its : Array Value) (n : Nat),K.lookup a = some o∧o.cls = .type "list"∧o.dict = none∧o.data = .seq its n∧its.size≤sizeLine∧Vals xs its.toList
noncomputable def SqT (K : PySem.W.Frag) (H : Hp) (a : Addr) (xs : List V) : Prop :=
  Rd H a (.tup xs) ∨
    ∃ (o : Obj) (its : Array Value) (n : Nat),K.lookup a = some o∧o.cls = .type "tuple"∧o.data = .seq its n∧its.size≤sizeLine∧Vals xs its.toList
noncomputable def absV : Value→Option V
  | .none => some .non
  | .bool b => some (.bl b)
  | .int i _ => some (.int i)
  | .str x _ => some (.str x)
  | .bytes b _ => some (.byt b)
  | .float b _ => some (.flt b)
  | .ref a => some (.ref a)
  | .type n => some (.ty n)
  | _ => none
theorem RelV.abs {x : V} {u : Value} (r : RelV x u) : absV u = some x := by
  cases x with
  | non => cases r; rfl
  | bl _ => cases r; rfl
  | int _ => obtain ⟨t,rfl⟩ := r; rfl
  | str _ => obtain ⟨t,rfl⟩ := r; rfl
  | byt _ => obtain ⟨t,rfl⟩ := r; rfl
  | flt _ => obtain ⟨t,rfl⟩ := r; rfl
  | ref _ => cases r; rfl
  | ty _ => cases r; rfl
theorem RelV.inj {x y : V} {u : Value} (r : RelV x u) (q : RelV y u) : x = y := Option.some.inj (r.abs.symm.trans q.abs)
theorem Vals.inj {xs ys : List V} {us : List Value} (h : Vals xs us) (h' : Vals ys us) : xs = ys := by
  induction h generalizing ys with
  | nil => cases h'; rfl
  | cons r t ih =>
    cases h' with
    | cons r' t' => rw [r.inj r',ih t']
section
variable {X : Cx} {pins : List (Addr × Obj)} {σ : St} {H : Hp} {s : Shared} {a : Addr} {xs ys : List V}
theorem SqL.of {K : PySem.W.Frag} (h : H a = some (.lst xs)) : SqL K H a xs := .inl (.inl h)
theorem SqT.of {K : PySem.W.Frag} (h : H a = some (.tup xs)) : SqT K H a xs := .inl (.inl h)
theorem Inv.list (I : Inv X pins σ H s) (h : SqL X.K H a xs) : ∃ its : List Value,Vals xs its∧PlainL s.heap a its.toArray∧xs.length≤sizeLine := by
  rcases h with h | ⟨o,its,n,hk,hc,hd,hs,hz,r⟩
  · obtain ⟨z,its,n,r,e⟩ := h.ok I.hok
    exact ⟨its,r,⟨_,n,e,rfl,rfl,rfl⟩,z⟩
  · refine ⟨its.toList,r,⟨o,n,I.kIn a o hk,hc,hd,by simpa using hs⟩,?_⟩
    have e := r.length
    simp only [Array.length_toList] at e
    omega
theorem Inv.tuple (I : Inv X pins σ H s) (h : SqT X.K H a xs) : ∃ its : List Value,Vals xs its∧IsTup s.heap a its.toArray∧xs.length≤sizeLine := by
  rcases h with h | ⟨o,its,n,hk,hc,hs,hz,r⟩
  · obtain ⟨z,its,r,p,_⟩ := h.ok I.hok
    exact ⟨its,r,p,z⟩
  · refine ⟨its.toList,r,⟨o,I.kIn a o hk,hc,n,by simpa using hs⟩,?_⟩
    have e := r.length
    simp only [Array.length_toList] at e
    omega
theorem Inv.list_inj (I : Inv X pins σ H s) (h : SqL X.K H a xs) (h' : SqL X.K H a ys) : xs = ys := by
  obtain ⟨its,r,⟨o,n,e,_,_,d⟩,_⟩ := I.list h
  obtain ⟨its',r',⟨o',n',e',_,_,d'⟩,_⟩ := I.list h'
  rw [e] at e'; cases e'
  rw [d] at d'
  injection d' with d1 _
  have : its = its' := by simpa using congrArg Array.toList d1
  subst this
  exact r.inj r'
theorem Inv.tuple_inj (I : Inv X pins σ H s) (h : SqT X.K H a xs) (h' : SqT X.K H a ys) : xs = ys := by
  obtain ⟨its,r,⟨o,e,_,n,d⟩,_⟩ := I.tuple h
  obtain ⟨its',r',⟨o',e',_,n',d'⟩,_⟩ := I.tuple h'
  rw [e] at e'; cases e'
  rw [d] at d'
  injection d' with d1 _
  have : its = its' := by simpa using congrArg Array.toList d1
  subst this
  exact r.inj r'
end
noncomputable abbrev Cx.wish (X : Cx) (E : Value→Shared→Prop) : Cx := { X with xe := E }
noncomputable abbrev Cx.nox (X : Cx) : Cx := X.wish fun _ _ => False
theorem Cx.Ok.wish {X : Cx} (ok : X.Ok) (E : Value→Shared→Prop) : (X.wish E).Ok :=
  ⟨ok.mod,ok.kind,ok.glob,ok.blt,ok.above,ok.inj,ok.has,ok.cab,ok.hd,ok.frames,ok.stk,ok.exf,ok.bs,ok.bsz,ok.noex,ok.exfs,ok.funs,ok.frf⟩
theorem Cx.Ok.unwish {X : Cx} {E : Value→Shared→Prop} (ok : (X.wish E).Ok) : X.Ok :=
  ⟨ok.mod,ok.kind,ok.glob,ok.blt,ok.above,ok.inj,ok.has,ok.cab,ok.hd,ok.frames,ok.stk,ok.exf,ok.bs,ok.bsz,ok.noex,ok.exfs,ok.funs,ok.frf⟩
section
variable {X : Cx} {pins : List (Addr × Obj)} {σ : St} {H : Hp} {s : Shared} {E : Value → Shared → Prop}
theorem Inv.wish (I : Inv X pins σ H s) (E : Value→Shared→Prop) : Inv (X.wish E) pins σ H s := ⟨I.ok.wish E,I.os,I.bare,I.base,I.loc,I.cell,I.free,I.freeC,I.pin,I.hok,I.len⟩
theorem Inv.unwish (I : Inv (X.wish E) pins σ H s) : Inv X pins σ H s := ⟨I.ok.unwish,I.os,I.bare,I.base,I.loc,I.cell,I.free,I.freeC,I.pin,I.hok,I.len⟩
theorem SP.unwish {D : Ends} {f : Flow} {s' : Shared} (h : SP (X.wish E) pins D f s') : SP X pins D f s' := by
  cases f with
  | next => obtain ⟨σ',H',I,q⟩ := h; exact ⟨σ',H',I.unwish,q⟩
  | brk => obtain ⟨σ',H',I,q⟩ := h; exact ⟨σ',H',I.unwish,q⟩
  | cont => obtain ⟨σ',H',I,q⟩ := h; exact ⟨σ',H',I.unwish,q⟩
  | ret u => obtain ⟨v,σ',H',I,r,q⟩ := h; exact ⟨v,σ',H',I.unwish,r,q⟩
theorem PSs.nox {st : List Stmt} {t : TS} (h : PSs X.nox st t) : PSs X st t := fun pins s σ H D I hw =>
  wpAny_mono (h pins s σ H D (I.wish _) hw) (fun _ _ q => q.unwish) fun _ _ z => False.elim z
end
section
variable {X : Cx} {st : Stmt} {rest : List Stmt} {t u : TS} {e : Expr} {te : TE} {pos : Pos}
noncomputable def zrn : TS := fun D σ H => D.nx σ H
noncomputable def tSeq (t u : TS) : TS := fun D σ H => t { D with nx := u D } σ H
theorem zfj : PSs X [] zrn := fun _ _ σ H _ I h => wpAny_execs_nil ⟨σ,H,I,h⟩
theorem zb3 (h1 : PS X st t) (h2 : PSs X rest u) : PSs X (st::rest) (tSeq t u) := by
  intro pins s σ H D I h
  refine wpAny_execs_cons (thn (h1 pins s σ H { D with nx := u D } I h) fun f s1 q => ?_)
  cases f with
  | next =>
    obtain ⟨σ',H',I',q⟩ := q
    exact h2 pins s1 σ' H' D I' q
  | ret v => exact q
  | brk => exact q
  | cont => exact q
theorem Inv.quiet {pins : List (Addr × Obj)} {σ : St} {H : Hp} {s : Shared} (I : Inv X pins σ H s) : interactive X.env = false := by simp [interactive,I.ok.kind]
noncomputable def zro (te : TE) : TS := fun D σ H => te σ H fun _ H1 => D.nx σ H1
theorem zhG (he : PE X e te) (hs : swapsWith e none pos.line X.env = pure false := by rfl) : PS X (.Expr e pos) (zro te) := by
  intro pins s σ H D I h
  exact wpAny_Expr_any (thn (he pins s σ H _ I h) fun v s1 ⟨x,H1,I1,r1,q1⟩ => ⟨σ,H1,I1,q1⟩) I.quiet hs
noncomputable def tRet (te : TE) : TS := fun D σ H => te σ H D.rt
theorem zjN (he : PE X e te) : PS X (.Return (some e) pos) (tRet te) := by
  intro pins s σ H D I h
  exact wpAny_Return_some (thn (he pins s σ H _ I h) fun v s1 ⟨x,H1,I1,r1,q1⟩ => ⟨x,σ,H1,I1,r1,q1⟩)
noncomputable def tIfS (c : TT) (t u : TS) : TS := fun D σ H => c σ H fun b H1 => if b = true then t D σ H1 else u D σ H1
theorem zpO {c : Expr} {a b : List Stmt} {tc : TT} (hc : PT X c tc) (ha : PSs X a t) (hb : PSs X b u) : PS X (.If c a b pos) (tIfS tc t u) := by
  intro pins s σ H D I h
  refine wpAny_If (thn (hc pins s σ H _ I h) fun d s1 ⟨H1,I1,q1⟩ => ?_)
  cases d with
  | true => exact ha pins s1 σ H1 D I1 q1
  | false => exact hb pins s1 σ H1 D I1 q1
noncomputable def zo4 : TS := fun _ _ _ => False
theorem zlB : PS X st zo4 := fun _ _ _ _ _ _ h => h.elim
end
noncomputable abbrev TG := V→St→Hp→(St→Hp→Prop)→Prop
noncomputable abbrev TGs := List V→St→Hp→(St→Hp→Prop)→Prop
noncomputable def PG (X : Cx) (target : Expr) (t : TG) : Prop :=
  ∀ (pins : List (Addr × Obj)) (s : Shared) (σ : St) (H : Hp) (v : V) (u : Value) (Q : St→Hp→Prop),Inv X pins σ H s→RelV v u→t v σ H Q →
    wpAny (model X.prog X.w) X.A (assign target X.env u) (fun _ s' => ∃ σ' H',Inv X pins σ' H' s'∧Q σ' H') X.xe s
noncomputable def PGs (X : Cx) (ts : List Expr) (t : TGs) : Prop :=
  ∀ (pins : List (Addr × Obj)) (s : Shared) (σ : St) (H : Hp) (vs : List V) (us : List Value) (Q : St→Hp→Prop),Inv X pins σ H s→Vals vs us→t vs σ H Q →
    wpAny (model X.prog X.w) X.A (assignInOrder ((assignEach ts X.env).map (·.2)) us) (fun _ s' => ∃ σ' H',Inv X pins σ' H' s'∧Q σ' H') X.xe s
noncomputable abbrev TSet := V→V→V→Hp→(Hp→Prop)→Prop
noncomputable def PSet (X : Cx) (t : TSet) : Prop :=
  ∀ (pins : List (Addr × Obj)) (s : Shared) (σ : St) (H : Hp) (o i v : V) (ov iv u : Value) (Q : Hp→Prop),Inv X pins σ H s→RelV o ov→RelV i iv→RelV v u→t o i v H Q →
    wpAny (model X.prog X.w) X.A (setItem ov iv u) (fun _ s' => ∃ H',Inv X pins σ H' s'∧Q H') X.xe s
section
variable {X : Cx} {pos : Pos}
noncomputable def zqJ (i : Nat) : TG := fun v σ H Q => Q (σ.set i (some v)) H
theorem znT {i : Nat} {x : Str} (hN : X.N.Nodup) (hi : X.N[i]? = some x) (hx : Loc X.env.scope x) (hf : X.fn x = true∨X.env.scope.names.lookup x = some .local := by first | exact .inl rfl | exact .inr rfl | assumption) : PG X (.Name x pos) (zqJ i) := by
  intro pins s σ H v u Q I r h
  exact wpAny_assign_Name (zib I hN hi hx r (fun s' I' => ⟨_,H,I',h⟩) hf)
noncomputable def gNil : TGs := fun vs σ H Q => vs = []∧Q σ H
noncomputable def zrW (t : TG) (u : TGs) : TGs := fun vs σ H Q => ∃ v r,vs = v::r∧t v σ H fun σ' H' => u r σ' H' Q
theorem znS : PGs X [] gNil := by
  intro pins s σ H vs us Q I r h
  obtain ⟨e,h⟩ := h
  subst e
  cases r
  exact assignInOrder_nil ⟨σ,H,I,h⟩
theorem zlE {e : Expr} {es : List Expr} {t : TG} {u : TGs} (h1 : PG X e t) (h2 : PGs X es u)
    (hs : (assignEach (e::es) X.env).map (·.2) = assign e X.env::(assignEach es X.env).map (·.2) := by rfl) : PGs X (e::es) (zrW t u) := by
  intro pins s σ H vs us Q I r h
  obtain ⟨v,vr,e1,h⟩ := h
  subst e1
  cases r with
  | cons r rr =>
    rw [hs]
    refine assignInOrder_cons (thn (h1 pins s σ H _ _ _ I r h) fun _ s1 ⟨σ1,H1,I1,q1⟩ => ?_)
    exact h2 pins s1 σ1 H1 _ _ Q I1 rr q1
noncomputable def gTup (K : PySem.W.Frag) (n : Nat) (t : TGs) : TG := fun v σ H Q => ∃ a xs,v = .ref a∧SqT K H a xs∧xs.length = n∧t xs σ H Q
theorem zpP {es : List Expr} {k : Nat} {t : TGs} {n : Nat} (hc : X.calm = true) (h : PGs X es t)
    (hn : (assignEach es X.env).length = n := by rfl) (hst : (assignEach es X.env).findIdx? (·.1) = none := by rfl) : PG X (.Tuple es k pos) (gTup X.K n t) := by
  intro pins s σ H v u Q I r hw
  obtain ⟨a,xs,e1,hq,hl,hw⟩ := hw
  subst e1
  cases r
  obtain ⟨its,rv,ht,hz⟩ := I.tuple hq
  refine assign_Tuple_tuple (I.ok.hd hc) ht (by simp [hn,← hl,rv.length]) hst fun h' hx => ?_
  have I1 : Inv X pins σ H { s with heap := h' } := I.kept (t' := s.toks) fun b o e => hx b o (Nat.ne_of_lt (Heap.lt_size e)) e
  exact h pins _ σ H xs _ Q I1 (by simpa using rv) hw
noncomputable def gSub (to ti : TE) (t : TSet) : TG := fun v σ H Q => to σ H fun o H1 => ti σ H1 fun i H2 => t o i v H2 fun H3 => Q σ H3
theorem zmD {o i : Expr} {to ti : TE} {t : TSet} (ho : PE X o to) (hi : PE X i ti) (hs : PSet X t)
    (ha : ∀ v,assign (.Subscript o i pos) X.env v = (do
      let ov ← holding [v] (eval o X.env)
      let iv ← holding [v,ov] (eval i X.env)
      standAt pos
      holding [v,ov,iv] (setItem ov iv v)
      release [v,ov,iv] []) := by intro _; rfl) : PG X (.Subscript o i pos) (gSub to ti t) := by
  intro pins s σ H v u Q I r h
  rw [ha]
  refine wpAny_bind (wpAny_holding (thn (ho pins s σ H _ I h) fun ov s1 ⟨x,H1,I1,r1,q1⟩ => ?_))
  refine wpAny_bind (wpAny_holding (thn (hi pins s1 σ H1 _ I1 q1) fun iv s2 ⟨y,H2,I2,r2,q2⟩ => ?_))
  refine wpAny_bind (wpAny_standAt (wpAny_bind (wpAny_holding (thn (hs pins s2 σ H2 x y v ov iv u _ I2 r1 r2 r q2) fun _ s3 ⟨H3,I3,q3⟩ => ?_))))
  exact wpAny_release ⟨σ,H3,I3,q3⟩
noncomputable def tAsg (te : TE) (g : TG) : TS := fun D σ H => te σ H fun x H1 => g x σ H1 D.nx
theorem zmC {tg e : Expr} {te : TE} {g : TG} (he : PE X e te) (hg : PG X tg g) (hs : swapsWithSole [tg] e pos.line X.env = pure false := by rfl) (hw : swappedStores [tg] e X.env = pure none := by rfl)
    (h1 : (assignEach [tg] X.env).map (·.2) = [assign tg X.env] := by rfl) : PS X (.Assign [tg] e pos) (tAsg te g) := by
  intro pins s σ H D I h
  refine wpAny_Assign_stores (thn (he pins s σ H _ I h) fun v s1 ⟨x,H1,I1,r1,q1⟩ => ?_) hs hw
  rw [h1]
  exact thn (hg pins s1 σ H1 x v _ I1 r1 q1) fun _ s2 q => q
theorem zin {i : Nat} {x : Str} {e : Expr} {te : TE} {pos' : Pos} (hN : X.N.Nodup) (hi : X.N[i]? = some x) (hx : Loc X.env.scope x) (he : PE X e te) (hs : swapsWith e (some (.Name x pos')) pos.line X.env = pure false := by rfl) (hf : X.fn x = true∨X.env.scope.names.lookup x = some .local := by first | exact .inl rfl | exact .inr rfl | assumption) :
    PS X (.Assign [.Name x pos'] e pos) (tAsg te (zqJ i)) := by
  intro pins s σ H D I h
  refine wpAny_Assign_Name (thn (he pins s σ H _ I h) fun v s1 ⟨y,H1,I1,r1,q1⟩ => ?_) hs
  exact zib I1 hN hi hx r1 (fun s2 I2 => ⟨_,H1,I2,q1⟩) hf
end
section
variable {X : Cx} {pos : Pos}
noncomputable def zo3 (c : TT) (tb : TS) : TS := fun D σ H => ∃ W : Nat→St→Hp→Prop,(∃ m,W m σ H)∧∀ m σ H,W m σ H →
  c σ H fun b H1 => if b = true then ∃ N : St→Hp→Prop,(∀ σ' H',N σ' H'→∃ m',m' < m∧W m' σ' H')∧tb { D with nx := N,ct := N,bk := D.nx } σ H1 else D.nx σ H1
theorem zlA {c : Expr} {body : List Stmt} {tc : TT} {tb : TS} (hp : PassesOwn (model X.prog X.w) X.A X.env X.xe) (hc : PT X c tc) (hb : PSs X body tb) : PS X (.While c body [] pos) (zo3 tc tb) := by
  intro pins s σ H D I h
  obtain ⟨W,⟨m0,w0⟩,turn⟩ := h
  refine wpAny_While (codeAny_whileLoop (fun n s' => ∃ σ' H',Inv X pins σ' H' s'∧W n σ' H') ?_ m0 ⟨σ,H,I,w0⟩)
  rintro n s1 ⟨σ1,H1,I1,w1⟩
  refine wpAny_passesOwn hp (thn (hc pins s1 σ1 H1 _ I1 (turn n σ1 H1 w1)) fun b s2 ⟨H2,I2,q2⟩ => ?_)
  cases b with
  | true =>
    obtain ⟨N,hN,q2⟩ := q2
    rw [if_pos rfl]
    refine wpAny_passesOwn hp (thn (hb pins s2 σ1 H2 _ I2 q2) fun f s3 q3 => ?_)
    cases f with
    | next =>
      obtain ⟨σ3,H3,I3,n3⟩ := q3
      obtain ⟨m',hm,w3⟩ := hN σ3 H3 n3
      exact ⟨m',hm,σ3,H3,I3,w3⟩
    | cont =>
      obtain ⟨σ3,H3,I3,n3⟩ := q3
      obtain ⟨m',hm,w3⟩ := hN σ3 H3 n3
      exact ⟨m',hm,σ3,H3,I3,w3⟩
    | brk => exact q3
    | ret v => exact q3
  | false =>
    rw [if_neg Bool.false_ne_true]
    exact wpAny_execs_nil ⟨σ1,H2,I2,q2⟩
end
structure It where
  go : Nat→Hp→Prop
  yld : Nat→Hp→V→Hp→Prop
  stop : Nat→Hp→Prop
noncomputable def FpOk (X : Cx) (pins : List (Addr × Obj)) (H : Hp) (b : Addr) : Prop :=
  H b = none∧b≠X.env.locals∧b∉X.fs∧(b∈X.ex∨X.s₀.heap.objs.size≤b)∧(∀ x c,X.env.cells.lookup x = some c→c≠b)∧∀ p∈X.pn++pins,p.1≠b
theorem Inv.fpOk {X : Cx} {pins : List (Addr × Obj)} {σ : St} {H H' : Hp} {s : Shared} {b : Addr} (I : Inv X pins σ H s) (hb : s.heap.objs.size≤b) (hn : H' b = none) : FpOk X pins H' b := by
  refine ⟨hn,Nat.ne_of_gt (Nat.lt_of_lt_of_le I.lt hb),I.nofs hb,.inr (Nat.le_trans I.sz hb),fun x c e z => ?_,fun p hp z => ?_⟩
  · obtain ⟨v,q⟩ := I.cell x c e
    exact absurd (Nat.lt_of_lt_of_le q.lt (by rw [z]; exact hb)) (Nat.lt_irrefl _)
  · exact absurd (Nat.lt_of_lt_of_le (Heap.lt_size (I.pin p hp).1) (by rw [z]; exact hb)) (Nat.lt_irrefl _)
structure Turn (P : Program) (w : World) (K : PySem.W.Frag) (tg : Expr) (J : It) (fp : List Addr) (it : Addr) (tn : Nat→Heap→Prop) : Prop where
  mem : it∈fp
  obj : ∀ i h,tn i h→∀ b∈fp,∃ o,h.get? b = some o∧∀ v,o.data≠.cell v
  keep : ∀ i h h',tn i h→(∀ b∈fp,∀ o,h.get? b = some o→h'.get? b = some o)→tn i h'
  item : ∀ (X : Cx),X.prog = P→X.w = w→X.K = K→X.calm = true→∀ (i : Nat) (pins : List (Addr × Obj)) (s : Shared) (σ : St) (H : Hp) (E : Value→Shared→Prop),Inv X pins σ H s→(∀ b∈fp,FpOk X pins H b)→tn i s.heap→J.go i H →
    wpAny (model P w) X.A (pyNext (.ref it)) (fun r s1 => ∃ u,r = some u ∧
      wpAny (model P w) X.A (letOwnedTupleGo tg (.ref it) u) (fun _ s2 => ∃ x H',Inv X pins σ H' s2∧RelV x u∧J.yld i H x H'∧tn (i + 1) s2.heap∧∀ b∈fp,H' b = none) E s1) E s
  done : ∀ (X : Cx),X.prog = P→X.w = w→X.K = K→X.calm = true→∀ (i : Nat) (pins : List (Addr × Obj)) (s : Shared) (σ : St) (H : Hp) (E : Value→Shared→Prop),Inv X pins σ H s→(∀ b∈fp,FpOk X pins H b)→tn i s.heap→J.stop i H →
    wpAny (model P w) X.A (pyNext (.ref it)) (fun r s1 => r = none∧Inv X pins σ H s1) E s
  self : ∀ (A : Around) (i : Nat) (s : Shared) (Q : Value→Shared→Prop) (E : Value→Shared→Prop),tn i s.heap→Q (.ref it) s→wpAny (model P w) A (pyIter (.ref it)) Q E s
noncomputable abbrev TI := St→Hp→(It→Hp→Prop)→Prop
noncomputable def PIE (X : Cx) (pins : List (Addr × Obj)) (σ : St) (tg : Expr) (R : It→Hp→Prop) (itv : Value) (s2 : Shared) : Prop :=
  ∃ (it : Addr) (fp : List Addr) (tn : Nat→Heap→Prop) (J : It) (H' : Hp),itv = .ref it∧Inv X pins σ H' s2∧Turn X.prog X.w X.K tg J fp it tn∧tn 0 s2.heap∧(∀ b∈fp,FpOk X pins H' b)∧R J H'
noncomputable def PI (X : Cx) (tg iter : Expr) (wi : TI) : Prop :=
  ∀ (pins : List (Addr × Obj)) (s : Shared) (σ : St) (H : Hp) (R : It→Hp→Prop),Inv X pins σ H s→wi σ H R →
    wpAny (model X.prog X.w) X.A (eval iter X.env) (fun v s1 => wpAny (model X.prog X.w) X.A (pyIter v) (PIE X pins σ tg R) X.xe s1) X.xe s
theorem zl4 {M : Model} {A : Around} {E : Value→Shared→Prop} {s : Shared} {tg : Expr} {it : Addr} {u : Value} {o : Obj} {n : String} {vs : Array Value} {Q : Unit→Shared→Prop} (ho : s.heap.get? it = some o) (hc : o.cls = .type n) (hd : o.data = .fields vs)
    (hn : ["enumerate","zip","dict_itemiterator","dict_reverseitemiterator","odict_iterator","itertools.zip_longest","itertools.pairwise"].contains n = false) (hQ : Q () s) : wpAny M A (letOwnedTupleGo tg (.ref it) u) Q E s := by
  unfold letOwnedTupleGo
  cases tg <;> first
    | exact wpAny_pure hQ
    | (cases u <;> first
        | exact wpAny_pure hQ
        | (refine wpAny_bind (wpAny_load ho ?_)
           rw [hc,hd]
           show wpAny M A (if (["enumerate","zip","dict_itemiterator","dict_reverseitemiterator","odict_iterator","itertools.zip_longest","itertools.pairwise"].contains n && vs[0]? == some (rawInt _)) = true then _ else _) Q E s
           rw [if_neg (by intro h; rw [hn,Bool.false_and] at h; cases h)]
           exact wpAny_pure hQ))
noncomputable def Itl (K : PySem.W.Frag) (a : Addr) : It :=
  ⟨fun i H => ∃ xs x,SqL K H a xs∧xs[i]? = some x,fun i H x H' => H' = H∧∀ xs,SqL K H a xs→xs[i]? = some x,fun i H => ∃ xs,SqL K H a xs∧xs.length≤i⟩
noncomputable def Itt (K : PySem.W.Frag) (a : Addr) : It :=
  ⟨fun i H => ∃ xs x,SqT K H a xs∧xs[i]? = some x,fun i H x H' => H' = H∧∀ xs,SqT K H a xs→xs[i]? = some x,fun i H => ∃ xs,SqT K H a xs∧xs.length≤i⟩
noncomputable def Itr (lo : Int) (n : Nat) : It := ⟨fun i _ => i < n,fun i H x H' => H' = H∧x = .int (lo + i),fun i _ => n≤i⟩
theorem zjl {P : Program} {w : World} {K : PySem.W.Frag} {tg : Expr} (a it : Addr) : Turn P w K tg (Itl K a) [it] it (fun i h => h.IsListIter it a i) where
  mem := by simp
  obj := fun i h st b hb => by
    have e : b = it := by simpa using hb
    subst e
    obtain ⟨o,e,c,d⟩ := st
    exact ⟨o,e,fun v z => by rw [d] at z; cases z⟩
  keep := fun i h h' st k => st.at fun o e => k it (by simp) o e
  item := by
    intro X hP hw hK hc i pins s σ H E I hf st hg
    subst hP hw hK
    obtain ⟨xs,x,hq,hx⟩ := hg
    obtain ⟨its,rv,p,hz⟩ := I.list hq
    obtain ⟨u,hu,ru⟩ := rv.get hx
    obtain ⟨f0,f1,f2,f3,f4,f5⟩ := hf it (by simp)
    refine wpAny_pyNext_list_item st p.isList (x := u) (by simpa using hu) fun h' st' sb => ?_
    have I1 : Inv X pins σ H { s with heap := h' } := I.turned (t' := s.toks) (fun b o hb e => (sb.2 b hb).trans e) f0 f1 f3 f4 f5
    obtain ⟨o,e,c,d⟩ := id st'
    exact ⟨u,rfl,zl4 (s := { s with heap := h' }) e c d (by decide) ⟨x,H,I1,ru,⟨rfl,fun ys hy => by rw [I.list_inj hy hq]; exact hx⟩,st',fun b hb => (hf b hb).1⟩⟩
  done := by
    intro X hP hw hK hc i pins s σ H E I hf st hg
    subst hP hw hK
    obtain ⟨xs,hq,hx⟩ := hg
    obtain ⟨its,rv,p,hz⟩ := I.list hq
    obtain ⟨f0,f1,f2,f3,f4,f5⟩ := hf it (by simp)
    have hl := rv.length
    exact wpAny_pyNext_list_end (I.ok.hd hc) st p.isList (by simp; omega) fun h' eb => ⟨rfl,I.turned (t' := s.toks) (fun b o hb e => eb b o hb e) f0 f1 f3 f4 f5⟩
  self := fun _ _ _ _ _ st h => wpAny_pyIter_listiter st h
theorem ziJ {P : Program} {w : World} {K : PySem.W.Frag} {tg : Expr} (a it : Addr) : Turn P w K tg (Itt K a) [it] it (fun i h => h.IsTupleIter it a i) where
  mem := by simp
  obj := fun i h st b hb => by
    have e : b = it := by simpa using hb
    subst e
    obtain ⟨o,e,c,d⟩ := st
    exact ⟨o,e,fun v z => by rw [d] at z; cases z⟩
  keep := fun i h h' st k => st.at fun o e => k it (by simp) o e
  item := by
    intro X hP hw hK hc i pins s σ H E I hf st hg
    subst hP hw hK
    obtain ⟨xs,x,hq,hx⟩ := hg
    obtain ⟨its,rv,p,hz⟩ := I.tuple hq
    obtain ⟨u,hu,ru⟩ := rv.get hx
    obtain ⟨f0,f1,f2,f3,f4,f5⟩ := hf it (by simp)
    refine wpAny_pyNext_tuple_item st (show s.heap.IsTuple a its.toArray from p) (x := u) (by simpa using hu) fun h' st' sb => ?_
    have I1 : Inv X pins σ H { s with heap := h' } := I.turned (t' := s.toks) (fun b o hb e => (sb.2 b hb).trans e) f0 f1 f3 f4 f5
    obtain ⟨o,e,c,d⟩ := id st'
    exact ⟨u,rfl,zl4 (s := { s with heap := h' }) e c d (by decide) ⟨x,H,I1,ru,⟨rfl,fun ys hy => by rw [I.tuple_inj hy hq]; exact hx⟩,st',fun b hb => (hf b hb).1⟩⟩
  done := by
    intro X hP hw hK hc i pins s σ H E I hf st hg
    subst hP hw hK
    obtain ⟨xs,hq,hx⟩ := hg
    obtain ⟨its,rv,p,hz⟩ := I.tuple hq
    obtain ⟨f0,f1,f2,f3,f4,f5⟩ := hf it (by simp)
    have hl := rv.length
    exact wpAny_pyNext_tuple_end (I.ok.hd hc) st (show s.heap.IsTuple a its.toArray from p) (by simp; omega) fun h' eb => ⟨rfl,I.turned (t' := s.toks) (fun b o hb e => eb b o hb e) f0 f1 f3 f4 f5⟩
  self := fun _ _ _ _ _ st h => wpAny_pyIter_tupleiter st h
theorem ziK {P : Program} {w : World} {K : PySem.W.Frag} {tg : Expr} (it : Addr) (lo : Int) (n : Nat) : Turn P w K tg (Itr lo n) [it] it (fun i h => IsRangeIter h it (lo + (i : Nat) * 1) ((n : Int) - (i : Nat)) 1) where
  mem := by simp
  obj := fun i h st b hb => by
    have e : b = it := by simpa using hb
    subst e
    exact ⟨_,st,fun v z => by
      have z' : Data.fields _ = Data.cell v := z
      cases z'⟩
  keep := fun i h h' st k => k it (by simp) _ st
  item := by
    intro X hP hw hK hc i pins s σ H E I hf st hg
    subst hP hw hK
    obtain ⟨f0,f1,f2,f3,f4,f5⟩ := hf it (by simp)
    have W := Walks.range (prog := X.prog) (w := X.w) (I.ok.hd hc) it lo 1 n
    refine W.item i s _ _ hg st fun v h' tk hv st' kk => ?_
    obtain ⟨t,rfl⟩ := hv
    have I1 : Inv X pins σ H { s with heap := h',toks := tk } := I.turned (fun b o hb e => kk b o (by simpa using hb) e) f0 f1 f3 f4 f5
    refine ⟨_,rfl,zl4 (s := { s with heap := h',toks := tk }) (n := "range_iterator") st' rfl rfl (by decide) ⟨.int (lo + i),H,I1,⟨t,?_⟩,⟨rfl,rfl⟩,st',fun b hb => (hf b hb).1⟩⟩
    rw [Int.mul_one]
  done := by
    intro X hP hw hK hc i pins s σ H E I hf st hg
    subst hP hw hK
    obtain ⟨f0,f1,f2,f3,f4,f5⟩ := hf it (by simp)
    exact wpAny_pyNext_range_end (I.ok.hd hc) st (by have : n≤i := hg; omega) fun h' eb => ⟨rfl,I.turned (t' := s.toks) (fun b o hb e => eb b o hb e) f0 f1 f3 f4 f5⟩
  self := fun _ _ _ _ _ st h => wpAny_pyIter_rangeiter st h
end L2
namespace L2
open PySem PySem.Spec PyProof.Rows
section
variable {X : Cx} {tg : Expr}
theorem zlw {pins : List (Addr × Obj)} {σ : St} {H : Hp} {s : Shared} {R : It→Hp→Prop} {E : Value→Shared→Prop} {lo hi : Int} {t u v : Tok} {tk : Nat} (I : Inv X pins σ H s) (h1 : -(2 ^ 62)≤lo) (h2 : lo < 2 ^ 62) (h3 : -(2 ^ 62)≤hi) (h4 : hi < 2 ^ 62)
    (q : R (Itr lo (hi - lo).toNat) H) : wpAny (model X.prog X.w) X.A (pyIter (.ref s.heap.objs.size)) (PIE X pins σ tg R) E { s with heap := s.heap.push { cls := .type "range",data := .fields #[.int lo t,.int hi u,.int 1 v] },toks := tk } := by
  refine wpAny_pyIter_range (IsRange.new ..) (small_one h1 h2 h3 h4) ?_
  have I1 : Inv X pins σ H { s with heap := s.heap.push { cls := .type "range",data := .fields #[.int lo t,.int hi u,.int 1 v] },toks := tk } := I.kept fun b o e => Heap.get?_push_of_some _ e
  refine ⟨(s.heap.push { cls := .type "range",data := .fields #[.int lo t,.int hi u,.int 1 v] }).objs.size,[(s.heap.push { cls := .type "range",data := .fields #[.int lo t,.int hi u,.int 1 v] }).objs.size],_,_,H,rfl,
    I1.kept (t' := tk) fun b o e => Heap.get?_push_of_some _ e,ziK _ lo (hi - lo).toNat,?_,fun b hb => ?_,q⟩
  · have e1 : lo + ((0 : Nat) : Int) * 1 = lo := by simp
    have e2 : (((hi - lo).toNat : Nat) : Int) - ((0 : Nat) : Int) = Builtin.Range.rangeSize lo hi 1 := by rw [rangeSize_one]; split <;> omega
    show IsRangeIter _ _ (lo + ((0 : Nat) : Int) * 1) ((((hi - lo).toNat : Nat) : Int) - ((0 : Nat) : Int)) 1
    rw [e1,e2]
    exact Heap.get?_push_size _ rfl
  · have e : b = (s.heap.push { cls := .type "range",data := .fields #[.int lo t,.int hi u,.int 1 v] }).objs.size := by simpa using hb
    subst e
    exact I1.fpOk (Nat.le_refl _) (I1.hok.fresh (Nat.le_refl _))
noncomputable def zrV (ta : TA) : TI := fun σ H R => ta σ H fun vs H1 => ∃ j : Int,vs = [.int j]∧-(2 ^ 62)≤j∧j < 2 ^ 62∧R (Itr 0 j.toNat) H1
theorem zjQ {a : Expr} {ta : TA} {p pos : Pos} (hg : Gl X "range") (hm : X.mg "range" = none) (ha : PA X [a] ta) (hs : starEach [a] X.env = [(false,eval a X.env)] := by rfl) : PI X tg (.Call (.Name "range" p) [a] [] pos) (zrV ta) := by
  intro pins s σ H R I h
  refine Call_ (ziw I hg hm boot_range (PyProof.Rows.callWith_type1 (thn (ha pos pins s σ H _ I h) fun us s1 ⟨vs,H1,I1,r1,q1⟩ => ?_) hs rfl))
  obtain ⟨j,e,q1,q2,q⟩ := q1
  subst e
  cases r1 with
  | cons r rr =>
    cases rr
    obtain ⟨t,rfl⟩ := r
    exact call_range_1 (zlw I1 (by omega) (by omega) q1 q2 (by simpa using q))
noncomputable def tFor (wi : TI) (g : TG) (tb : TS) : TS := fun D σ H => wi σ H fun J H1 => ∃ W : Nat→Nat→St→Hp→Prop,(∃ m,W 0 m σ H1)∧∀ i m σ H,W i m σ H →
  (J.stop i H∧D.nx σ H)∨(J.go i H∧∃ N : St→Hp→Prop,(∀ σ' H',N σ' H'→∃ m',m' < m∧W (i + 1) m' σ' H')∧∀ x H',J.yld i H x H'→g x σ H' fun σ2 H2 => tb { D with nx := N,ct := N,bk := D.nx } σ2 H2)
noncomputable def zfO (fp : List Addr) (h : Heap) : List (Addr × Obj) := fp.filterMap fun b => (h.get? b).map fun o => (b,o)
theorem zcd {fp : List Addr} {h : Heap} {b : Addr} {o : Obj} (hb : b∈fp) (e : h.get? b = some o) : (b,o)∈zfO fp h := List.mem_filterMap.mpr ⟨b,hb,by rw [e]; rfl⟩
theorem zj1 {fp : List Addr} {h : Heap} {p : Addr × Obj} (hp : p∈zfO fp h) : p.1∈fp∧h.get? p.1 = some p.2 := by
  obtain ⟨b,hb,e⟩ := List.mem_filterMap.mp hp
  cases q : h.get? b with
  | none => rw [q] at e; cases e
  | some o =>
    rw [q] at e
    have e' : (b,o) = p := Option.some.inj e
    subst e'
    exact ⟨hb,q⟩
theorem Inv.pinned {pins : List (Addr × Obj)} {σ : St} {H : Hp} {s : Shared} {fp : List Addr} (I : Inv X pins σ H s) (hf : ∀ b∈fp,FpOk X pins H b) (ho : ∀ b∈fp,∃ o,s.heap.get? b = some o∧∀ v,o.data≠.cell v) : Inv X (pins++zfO fp s.heap) σ H s :=
  I.pins_of fun p hp => (List.mem_append.mp hp).elim (fun z => I.pin p (List.mem_append_right _ z)) fun z => by
    obtain ⟨hb,e⟩ := zj1 z
    obtain ⟨f0,f1,f2,_⟩ := hf p.1 hb
    obtain ⟨o,e',d⟩ := ho p.1 hb
    rw [e] at e'; cases e'
    exact ⟨e,f0,f1,f2,d⟩
theorem Inv.unpinned {pins pl : List (Addr × Obj)} {σ : St} {H : Hp} {s : Shared} (I : Inv X (pins++pl) σ H s) : Inv X pins σ H s := I.pins_of fun p hp => I.pin p (List.mem_append_right _ (List.mem_append_left _ hp))
theorem zgS {iter : Expr} {body : List Stmt} {wi : TI} {g : TG} {tb : TS} {pos : Pos} (hp : PassesOwn (model X.prog X.w) X.A X.env X.xe) (hc : X.calm = true) (hi : PI X tg iter wi) (hg : PG X tg g) (hb : PSs X body tb)
    (hs : ∀ x,foldedSetIterable iter X.env x = pure x := by intro _; rfl) : PS X (.For tg iter body [] pos) (tFor wi g tb) := by
  intro pins s σ H D I h
  refine wpAny_For (thn (hi pins s σ H _ I h) fun v s1 h1 => thn h1 fun itv s2 h2 => ?_) hs
  obtain ⟨it,fp,tn,J,H2,e,I2,T,st2,f2,W,⟨m0,w0⟩,turn⟩ := h2
  subst e
  have stat : ∀ {H' : Hp},(∀ b∈fp,H' b = none)→∀ b∈fp,FpOk X pins H' b := fun hn b hb => ⟨hn b hb,(f2 b hb).2⟩
  refine codeAny_forLoop_any (fun n s' => ∃ i σ' H',Inv X pins σ' H' s'∧tn i s'.heap∧(∀ b∈fp,H' b = none)∧W i n σ' H') ?_ m0 ⟨0,σ,H2,I2,st2,fun b hb => (f2 b hb).1,w0⟩
  rintro n s3 ⟨i,σ3,H3,I3,st3,fr3,w3⟩
  rcases turn i n σ3 H3 w3 with ⟨stop,qn⟩ | ⟨go,N,hN,step⟩
  · refine wpAny_passesOwn hp (thn (T.done X rfl rfl rfl hc i pins s3 σ3 H3 X.xe I3 (stat fr3) st3 stop) fun r s4 ⟨hr,I4⟩ => ?_)
    subst hr
    exact wpAny_execs_nil ⟨σ3,H3,I4,qn⟩
  · refine wpAny_passesOwn hp (thn (T.item X rfl rfl rfl hc i pins s3 σ3 H3 X.xe I3 (stat fr3) st3 go) fun r s4 ⟨u,hr,h4⟩ => ?_)
    subst hr
    refine wpAny_passesOwn hp (thn h4 fun _ s5 ⟨x,H5,I5,r5,y5,st5,fr5⟩ => ?_)
    have I5' := I5.pinned (stat fr5) (T.obj _ _ st5)
    refine wpAny_passesOwn hp (thn (hg _ s5 σ3 H5 x u _ I5' r5 (step x H5 y5)) fun _ s6 ⟨σ6,H6,I6,q6⟩ => ?_)
    refine wpAny_passesOwn hp (thn (hb _ s6 σ6 H6 _ I6 q6) fun f s7 q7 => ?_)
    have again : ∀ {σ7 : St} {H7 : Hp},Inv X (pins++zfO fp s5.heap) σ7 H7 s7→N σ7 H7→∃ m,m < n∧∃ i σ' H',Inv X pins σ' H' s7∧tn i s7.heap∧(∀ b∈fp,H' b = none)∧W i m σ' H' := fun {σ7 H7} I7 n7 => by
      obtain ⟨m',hm,w7⟩ := hN σ7 H7 n7
      refine ⟨m',hm,i + 1,σ7,H7,I7.unpinned,T.keep _ _ _ st5 fun b hb o e => (I7.pin (b,o) (List.mem_append_right _ (List.mem_append_right _ (zcd hb e)))).1,fun b hb => ?_,w7⟩
      obtain ⟨o,e,d⟩ := T.obj _ _ st5 b hb
      exact (I7.pin (b,o) (List.mem_append_right _ (List.mem_append_right _ (zcd hb e)))).2.1
    cases f with
    | next => obtain ⟨σ7,H7,I7,n7⟩ := q7; exact again I7 n7
    | cont => obtain ⟨σ7,H7,I7,n7⟩ := q7; exact again I7 n7
    | brk => obtain ⟨σ7,H7,I7,q7⟩ := q7; exact ⟨σ7,H7,I7.unpinned,q7⟩
    | ret v => obtain ⟨x7,σ7,H7,I7,r7,q7⟩ := q7; exact ⟨x7,σ7,H7,I7.unpinned,r7,q7⟩
end
end L2
namespace L2
open PySem PySem.Spec PyProof.Rows
noncomputable abbrev R2 := V→V→Hp→VK→Prop
noncomputable def OpR (X : Cx) (f : Value→Value→Sem Value) (r : R2) : Prop :=
  ∀ (pins : List (Addr × Obj)) (s : Shared) (σ : St) (H : Hp) (x y : V) (v u : Value) (Q : VK),Inv X pins σ H s→RelV x v→RelV y u→r x y H Q →
    wpAny (model X.prog X.w) X.A (f v u) (EP X pins σ Q) X.xe s
noncomputable def UnR (X : Cx) (f : Value→Sem Value) (r : V→Hp→VK→Prop) : Prop :=
  ∀ (pins : List (Addr × Obj)) (s : Shared) (σ : St) (H : Hp) (x : V) (v : Value) (Q : VK),Inv X pins σ H s→RelV x v→r x H Q →
    wpAny (model X.prog X.w) X.A (f v) (EP X pins σ Q) X.xe s
noncomputable def zdh (X : Cx) (f : Value) (r : List V→Hp→VK→Prop) : Prop :=
  ∀ (pins : List (Addr × Obj)) (s : Shared) (σ : St) (H : Hp) (xs : List V) (us : List Value) (Q : VK),Inv X pins σ H s→Vals xs us→r xs H Q →
    wpAny (model X.prog X.w) X.A (call f us) (EP X pins σ Q) X.xe s
noncomputable def TruR (X : Cx) (r : V→Hp→(Bool→Hp→Prop)→Prop) : Prop :=
  ∀ (pins : List (Addr × Obj)) (s : Shared) (σ : St) (H : Hp) (x : V) (v : Value) (Q : Bool→Hp→Prop),Inv X pins σ H s→RelV x v→r x H Q →
    wpAny (model X.prog X.w) X.A (truthy v) (TP X pins σ Q) X.xe s
noncomputable def tOp (r : R2) (ta tb : TE) : TE := fun σ H Q => ta σ H fun x H1 => tb σ H1 fun y H2 => r x y H2 Q
noncomputable def tUn (r : V→Hp→VK→Prop) (ta : TE) : TE := fun σ H Q => ta σ H fun x H1 => r x H1 Q
noncomputable def rI (C : Int→Int→Prop) (g : Int→Int→V) : R2 := fun x y H Q => ∃ i j,x = .int i∧y = .int j∧C i j∧Q (g i j) H
noncomputable def rI0 (g : Int→Int→V) : R2 := fun x y H Q => ∃ i j,x = .int i∧y = .int j∧Q (g i j) H
noncomputable def rU (g : Int→V) : V→Hp→VK→Prop := fun x H Q => ∃ i,x = .int i∧Q (g i) H
section
variable {X : Cx} {a b c : Expr} {ta tb tc : TE} {pos : Pos}
theorem binT (ha : PE X a ta) (hb : PE X b tb) {pins : List (Addr × Obj)} {s : Shared} {σ : St} {H : Hp} {R : V→V→Hp→Prop} (I : Inv X pins σ H s)
    (h : ta σ H fun x H1 => tb σ H1 fun y H2 => R x y H2) {Q : Value→Shared→Prop} {f : Value→Value→Sem Value}
    (hf : ∀ v u s2 x y H2,Inv X pins σ H2 s2→RelV x v→RelV y u→R x y H2→wpAny (model X.prog X.w) X.A (f v u) Q X.xe s2) :
    wpAny (model X.prog X.w) X.A (eval a X.env) (fun v s₁ => wpAny (model X.prog X.w) X.A (eval b X.env) (fun u s₂ => wpAny (model X.prog X.w) X.A (f v u) Q X.xe s₂) X.xe s₁) X.xe s := by
  refine thn (ha pins s σ H _ I h) fun v s1 ⟨x,H1,I1,r1,q1⟩ => ?_
  refine thn (hb pins s1 σ H1 _ I1 q1) fun u s2 ⟨y,H2,I2,r2,q2⟩ => ?_
  exact hf v u s2 x y H2 I2 r1 r2 q2
theorem zpQ {op : Operator} {r : R2} (ho : OpR X (binaryOp op) r) (ha : PE X a ta) (hb : PE X b tb) : PE X (.BinOp a op b pos) (tOp r ta tb) := by
  intro pins s σ H Q I h
  exact wpAny_BinOp (binT ha hb I h fun v u s2 x y H2 I2 rx ry q => ho pins s2 σ H2 x y v u Q I2 rx ry q)
theorem zrE {op : UnaryOp} {r : V→Hp→VK→Prop} (ho : UnR X (unaryOp op) r) (ha : PE X a ta) : PE X (.UnaryOp op a pos) (tUn r ta) := by
  intro pins s σ H Q I h
  exact UnaryOp_ (thn (ha pins s σ H _ I h) fun v s1 ⟨x,H1,I1,r1,q1⟩ => ho pins s1 σ H1 x v Q I1 r1 q1)
theorem opI {f : Value→Value→Sem Value} {C : Int→Int→Prop} {g : Int→Int→Int}
    (rule : ∀ (i j : Int) (t u : Tok) (s : Shared) (Q : Value→Shared→Prop) (E : Value→Shared→Prop),C i j→Q (.int (g i j) s.toks) { s with toks := s.toks + 1 }→wpAny (model X.prog X.w) X.A (f (.int i t) (.int j u)) Q E s) :
    OpR X f (rI C fun i j => .int (g i j)) := by
  intro pins s σ H x y v u Q I rx ry h
  obtain ⟨i,j,rfl,rfl,hc,q⟩ := h
  obtain ⟨t,rfl⟩ := rx
  obtain ⟨t',rfl⟩ := ry
  exact rule i j t t' s _ _ hc ⟨.int (g i j),H,I.tok _,⟨_,rfl⟩,q⟩
theorem opI0 {f : Value→Value→Sem Value} {g : Int→Int→Int}
    (rule : ∀ (i j : Int) (t u : Tok) (s : Shared) (Q : Value→Shared→Prop) (E : Value→Shared→Prop),Q (.int (g i j) s.toks) { s with toks := s.toks + 1 }→wpAny (model X.prog X.w) X.A (f (.int i t) (.int j u)) Q E s) :
    OpR X f (rI0 fun i j => .int (g i j)) := by
  intro pins s σ H x y v u Q I rx ry h
  obtain ⟨i,j,rfl,rfl,q⟩ := h
  obtain ⟨t,rfl⟩ := rx
  obtain ⟨t',rfl⟩ := ry
  exact rule i j t t' s _ _ ⟨.int (g i j),H,I.tok _,⟨_,rfl⟩,q⟩
theorem opB0 {f : Value→Value→Sem Value} {g : Int→Int→Bool}
    (rule : ∀ (i j : Int) (t u : Tok) (s : Shared) (Q : Value→Shared→Prop) (E : Value→Shared→Prop),Q (.bool (g i j)) s→wpAny (model X.prog X.w) X.A (f (.int i t) (.int j u)) Q E s) :
    OpR X f (rI0 fun i j => .bl (g i j)) := by
  intro pins s σ H x y v u Q I rx ry h
  obtain ⟨i,j,rfl,rfl,q⟩ := h
  obtain ⟨t,rfl⟩ := rx
  obtain ⟨t',rfl⟩ := ry
  exact rule i j t t' s _ _ ⟨.bl (g i j),H,I,rfl,q⟩
noncomputable def CDiv (i j : Int) : Prop := 0 < j∧j < 1073741824
noncomputable def CPow (i j : Int) : Prop := 0≤j∧j≤1000000∧i.natAbs < 2 ^ 64
noncomputable def CMul (i j : Int) : Prop := (-(2 ^ 64) < i∧i < 2 ^ 64)∨(-(2 ^ 64) < j∧j < 2 ^ 64)
theorem CMul.ok {i j : Int} (h : CMul i j) : IntMulOk i j := by
  rcases h with ⟨h1,h2⟩ | ⟨h1,h2⟩
  · exact .of_left (intBits_le_64 h1 h2)
  · exact .of_right (intBits_le_64 h1 h2)
theorem zmH : OpR X (binaryOp .Add) (rI0 fun i j => .int (i + j)) := opI0 fun _ _ _ _ _ _ _ q => add_int q
theorem zp0 : OpR X (binaryOp .Sub) (rI0 fun i j => .int (i - j)) := opI0 fun _ _ _ _ _ _ _ q => sub_int q
theorem zp3 : OpR X (binaryOp .Mult) (rI CMul fun i j => .int (i * j)) := opI fun _ _ _ _ _ _ _ hc q => mul_int q hc.ok
theorem zn5 : OpR X (binaryOp .FloorDiv) (rI CDiv fun i j => .int (i / j)) := opI fun i j _ _ _ _ _ hc q => by
  have h1 : (0 : Int) < j := hc.1
  have h2 : j < 1073741824 := hc.2
  exact floordiv_int (by omega) (by rw [Int.fdiv_eq_ediv_of_nonneg i (by omega)]; exact q) (.inl (PyProof.noPylong_small (by omega)))
theorem zp4 : OpR X (binaryOp .Mod) (rI (fun _ j => 0 < j) fun i j => .int (i % j)) := opI fun i j _ _ _ _ _ hc q => by
  have h1 : (0 : Int) < j := hc
  exact mod_int' (by omega) (by rw [Int.fmod_eq_emod_of_nonneg i (by omega)]; exact q)
theorem zp2 : OpR X (binaryOp .Pow) (rI CPow fun i j => .int (i ^ j.toNat)) := opI fun _ _ _ _ _ _ _ hc q => pow_int_small hc.1 hc.2.1 hc.2.2 q
theorem unI {f : Value→Sem Value} {g : Int→Int}
    (rule : ∀ (i : Int) (t : Tok) (s : Shared) (Q : Value→Shared→Prop) (E : Value→Shared→Prop),Q (.int (g i) s.toks) { s with toks := s.toks + 1 }→wpAny (model X.prog X.w) X.A (f (.int i t)) Q E s) :
    UnR X f (rU fun i => .int (g i)) := by
  intro pins s σ H x v Q I rx h
  obtain ⟨i,rfl,q⟩ := h
  obtain ⟨t,rfl⟩ := rx
  exact rule i t s _ _ ⟨.int (g i),H,I.tok _,⟨_,rfl⟩,q⟩
theorem zoV : UnR X (unaryOp .USub) (rU fun i => .int (-i)) := unI fun _ _ _ _ _ q => neg_int q
end
noncomputable def scal : V→V→Bool
  | .non,.non => true | .non,.int _ => true | .int _,.non => true | .non,.bl _ => true | .bl _,.non => true | .non,.str _ => true | .str _,.non => true
  | .int _,.int _ => true | .bl _,.bl _ => true | .str _,.str _ => true | .byt _,.byt _ => true
  | .int _,.str _ => true | .str _,.int _ => true | .bl _,.str _ => true | .str _,.bl _ => true
  | _,_ => false
noncomputable def rEq : R2 := fun x y H Q => scal x y = true∧Q (.bl (decide (x = y))) H
noncomputable def rNe : R2 := fun x y H Q => scal x y = true∧Q (.bl (! decide (x = y))) H
theorem zhZ {i j : Int} : decide (V.int i = V.int j) = (i == j) := by
  rw [Bool.eq_iff_iff]
  simp
theorem zkJ {i j : Bool} : decide (V.bl i = V.bl j) = (i == j) := by
  rw [Bool.eq_iff_iff]
  simp
theorem zhY {i j : Str} : decide (V.str i = V.str j) = (i == j) := by
  rw [Bool.eq_iff_iff]
  simp
theorem zkI {i j : Array UInt8} : decide (V.byt i = V.byt j) = (i.toList == j.toList) := by
  rw [Bool.eq_iff_iff]
  cases i
  cases j
  simp
section
variable {X : Cx} {a b c : Expr} {ta tb tc : TE} {pos : Pos}
theorem zaK {pins : List (Addr × Obj)} {σ : St} {H : Hp} {s : Shared} {Q : VK} {k k' : Bool} (I : Inv X pins σ H s) (q : Q (.bl k) H) (e : k = k') : EP X pins σ Q (.bool k') s := by
  subst e
  exact ⟨.bl k,H,I,rfl,q⟩
theorem zp9 : OpR X (compareOp .Eq) rEq := by
  intro pins s σ H x y v u Q I rx ry h
  obtain ⟨hs,q⟩ := h
  cases x with
  | non =>
    cases rx
    cases y with
    | non => cases ry; exact PySem.EqNone.eq_none_none (zaK I q (by simp))
    | bl j => cases ry; exact PySem.EqNone.eq_none_bool (zaK I q (by simp))
    | int j => obtain ⟨t',rfl⟩ := ry; exact PySem.EqNone.eq_none_int (zaK I q (by simp))
    | str j => obtain ⟨t',rfl⟩ := ry; exact PySem.EqNone.eq_none_str (zaK I q (by simp))
    | _ => exact absurd (show false = true from hs) Bool.false_ne_true
  | bl i =>
    cases rx
    cases y with
    | non => cases ry; exact PySem.EqNone.eq_bool_none (zaK I q (by simp))
    | bl j => cases ry; exact eq_bool (zaK I q zkJ)
    | str j => obtain ⟨t',rfl⟩ := ry; exact PySem.EqMixed.eq_bool_str (zaK I q (by simp))
    | _ => exact absurd (show false = true from hs) Bool.false_ne_true
  | int i =>
    obtain ⟨t,rfl⟩ := rx
    cases y with
    | non => cases ry; exact PySem.EqNone.eq_int_none (zaK I q (by simp))
    | int j => obtain ⟨t',rfl⟩ := ry; exact eq_int (zaK I q zhZ)
    | str j => obtain ⟨t',rfl⟩ := ry; exact PySem.EqMixed.eq_int_str (zaK I q (by simp))
    | _ => exact absurd (show false = true from hs) Bool.false_ne_true
  | str i =>
    obtain ⟨t,rfl⟩ := rx
    cases y with
    | non => cases ry; exact PySem.EqNone.eq_str_none (zaK I q (by simp))
    | bl j => cases ry; exact PySem.EqMixed.eq_str_bool (zaK I q (by simp))
    | int j => obtain ⟨t',rfl⟩ := ry; exact PySem.EqMixed.eq_str_int (zaK I q (by simp))
    | str j => obtain ⟨t',rfl⟩ := ry; exact eq_str (zaK I q zhY)
    | _ => exact absurd (show false = true from hs) Bool.false_ne_true
  | byt i =>
    obtain ⟨t,rfl⟩ := rx
    cases y with
    | byt j => obtain ⟨t',rfl⟩ := ry; exact PySem.W.eq_bytes (zaK I q zkI)
    | _ => exact absurd (show false = true from hs) Bool.false_ne_true
  | _ => cases y <;> exact absurd (show false = true from hs) Bool.false_ne_true
theorem zrG : OpR X (compareOp .NotEq) rNe := by
  intro pins s σ H x y v u Q I rx ry h
  obtain ⟨hs,q⟩ := h
  cases x with
  | non =>
    cases rx
    cases y with
    | non => cases ry; exact PySem.EqNone.ne_none_none (zaK I q (by simp))
    | bl j => cases ry; exact PySem.EqNone.ne_none_bool (zaK I q (by simp))
    | int j => obtain ⟨t',rfl⟩ := ry; exact PySem.EqNone.ne_none_int (zaK I q (by simp))
    | str j => obtain ⟨t',rfl⟩ := ry; exact PySem.EqNone.ne_none_str (zaK I q (by simp))
    | _ => exact absurd (show false = true from hs) Bool.false_ne_true
  | bl i =>
    cases rx
    cases y with
    | non => cases ry; exact PySem.EqNone.ne_bool_none (zaK I q (by simp))
    | bl j => cases ry; exact ne_bool (zaK I q (congrArg not zkJ))
    | str j => obtain ⟨t',rfl⟩ := ry; exact PySem.EqMixed.ne_bool_str (zaK I q (by simp))
    | _ => exact absurd (show false = true from hs) Bool.false_ne_true
  | int i =>
    obtain ⟨t,rfl⟩ := rx
    cases y with
    | non => cases ry; exact PySem.EqNone.ne_int_none (zaK I q (by simp))
    | int j => obtain ⟨t',rfl⟩ := ry; exact ne_int (zaK I q (congrArg not zhZ))
    | str j => obtain ⟨t',rfl⟩ := ry; exact PySem.EqMixed.ne_int_str (zaK I q (by simp))
    | _ => exact absurd (show false = true from hs) Bool.false_ne_true
  | str i =>
    obtain ⟨t,rfl⟩ := rx
    cases y with
    | non => cases ry; exact PySem.EqNone.ne_str_none (zaK I q (by simp))
    | bl j => cases ry; exact PySem.EqMixed.ne_str_bool (zaK I q (by simp))
    | int j => obtain ⟨t',rfl⟩ := ry; exact PySem.EqMixed.ne_str_int (zaK I q (by simp))
    | str j => obtain ⟨t',rfl⟩ := ry; exact ne_str (zaK I q (congrArg not zhY))
    | _ => exact absurd (show false = true from hs) Bool.false_ne_true
  | byt i =>
    obtain ⟨t,rfl⟩ := rx
    cases y with
    | byt j => obtain ⟨t',rfl⟩ := ry; exact PySem.W.ne_bytes (zaK I q (congrArg not zkI))
    | _ => exact absurd (show false = true from hs) Bool.false_ne_true
  | _ => cases y <;> exact absurd (show false = true from hs) Bool.false_ne_true
theorem zp5 : OpR X (compareOp .Lt) (rI0 fun i j => .bl (decide (i < j))) := opB0 fun _ _ _ _ _ _ _ q => lt_int q
theorem zp8 : OpR X (compareOp .Gt) (rI0 fun i j => .bl (decide (j < i))) := opB0 fun _ _ _ _ _ _ _ q => gt_int q
theorem zjV : OpR X (compareOp .In) (fun x y H Q => ∃ i j,x = .str i∧y = .str j∧Q (.bl (!(Builtin.Str.occurrences j i 0 j.length 1).isEmpty)) H) := by
  intro pins s σ H x y v u Q I rx ry h
  obtain ⟨i,j,rfl,rfl,q⟩ := h
  obtain ⟨t,rfl⟩ := rx
  obtain ⟨t',rfl⟩ := ry
  exact in_str (zaK I q rfl)
theorem zp6 : OpR X (compareOp .Is) (fun x y H Q => y = .non∧Q (.bl (decide (x = .non))) H) := by
  intro pins s σ H x y v u Q I rx ry h
  obtain ⟨rfl,q⟩ := h
  cases ry
  refine is_none_gen (zaK I q ?_)
  cases x <;> first
    | (cases rx; rfl)
    | (obtain ⟨t,rfl⟩ := rx; rfl)
theorem OpR.or {f : Value→Value→Sem Value} {r r' : R2} (h : OpR X f r) (h' : OpR X f r') : OpR X f (fun x y H Q => r x y H Q∨r' x y H Q) := by
  intro pins s σ H x y v u Q I rx ry q
  rcases q with q | q
  · exact h pins s σ H x y v u Q I rx ry q
  · exact h' pins s σ H x y v u Q I rx ry q
theorem zeH (b : Expr) {op : CmpOp} (h : op≠.In := by decide) (h2 : op≠.NotIn := by decide) : behindInMarks op b = false := by
  have e1 : (op == CmpOp.In) = false := by cases op <;> first | rfl | exact absurd rfl h
  have e2 : (op == CmpOp.NotIn) = false := by cases op <;> first | rfl | exact absurd rfl h2
  cases b <;> simp [behindInMarks,e1,e2]
theorem znW {op : CmpOp} {r : R2} (ho : OpR X (compareOp op) r) (ha : PE X a ta) (hb : PE X b tb) (hm : behindInMarks op b = false) : PE X (.Compare a [op] [b] pos) (tOp r ta tb) := by
  intro pins s σ H Q I h
  exact wpAny_Compare1 (binT ha hb I h fun v u s2 x y H2 I2 rx ry q => ho pins s2 σ H2 x y v u Q I2 rx ry q) hm
noncomputable def zrk (t : TE) : TT := fun σ H Q => t σ H fun x H' => ∃ k,x = .bl k∧Q k H'
theorem znP {op : CmpOp} {r : R2} (ho : OpR X (compareOp op) r) (ha : PE X a ta) (hb : PE X b tb) (hm : behindInMarks op b = false) : PT X (.Compare a [op] [b] pos) (zrk (tOp r ta tb)) := by
  intro pins s σ H Q I h
  refine wpAny_isTrue_Compare1 (thn (ha pins s σ H _ I h) fun v s1 ⟨x,H1,I1,r1,q1⟩ => thn (hb pins s1 σ H1 _ I1 q1) fun u s2 ⟨y,H2,I2,r2,q2⟩ =>
    thn (ho pins s2 σ H2 x y v u _ I2 r1 r2 q2) fun c s3 ⟨z,H3,I3,r3,k,e,q3⟩ => ?_) hm
  subst e
  cases r3
  exact wpAny_truthy_bool ⟨H3,I3,q3⟩
noncomputable def TruV (K : PySem.W.Frag) (x : V) (H : Hp) (k : Bool) : Prop :=
  match x with
  | .non => k = false
  | .bl b => k = b
  | .int i => k = (i != 0)
  | .str y => y.length≤sizeLine∧k = ((y.length : Int) != 0)
  | .byt y => y.size≤sizeLine∧k = ((y.size : Int) != 0)
  | .ref p => (∃ xs,SqL K H p xs∧k = ! xs.isEmpty)∨(∃ xs,SqT K H p xs∧k = ! xs.isEmpty)∨∃ kvs,Rd H p (.dK kvs)∧k = ! kvs.isEmpty
  | _ => False
theorem zi0 {κ : Type} {kvs : List (κ × V)} {vs : List (κ × Value)} (r : KV kvs vs) : (! vs.isEmpty) = ! kvs.isEmpty := by
  cases r <;> rfl
theorem zfU {xs : List V} {its : List Value} (r : Vals xs its) : (! its.toArray.isEmpty) = ! xs.isEmpty := by
  cases r <;> simp
theorem zfS : (sizeLine : Nat) < 2 ^ 63 := by rw [sizeLine_eq]; decide
theorem zo0 : TruR X (fun x H Q => ∃ k,TruV X.K x H k∧Q k H) := by
  intro pins s σ H x v Q I rx h
  obtain ⟨k,e,q⟩ := h
  have hl := zfS
  have hs : sizeLine = 16777216 := sizeLine_eq
  cases x with
  | non =>
    cases rx
    have e' : k = false := e
    subst e'
    exact truthy_none ⟨H,I,q⟩
  | bl b =>
    cases rx
    have e' : k = b := e
    subst e'
    exact wpAny_truthy_bool ⟨H,I,q⟩
  | int i =>
    obtain ⟨t,rfl⟩ := rx
    have e' : k = (i != 0) := e
    subst e'
    exact PySem.P.truthy_int ⟨H,I,q⟩
  | str y =>
    obtain ⟨t,rfl⟩ := rx
    obtain ⟨hy,e'⟩ : y.length≤sizeLine∧k = ((y.length : Int) != 0) := e
    subst e'
    exact PySem.P.truthy_str (by omega) ⟨H,I.tok _,q⟩
  | byt y =>
    obtain ⟨t,rfl⟩ := rx
    obtain ⟨hy,e'⟩ : y.size≤sizeLine∧k = ((y.size : Int) != 0) := e
    subst e'
    exact PySem.W.truthy_bytes (by omega) ⟨H,I.tok _,q⟩
  | ref p =>
    cases rx
    have e' : (∃ xs,SqL X.K H p xs∧k = ! xs.isEmpty)∨(∃ xs,SqT X.K H p xs∧k = ! xs.isEmpty)∨∃ kvs,Rd H p (.dK kvs)∧k = ! kvs.isEmpty := e
    rcases e' with ⟨xs,hx,e'⟩ | ⟨xs,hx,e'⟩ | ⟨kvs,hx,e'⟩
    · subst e'
      obtain ⟨its,r,pl,hz⟩ := I.list hx
      have hlen := r.length
      exact wpAny_truthy_list pl.isList (by simp only [List.size_toArray]; omega) ⟨H,I.tok _,by rw [zfU r]; exact q⟩
    · subst e'
      obtain ⟨its,r,pl,hz⟩ := I.tuple hx
      have hlen := r.length
      exact truthy_tuple pl (by simp only [List.size_toArray]; omega) ⟨H,I.tok _,by rw [zfU r]; exact q⟩
    · subst e'
      obtain ⟨hz,hS,vs,r,m⟩ : kvs.length≤sizeLine∧(p == sysModules) = false∧∃ vs,KV kvs vs∧s.heap.DictOf (zbg X.prog X.w) p vs := hx.ok I.hok
      have hlen : kvs.length = vs.length := Paired.length r
      exact wpAny_truthy_dict hS m (by omega) ⟨H,I.tok _,by rw [zi0 r]; exact q⟩
  | _ => exact (show False from e).elim
theorem zlz (ha : PE X a ta) (he : ∀ whole,isTrue a X.env whole = (do let v ← whole; standAt a.pos; holding [v] (truthy v))) :
    PT X a (fun σ H Q => ta σ H fun x H' => ∃ k,TruV X.K x H' k∧Q k H') := by
  intro pins s σ H Q I h
  exact isTrue_plain (thn (ha pins s σ H _ I h) fun v s1 ⟨x,H1,I1,r1,q1⟩ => zo0 pins s1 σ H1 x v Q I1 r1 q1) (he _)
theorem zfQ : OpR X (binaryOp .Add) (fun x y H Q => ∃ i j,x = .str i∧y = .str j∧i.length + j.length≤sizeLine∧Q (.str (i++j)) H) := by
  intro pins s σ H x y v u Q I rx ry h
  obtain ⟨i,j,rfl,rfl,hz,q⟩ := h
  obtain ⟨t,rfl⟩ := rx
  obtain ⟨t',rfl⟩ := ry
  exact add_str (fun t' tk => ⟨.str (i++j),H,I.tok _,⟨_,rfl⟩,q⟩) hz
theorem zeT {x : V} {us : List Value} (r : Vals [x] us) : ∃ u,us = [u]∧RelV x u := by
  cases r with
  | cons r1 r2 => cases r2; exact ⟨_,rfl,r1⟩
theorem zoT {x y : V} {us : List Value} (r : Vals [x,y] us) : ∃ u w',us = [u,w']∧RelV x u∧RelV y w' := by
  cases r with
  | cons r1 r2 =>
    cases r2 with
    | cons r3 r4 => cases r4; exact ⟨_,_,rfl,r1,r3⟩
theorem zmi : zdh X (.builtin "abs") (fun xs H Q => ∃ i,xs = [.int i]∧Q (.int (if i < 0 then -i else i)) H) := by
  intro pins s σ H xs us Q I r h
  obtain ⟨i,rfl,q⟩ := h
  obtain ⟨u,rfl,t,rfl⟩ := zeT r
  exact call_abs_int fun u tk => ⟨.int (if i < 0 then -i else i),H,I.tok _,⟨_,rfl⟩,q⟩
noncomputable def LenV (K : PySem.W.Frag) (x : V) (H : Hp) (n : Nat) : Prop :=
  match x with
  | .str y => y.length≤sizeLine∧n = y.length
  | .byt y => y.size≤sizeLine∧n = y.size
  | .ref p => (∃ xs,SqL K H p xs∧n = xs.length)∨∃ xs,SqT K H p xs∧n = xs.length
  | _ => False
theorem zmf : zdh X (.builtin "len") (fun xs H Q => ∃ x n,xs = [x]∧LenV X.K x H n∧Q (.int n) H) := by
  intro pins s σ H xs us Q I r h
  obtain ⟨x,n,rfl,e,q⟩ := h
  obtain ⟨u,rfl,rx⟩ := zeT r
  have hl := zfS
  have hs : sizeLine = 16777216 := sizeLine_eq
  cases x with
  | str y =>
    obtain ⟨t,rfl⟩ := rx
    obtain ⟨hy,e'⟩ : y.length≤sizeLine∧n = y.length := e
    subst e'
    exact len_str (by omega) ⟨.int _,H,I.tok _,⟨_,rfl⟩,q⟩
  | byt y =>
    obtain ⟨t,rfl⟩ := rx
    obtain ⟨hy,e'⟩ : y.size≤sizeLine∧n = y.size := e
    subst e'
    exact PySem.W.len_bytes (by omega) ⟨.int _,H,I.tok _,⟨_,rfl⟩,q⟩
  | ref p =>
    cases rx
    have e' : (∃ xs,SqL X.K H p xs∧n = xs.length)∨∃ xs,SqT X.K H p xs∧n = xs.length := e
    rcases e' with ⟨xs,hx,e'⟩ | ⟨xs,hx,e'⟩
    · subst e'
      obtain ⟨its,r',pl,hz⟩ := I.list hx
      have hlen := r'.length
      exact Calls.call_len_list pl.isList (by simp only [List.size_toArray]; omega) ⟨.int xs.length,H,I.tok _,⟨_,by simp only [List.size_toArray]; rw [hlen]⟩,q⟩
    · subst e'
      obtain ⟨its,r',pl,hz⟩ := I.tuple hx
      have hlen := r'.length
      exact len_tuple pl (by simp only [List.size_toArray]; omega) ⟨.int xs.length,H,I.tok _,⟨_,by simp only [List.size_toArray]; rw [hlen]⟩,q⟩
  | _ => exact (show False from e).elim
end
end L2
namespace L2
open PySem PySem.Spec PyProof.Rows
structure ObjM (h : Heap) (x dx C : Addr) (mA : Str→Option Value) : Prop where
  obj : h.get? x = some (PySem.W.instObj C dx)
  ns : h.Ns1 dx mA
  ne : dx≠x
section
variable {prog : Program} {w : World} {A : Around} {E : Value → Shared → Prop} {s : Shared} {K : PySem.W.Frag} {x dx C f : Addr} {mA : Str → Option Value} {name : Str} {v : Value}
end
theorem RelO.some_of {v : V} {o : Option Value} (r : RelO (some v) o) : ∃ u,o = some u∧RelV v u := by
  cases o with
  | none => exact (show False from r).elim
  | some u => exact ⟨u,rfl,r⟩
section
variable {P : Program} {w : World} {H H' : Hp} {h h' : Heap} {a C dx : Addr} {fs fs' : List (Str × V)}
end
structure Cls (K : PySem.W.Frag) (C : Addr) : Prop where
  pg : PySem.W.plainGet K C Str.empty = true
  hd : PySem.W.hasDictIn K C = true
  po : PySem.W.plainOver K C = true
  sa : PySem.W.findIn K (.ref C) "__setattr__" = some (some (.builtin "object.__setattr__"))
theorem Cls.get {K : PySem.W.Frag} {C : Addr} (c : Cls K C) (f : Str) : PySem.W.plainGet K C f = true := c.pg
structure Con (K : PySem.W.Frag) (C : Addr) (f : Str) (v : V) (u : Value) : Prop where
  at_ : PySem.W.findIn K (.ref C) f = some (some u)
  rel : RelV v u
  get : PySem.W.specialIn K u "__get__" = some none
  cp : PySem.W.copiedNames.contains f = false
structure Meth (K : PySem.W.Frag) (C : Addr) (m : Str) (f : Addr) : Prop where
  at_ : PySem.W.findIn K (.ref C) m = some (some (.ref f))
  fn : PySem.W.isFn K (.ref f) = true
  kp : PySem.W.keepIn K (.ref f) = true
section
variable {X : Cx} {pins : List (Addr × Obj)} {σ : St} {H : Hp} {s : Shared} {a C dx : Addr} {fs : List (Str × V)} {f : Str} {v : V} {A : Around} {E : Value → Shared → Prop}
end
section
variable {X : Cx} {o e value : Expr} {f : Str} {pos pos' tpos : Pos} {ta tv : TE}
end
section
variable {X : Cx} {pins : List (Addr × Obj)} {σ : St} {H : Hp} {s : Shared} {A : Around} {E : Value → Shared → Prop} {Q : Value → Shared → Prop} {c : Value} {b : Bool}
inductive TyOf (K : PySem.W.Frag) (H : Hp) : V→Value→Prop where
  | non : TyOf K H .non (.type "NoneType")
  | bl (x : Bool) : TyOf K H (.bl x) (.type "bool")
  | int (i : Int) : TyOf K H (.int i) (.type "int")
  | str (x : Str) : TyOf K H (.str x) (.type "str")
  | flt (x : UInt64) : TyOf K H (.flt x) (.type "float")
  | lst {a : Addr} {xs : List V} (e : H a = some (.lst xs)) : TyOf K H (.ref a) (.type "list")
  | frz {a : Addr} {o : Obj} {xs : List V} (e : H a = some (.frz o (.lst xs))) : TyOf K H (.ref a) (.type "list")
  | tup {a : Addr} {xs : List V} (e : H a = some (.tup xs)) : TyOf K H (.ref a) (.type "tuple")
  | dK {a : Addr} {kvs : List (Key × V)} (e : H a = some (.dK kvs)) : TyOf K H (.ref a) (.type "dict")
  | dT {a : Addr} {kvs : List (List Key × V)} (e : H a = some (.dT kvs)) : TyOf K H (.ref a) (.type "dict")
  | ins {a C dx : Addr} {fs : List (Str × V)} (e : H a = some (.ins C dx fs)) (cl : Cls K C) (ha : PySem.W.findIn K (.ref C) "__class__" = some (some (.builtin "object.__class__")))
      (hn : PySem.W.specialIn K (.builtin "object.__class__") "__get__" = some (some (.builtin "getset_descriptor.__get__"))) (htk : PySem.W.takesIn K (.builtin "object.__class__") = some true)
      (hm : PySem.W.mroIn K C (.type "object") = some true) : TyOf K H (.ref a) (.ref C)
end
end L2
namespace L2
open PySem PySem.Spec PyProof.Rows
structure Room (k : Nat) (A : Around) : Prop where
  hd : A.handled = none
  dp : A.depth + 3 * k + 5 < recursionLimit
  un : A.units + 16 * k + 200 < cLine
theorem Room.mono {j k : Nat} {A : Around} (r : Room k A) (h : j≤k) : Room j A := ⟨r.hd,by have := r.dp; omega,by have := r.un; omega⟩
theorem Room.deeper {k : Nat} {A : Around} (r : Room (k + 1) A) (env : Env) : Room k (A.deeper env) :=
  ⟨r.hd,by have := r.dp; show A.depth + 1 + 3 * k + 5 < _; omega,by have := r.un; show A.units + 3 + 16 * k + 200 < _; omega⟩
theorem Room.depth {k : Nat} {A : Around} (r : Room k A) : A.depth < recursionLimit := by have := r.dp; omega
theorem Room.units {k : Nat} {A : Around} (r : Room k A) : A.units + 64 < cLine := by have := r.un; omega
noncomputable def tNil : TA := fun _ H Q => Q [] H
noncomputable def zrp (ta : TE) (tr : TA) : TA := fun σ H Q => ta σ H fun x H1 => tr σ H1 fun xs H2 => Q (x::xs) H2
section
variable {X : Cx} {e : Expr} {es : List Expr} {te : TE} {t : TA} {pos : Pos}
theorem zfP : PA X [] tNil := fun _ _ _ _ H Q I h => Calls.spliced_nil ⟨[],H,I,.nil,h⟩
theorem zcT (ha : PE X e te) (hr : PA X es t) (hs : starEach (e::es) X.env = (false,eval e X.env)::starEach es X.env := by rfl) : PA X (e::es) (zrp te t) := by
  intro pos pins s σ H Q I h
  rw [hs]
  show wpAny _ _ (spliced ((false,eval e X.env)::backTo pos (starEach es X.env))) _ _ s
  refine Calls.spliced_cons (thn (ha pins s σ H _ I h) fun u s1 ⟨x,H1,I1,r1,q1⟩ => ?_)
  exact thn (hr pos pins s1 σ H1 _ I1 q1) fun us s2 ⟨xs,H2,I2,r2,q2⟩ => ⟨x::xs,H2,I2,.cons r1 r2,q2⟩
noncomputable def tTup (t : TA) : TE := fun σ H Q => t σ H fun xs H1 => xs.length≤sizeLine∧∀ p,H1 p = none→Q (.ref p) (upd H1 p (.tup xs))
noncomputable def tLst (t : TA) : TE := fun σ H Q => t σ H fun xs H1 => xs.length≤sizeLine∧∀ p,H1 p = none→Q (.ref p) (upd H1 p (.lst xs))
theorem zmE {x1} (h : PA X es t) : PE X (.Tuple es x1 pos) (tTup t) := by
  intro pins s σ H Q I hq
  refine wpAny_Tuple_spliced (thn (h pos pins s σ H _ I hq) fun us s1 ⟨xs,H1,I1,r,z,q⟩ => ⟨by rw [← r.length]; exact z,?_⟩)
  have hf : H1 s1.heap.objs.size = none := I1.hok.fresh (Nat.le_refl _)
  refine ⟨.ref s1.heap.objs.size,upd H1 s1.heap.objs.size (.tup xs),I1.laid (t' := s1.toks) (fun b u e => Heap.get?_push_of_some _ e) (Nat.le_refl _) ?_,rfl,q _ hf⟩
  exact ⟨z,us,r,⟨_,Heap.get?_push_size _ rfl,rfl,_,rfl⟩,_,Heap.get?_push_size _ rfl,rfl⟩
theorem zpU (h : PA X es t) : PE X (.List es pos) (tLst t) := by
  intro pins s σ H Q I hq
  refine wpAny_List_spliced (thn (h pos pins s σ H _ I hq) fun us s1 ⟨xs,H1,I1,r,z,q⟩ => ⟨by rw [← r.length]; exact z,?_⟩)
  have hf : H1 s1.heap.objs.size = none := I1.hok.fresh (Nat.le_refl _)
  refine ⟨.ref s1.heap.objs.size,upd H1 s1.heap.objs.size (.lst xs),I1.laid (t' := s1.toks) (fun b u e => Heap.get?_push_of_some _ e) (Nat.le_refl _) ?_,rfl,q _ hf⟩
  exact ⟨z,us,0,r,Heap.get?_push_size _ rfl⟩
end
noncomputable abbrev Sp := List V→Hp→VK→XK→Prop
noncomputable abbrev CXT := List Env→Hp→Shared→XK→Value→Shared→Prop
structure Env0 (P : Program) (w : World) (K : PySem.W.Frag) (mg : Str→Option Value) (base : Heap) (A : Around) (outer : List Env) (s : Shared) (H : Hp) : Prop where
  frames : A.frames = some outer
  mod : Mod K mg base
  bs : ∀ b o,base.get? b = some o→s.heap.get? b = some o∧H b = none
  bsz : base.objs.size≤s.heap.objs.size
  funs : s.heap.FunFrames base outer
  frf : ∀ b∈frs outer,H b = none
  hok : HOk P w H s.heap
  bare : AllBare s.gens
noncomputable def CE (outer : List Env) (P : Program) (w : World) (H : Hp) (s : Shared) (Q : VK) (u : Value) (s' : Shared) : Prop :=
  ∃ v H',s'.os = s.os∧AllBare s'.gens∧Un (frs outer) [] H H' s.heap s'.heap∧HOk P w H' s'.heap∧RelV v u∧Q v H'
noncomputable def CR (CX : CXT) (outer : List Env) (P : Program) (w : World) (H : Hp) (s : Shared) (Q : VK) (E : XK) (r : Result) (s' : Shared) : Prop :=
  match r with
  | .ok (.ret u) => CE outer P w H s Q u s'
  | .ok _ => False
  | .error e => CX outer H s E e s'
structure FnOk (P : Program) (w : World) (K : PySem.W.Frag) (mg : Str→Option Value) (base : Heap) (CX : CXT) (k : Nat) (f : Addr) (fd : FuncData) (ps : List Str) (sp : Sp) : Prop where
  len : ∀ vs H Q E,sp vs H Q E→vs.length = ps.length
  run : ∀ (A : Around) (outer : List Env) (s : Shared) (H : Hp) (args : Args) (us : List Value) (vs : List V) (Q : VK) (E : XK),Room k A→Env0 P w K mg base A outer s H→BindsTo s fd args (ps.zip us)→Vals vs us→sp vs H Q E →
    codeAny (model P w) A (.call (.ref f) args) (CR CX outer P w H s Q E) s
section
variable {X : Cx} {pins : List (Addr × Obj)} {σ : St} {H : Hp} {s s' : Shared}
theorem Inv.env0 (I : Inv X pins σ H s) : Env0 X.prog X.w X.K X.mg X.base X.A X.stack s H :=
  ⟨I.ok.frames,I.ok.mod,I.bs,Nat.le_trans I.ok.bsz I.sz,I.stack,I.stkFree,I.hok,I.bare⟩
theorem Inv.after {Q : VK} {u : Value} (I : Inv X pins σ H s) (h : CE X.stack X.prog X.w H s Q u s') : EP X pins σ Q u s' := by
  obtain ⟨v,H',os,bare,un,hok,r,q⟩ := h
  obtain ⟨hh,g,d,t,os'⟩ := s'
  obtain rfl : os' = s.os := os
  exact ⟨v,H',I.call (h' := hh) (g' := g) (d' := d) (t' := t) (ch := []) un hok bare (fun b z => absurd z (by simp)),r,q⟩
end
noncomputable def zrq (sp : Sp) (dvs : List V) (E : XK) (t : TA) : TE := fun σ H Q => t σ H fun vs H1 => sp (vs++dvs) H1 Q E
noncomputable def zfK (K : PySem.W.Frag) (fd : FuncData) (ps : List Str) (ds : List Value) : Prop :=
  ∀ (s : Shared) (us : List Value),K.In s.heap→(us++ds).length = ps.length→BindsTo s fd ⟨us,[]⟩ (ps.zip (us++ds))
theorem zfK.all {K : PySem.W.Frag} {fd : FuncData} {ps : List Str} (h : ∀ us : List Value,us.length = ps.length→bindArgs fd ⟨us,[]⟩ = pure (ps.zip us)) : zfK K fd ps [] := fun s us _ hl => by
  rw [List.append_nil] at hl ⊢
  exact .of_eq (h us hl)
noncomputable def zk5 (CX : CXT) (X : Cx) (E : XK) : Prop := ∀ (pins : List (Addr × Obj)) (σ : St) (H : Hp) (s : Shared) (e : Value) (s' : Shared),Inv X pins σ H s→CX X.stack H s E e s'→X.xe e s'
section
variable {X : Cx} {CX : CXT} {k : Nat} {f C : Addr} {fd : FuncData} {ps : List Str} {sp : Sp} {dvs : List V} {ds : List Value} {E : XK} {x m : Str} {p pos apos : Pos} {e o : Expr} {es : List Expr} {ta : TE} {t : TA}
theorem zpw {pins : List (Addr × Obj)} {σ : St} {H : Hp} {s : Shared} {Q : VK} {us : List Value} {vs : List V} (F : FnOk X.prog X.w X.K X.mg X.base CX k f fd ps sp) (hr : Room k X.A) (hb : zfK X.K fd ps ds) (hd : Vals dvs ds) (hx : zk5 CX X E)
    (I : Inv X pins σ H s) (r : Vals vs us) (h : sp (vs++dvs) H Q E) : wpAny (model X.prog X.w) X.A (call (.ref f) us) (EP X pins σ Q) X.xe s := by
  have r2 : Vals (vs++dvs) (us++ds) := r.append hd
  have hl : (us++ds).length = ps.length := by rw [← r2.length]; exact F.len _ _ _ _ h
  refine wpAny_call (codeAny_mono (F.run X.A X.stack s H ⟨us,[]⟩ (us++ds) (vs++dvs) Q E hr I.env0 (hb s us I.kIn hl) r2 h) fun r s' hq => ?_)
  cases r with
  | error e => exact hx pins σ H s e s' I hq
  | ok fl =>
    cases fl with
    | ret u => exact I.after hq
    | next => exact False.elim hq
    | brk => exact False.elim hq
    | cont => exact False.elim hq
theorem zhH (F : FnOk X.prog X.w X.K X.mg X.base CX k f fd ps sp) (hr : Room k X.A) (hg : Gl X x) (hm : X.mg x = some (.ref f)) (hk : PySem.W.keepIn X.K (.ref f) = true) (hb : zfK X.K fd ps ds) (hd : Vals dvs ds) (hx : zk5 CX X E)
    (ha : PA X (e::es) t) (hdb : (x == ("__debug__" : Str)) = false := by decide) (he : starEach (e::es) X.env = (false,eval e X.env)::starEach es X.env := by rfl) (hpl : (backTo pos (starEach es X.env)).any (·.1) = false := by rfl) :
    PE X (.Call (.Name x p) (e::es) [] pos) (zrq sp dvs E t) := by
  intro pins s σ H Q I h
  refine wpAny_Call_Name_kw (zkf I hg hm ?_ hdb)
  refine PySem.W.callWith_K (h₀ := X.base) I.ok.mod.kin hk (thn (ha pos pins s σ H _ I h) fun us s1 ⟨vs,H1,I1,r,q⟩ => ⟨I1.kIn,?_⟩) he hpl
  exact zpw F hr hb hd hx I1 r q
structure Mk (K : PySem.W.Frag) (C f : Addr) : Prop where
  makes : PySem.W.makesIn K C = true
  init : PySem.W.findIn K (.ref C) "__init__" = some (some (.ref f))
  fn : PySem.W.isFn K (.ref f) = true
  kp : PySem.W.keepIn K (.ref C) = true
end
section
variable {X : Cx} {CX : CXT} {k : Nat} {f C : Addr} {fd : FuncData} {ps ks : List Str} {sp : Sp} {E : XK} {x m : Str} {p pos apos kpos : Pos} {e o : Expr} {es : List Expr} {kws : List Keyword} {te ta : TE} {t tk : TA} {nm : Option Str}
structure KBinds (K : PySem.W.Frag) (fd : FuncData) (ps ks : List Str) (g : List Value→List Value→List Value) (gV : List V→List V→List V) : Prop where
  to : ∀ (s : Shared) (us ws : List Value),K.In s.heap→(g us ws).length = ps.length→BindsTo s fd ⟨us,ks.zip ws⟩ (ps.zip (g us ws))
  rel : ∀ {vs : List V} {us : List Value} {zs : List V} {ws : List Value},Vals vs us→Vals zs ws→Vals (gV vs zs) (g us ws)
variable {g : List Value → List Value → List Value} {gV : List V → List V → List V}
end
structure FnScope (N P : List Str) (sc : Scope) : Prop where
  kind : sc.kind = .function
  co : sc.isCoroutine = false
  gen : sc.isGenerator = false
  nd : N.Nodup
  pre : N.take P.length = P
  par : ∀ x∈P,sc.names.lookup x = some .local∨sc.names.lookup x = some .cell
  nofree : ∀ y∈sc.names,y.2≠.free
theorem zhl {kindOf : Str→Option NameKind} {x : Str} : ∀ {binds : List (Str × Value)} {m : Str→Option Value},(∀ v,(x,v)∉binds)→bindL kindOf binds m x = m x
  | [],_,_ => rfl
  | (n,v)::r,m,h => by
    unfold bindL
    rw [zhl fun w hw => h w (List.mem_cons_of_mem _ hw)]
    split
    · have : x≠n := by rintro rfl; exact h v List.mem_cons_self
      simp [this]
    · rfl
theorem zhn {kindOf : Str→Option NameKind} {x : Str} : ∀ {binds : List (Str × Value)} {m : Str→Option Value},(∀ v,(x,v)∉binds)→bindC kindOf binds m x = m x
  | [],_,_ => rfl
  | (n,v)::r,m,h => by
    unfold bindC
    rw [zhn fun w hw => h w (List.mem_cons_of_mem _ hw)]
    split
    · rfl
    · have : x≠n := by rintro rfl; exact h v List.mem_cons_self
      simp [this]
theorem zhm {kindOf : Str→Option NameKind} {x : Str} {v : Value} : ∀ {P : List Str} {vs : List Value} {i : Nat} {m : Str→Option Value},P.Nodup→P[i]? = some x→vs[i]? = some v→kindOf x = some .local →
    bindL kindOf (P.zip vs) m x = some v
  | [],_,_,_,_,h,_,_ => by simp at h
  | _::_,[],_,_,_,_,h,_ => by simp at h
  | p::P,w::vs,0,m,nd,h1,h2,hk => by
    simp at h1 h2; subst h1; subst h2
    show bindL kindOf ((p,w)::P.zip vs) m p = _
    unfold bindL
    rw [zhl fun v hv => (List.nodup_cons.mp nd).1 (List.of_mem_zip hv).1,if_pos hk]
    simp
  | p::P,w::vs,i + 1,m,nd,h1,h2,hk => by
    show bindL kindOf ((p,w)::P.zip vs) m x = _
    unfold bindL
    exact zhm (i := i) (List.nodup_cons.mp nd).2 (by simpa using h1) (by simpa using h2) hk
theorem zho {kindOf : Str→Option NameKind} {x : Str} {v : Value} : ∀ {P : List Str} {vs : List Value} {i : Nat} {m : Str→Option Value},P.Nodup→P[i]? = some x→vs[i]? = some v→kindOf x≠some .local →
    bindC kindOf (P.zip vs) m x = some v
  | [],_,_,_,_,h,_,_ => by simp at h
  | _::_,[],_,_,_,_,h,_ => by simp at h
  | p::P,w::vs,0,m,nd,h1,h2,hk => by
    simp at h1 h2; subst h1; subst h2
    show bindC kindOf ((p,w)::P.zip vs) m p = _
    unfold bindC
    rw [zhn fun v hv => (List.nodup_cons.mp nd).1 (List.of_mem_zip hv).1,if_neg hk]
    simp
  | p::P,w::vs,i + 1,m,nd,h1,h2,hk => by
    show bindC kindOf ((p,w)::P.zip vs) m x = _
    unfold bindC
    exact zho (i := i) (List.nodup_cons.mp nd).2 (by simpa using h1) (by simpa using h2) hk
noncomputable def start (N : List Str) (vs : List V) : St := vs.map some++List.replicate (N.length - vs.length) none
noncomputable def cxOf (CX : CXT) (P : Program) (w : World) (K : PySem.W.Frag) (mg : Str→Option Value) (base : Heap) (N : List Str) (qual : Str) (scope : Scope) (f : Addr) (cd : Value) (A : Around) (outer : List Env) (s : Shared) (H : Hp) (E : XK) : Cx where
  prog := P
  w := w
  K := K
  mg := mg
  base := base
  A := A.deeper (envOfC qual scope s.heap.objs.size f cd)
  N := N
  s₀ := s
  H₀ := H
  env := envOfC qual scope s.heap.objs.size f cd
  outer := outer
  stack := envOfC qual scope s.heap.objs.size f cd::outer
  ex := []
  calm := true
  fn := fun _ => true
  pn := []
  xe := fun e s' => wpAny (model P w) (A.deeper (envOfC qual scope s.heap.objs.size f cd)) (leaving (envOfC qual scope s.heap.objs.size f cd) e) (fun _ s'' => CX outer H s E e s'') (fun e' s'' => CX outer H s E e' s'') s'
theorem ziD {sc : Scope} {n : Nat} {x : Str} (h : sc.names.lookup x = some .cell) : ∃ c,(cellsFrom n sc.names []).lookup x = some c := by
  have q := PySem.W.cellsFrom_some sc.names n [] (.inl h)
  exact Option.isSome_iff_exists.mp q
theorem zkr {CX : CXT} {P : Program} {w : World} {K : PySem.W.Frag} {mg : Str→Option Value} {base : Heap} {N ps : List Str} {qual : Str} {scope : Scope} {f : Addr} {cd : Value} {A : Around} {outer : List Env} {s s1 : Shared} {H : Hp} {E : XK} {us : List Value} {vs : List V}
    (S : FnScope N ps scope) (hd : A.handled = none) (e0 : Env0 P w K mg base A outer s H) (hl : vs.length = ps.length) (r : Vals vs us)
    (x : InCallC s s.heap.objs.size (bindL (envOfC qual scope s.heap.objs.size f cd).kindOf (ps.zip us) fun _ => none) (cellsFrom (s.heap.objs.size + 1) scope.names []) (bindC (envOfC qual scope s.heap.objs.size f cd).kindOf (ps.zip us) fun _ => none) s1) :
    Inv (cxOf CX P w K mg base N qual scope f cd A outer s H E) [] (start N vs) H s1 := by
  have hpl : ps.length≤N.length := by have := congrArg List.length S.pre; rw [List.length_take] at this; omega
  obtain ⟨h1,tk,rfl,hk⟩ := x.done
  have noA : ∀ b : Addr,b∉(cxOf CX P w K mg base N qual scope f cd A outer s H E).ex := fun b z => absurd (show b∈([] : List Addr) from z) (by simp)
  refine ⟨⟨e0.mod,S.kind,rfl,rfl,Nat.le_refl _,fun y z c h1 h2 => ?_,fun y hy => ?_,fun y c _ h => ?_,fun _ => hd,Around.frames_deeper e0.frames,.inr ⟨rfl,rfl⟩,fun b z => absurd z (noA b),e0.bs,e0.bsz,fun b _ _ => noA b,fun b z => absurd z (noA b),e0.funs,e0.frf⟩,
    rfl,e0.bare,Un.kept hk,⟨_,x.toInCall.ns,fun i y v h1 h2 h3 => ?_⟩,fun y c h => ⟨_,x.cell y c h⟩,e0.hok.fresh (Nat.le_refl _),fun y c h => ?_,fun p hp => absurd (show p∈([] : List (Addr × Obj)) from hp) (by simp),e0.hok.kept hk,?_⟩
  · exact name_of_addr x.apart (PySem.mem_of_lookup h1) (PySem.mem_of_lookup h2)
  · have hy : scope.names.lookup y = some .cell∨scope.names.lookup y = some .free := hy
    rcases hy with hy | hy
    · exact ziD hy
    · exact absurd rfl (S.nofree _ (PySem.mem_of_lookup hy))
  · exact Nat.le_of_lt (x.above y c (PySem.mem_of_lookup h))
  · have hi : i < vs.length := by
      unfold start at h2
      by_cases hi : i < vs.length
      · exact hi
      · rw [List.getElem?_append_right (by simpa using hi)] at h2
        rw [List.getElem?_replicate] at h2
        split at h2 <;> cases h2
    have ha : vs[i]? = some v := by
      unfold start at h2
      rw [List.getElem?_append_left (by simpa using hi),List.getElem?_map] at h2
      cases e : vs[i]? with
      | none => rw [e] at h2; cases h2
      | some a => rw [e] at h2; cases h2; rfl
    obtain ⟨u,hu,rv⟩ := r.get ha
    have hp : ps[i]? = some y := by
      rw [← S.pre,List.getElem?_take_of_lt (by omega)]; exact h1
    have ndP : ps.Nodup := by rw [← S.pre]; exact S.nd.sublist (List.take_sublist _ _)
    refine ⟨u,rv,?_⟩
    rcases S.par y (List.mem_of_getElem? hp) with k | k
    · exact .inl ⟨k,zhm ndP hp hu k⟩
    · obtain ⟨c,e⟩ := ziD (n := s.heap.objs.size + 1) k
      refine .inr ⟨.inl k,c,e,?_⟩
      have q := x.cell y c e
      rw [zho ndP hp hu (by show scope.names.lookup y≠_; rw [k]; decide)] at q
      exact q
  · exact e0.hok.fresh (Nat.le_of_lt (x.above y c (PySem.mem_of_lookup h)))
  · unfold start
    show _ = N.length
    rw [List.length_append,List.length_map,List.length_replicate]
    omega
theorem zrX {CX : CXT} {P : Program} {w : World} {K : PySem.W.Frag} {mg : Str→Option Value} {base : Heap} {k : Nat} {f : Addr} {name qual : Str} {params : Arguments} {body : List Stmt} {scope : Scope} {dV kV doc pm cdv ct oc : Value} {an od : Option Addr}
    {osl : Array (Option Value)} {N ps : List Str} {sp : Sp} (lk : K.lookup f = some ⟨oc,od,.func (PySem.W.fnOf name qual params body scope dV kV doc pm an cdv ct),osl⟩) (hcd : PySem.W.codeIn K cdv qual = true) (S : FnScope N ps scope)
    (len : ∀ vs H Q E,sp vs H Q E→vs.length = ps.length)
    (hbody : ∀ (A : Around) (outer : List Env) (s : Shared) (H : Hp) (vs : List V) (Q : VK) (E : XK),Room k (A.deeper (envOfC qual scope s.heap.objs.size f cdv))→sp vs H Q E →
      ∃ t,PSs (cxOf CX P w K mg base N qual scope f cdv A outer s H E) body t∧t { nx := fun _ H' => Q .non H',rt := Q } (start N vs) H) :
    FnOk P w K mg base CX (k + 1) f (PySem.W.fnOf name qual params body scope dV kV doc pm an cdv ct) ps sp := by
  refine ⟨len,fun A outer s H args us vs Q E hr e0 hb r hsp => ?_⟩
  have hl := len _ _ _ _ hsp
  have KX : K.In s.heap := e0.mod.kin.keeps fun b o e => (e0.bs b o e).1
  have lim : s.heap.NoLimit := e0.mod.nolimit.keeps fun b o e => (e0.bs b o e).1
  have hkind : ∀ y∈ps.zip us,scope.names.lookup y.1 = some .local∨(scope.names.lookup y.1 = some .cell∧((cellsFrom (s.heap.objs.size + 1) scope.names []).lookup y.1).isSome = true) := fun ⟨n,v⟩ hy => by
    rcases S.par n (List.of_mem_zip hy).1 with q | q
    · exact .inl q
    · exact .inr ⟨q,PySem.W.cellsFrom_some _ _ _ (.inl q)⟩
  refine codeAny_call_function hr.depth (KX _ _ lk) rfl S.co S.gen rfl (PySem.W.codeRec_of KX hcd) (hb _ _ _ _ ?_)
  refine wpAny_newFunctionEnv_cells S.kind hkind fun env he s1 x => ?_
  subst he
  refine ⟨lim.keeps x.toInCall.keep,codeAny_func ?_⟩
  obtain ⟨t,ht,hq⟩ := hbody A outer s H vs Q E (hr.deeper _) hsp
  have I : Inv (cxOf CX P w K mg base N qual scope f cdv A outer s H E) [] (start N vs) H s1 := zkr S hr.hd e0 hl r x
  refine wpAny_mono (ht [] s1 (start N vs) H _ I hq) (fun fl s' hs => ?_) fun e s' hs => hs
  have fin : ∀ {σ' : St} {H' : Hp} {v : V} {u : Value},Inv (cxOf CX P w K mg base N qual scope f cdv A outer s H E) [] σ' H' s'→RelV v u→Q v H'→CE outer P w H s Q u s' :=
    fun {σ' H' v u} J rv q => ⟨v,H',J.os,J.bare,J.base,J.hok,rv,q⟩
  cases fl with
  | ret u =>
    obtain ⟨v,σ',H',J,rv,q⟩ := hs
    exact fin J rv q
  | next =>
    obtain ⟨σ',H',J,q⟩ := hs
    exact fin (v := V.non) (u := Value.none) J rfl q
  | brk =>
    obtain ⟨_,_,_,q⟩ := hs
    exact False.elim q
  | cont =>
    obtain ⟨_,_,_,q⟩ := hs
    exact False.elim q
end L2
namespace L2
open PySem PySem.Spec PyProof.Rows
section
variable {X : Cx} {x : Str} {p pos : Pos} {e : Expr} {es : List Expr} {t : TA} {id T : String} {r : List V → Hp → VK → Prop}
noncomputable def tCB (r : List V→Hp→VK→Prop) (t : TA) : TE := fun σ H Q => t σ H fun vs H1 => r vs H1 Q
theorem zdr (hc : zdh X (.builtin id) r) (hg : Gl X x) (hm : X.mg x = none) (hv : bootBuiltins x = some (.builtin id)) (ha : PA X (e::es) t) (hn : x≠"__name__" := by decide) (hdb : (x == ("__debug__" : Str)) = false := by decide)
    (he : starEach (e::es) X.env = (false,eval e X.env)::starEach es X.env := by rfl) (hpl : (backTo pos (starEach es X.env)).any (·.1) = false := by rfl) : PE X (.Call (.Name x p) (e::es) [] pos) (tCB r t) := by
  intro pins s σ H Q I h
  refine wpAny_Call_Name_kw (ziw I hg hm hv ?_ hn hdb)
  exact PyProof.Rows.callWith_builtin1 (thn (ha pos pins s σ H _ I h) fun us s1 ⟨vs,H1,I1,r1,q1⟩ => hc pins s1 σ H1 vs us Q I1 r1 q1) he hpl
theorem zec (hc : zdh X (.type T) r) (hg : Gl X x) (hm : X.mg x = none) (hv : bootBuiltins x = some (.type T)) (ha : PA X (e::es) t) (hn : x≠"__name__" := by decide) (hdb : (x == ("__debug__" : Str)) = false := by decide)
    (he : starEach (e::es) X.env = (false,eval e X.env)::starEach es X.env := by rfl) (hpl : (backTo pos (starEach es X.env)).any (·.1) = false := by rfl) : PE X (.Call (.Name x p) (e::es) [] pos) (tCB r t) := by
  intro pins s σ H Q I h
  refine wpAny_Call_Name_kw (ziw I hg hm hv ?_ hn hdb)
  exact PyProof.Rows.callWith_type1 (thn (ha pos pins s σ H _ I h) fun us s1 ⟨vs,H1,I1,r1,q1⟩ => hc pins s1 σ H1 vs us Q I1 r1 q1) he hpl
end
end L2
namespace HT
open PySem PyProof.Rows
section
open PySem.SeqAt
open PySem.AutoSeq1 (wpAny_loadPart')
open PySem.MeetsSeq PySem.MeetsSeq2 PySem.MeetsSeq3
end
section
variable {prog : Program} {w : World} {A : Around} {E : Value → Shared → Prop} {s : Shared}
theorem cat_tup {t b : Addr} {vs ws : List Value} {Q : Value→Shared→Prop} (ht : IsTup s.heap t vs.toArray) (hb : IsTup s.heap b ws.toArray) (hv : vs≠[])
    (h1 : ws = []→Q (.ref t) s) (h2 : ws≠[]→Q (.ref s.heap.objs.size) { s with heap := s.heap.push { cls := .type "tuple",data := .seq (vs++ws).toArray } })
    (hsz : vs.length + ws.length≤sizeLine) : wpAny (model prog w) A (binaryOp .Add (.ref t) (.ref b)) Q E s := by
  obtain ⟨⟨cls,dd,data,sl⟩,ho,hc,n,hd⟩ := id ht
  obtain ⟨⟨cls2,dd2,data2,sl2⟩,ho2,hc2,n2,hd2⟩ := id hb
  simp only at hc hd hc2 hd2
  subst hc hd hc2 hd2
  have e : vs.toArray++ws.toArray = (vs++ws).toArray := by simp
  by_cases hw : ws = []
  · exact concat_meets ⟨_,ho,rfl⟩ ⟨_,ho2,rfl⟩ noFill_tuple_add seq_tuple_add PySem.F.slot_tuple_add PySem.F.entry_tuple_add (PySem.F.args_tuple_add_2 _ _)
      (tuple_addW1 t b vs.toArray ws.toArray n n2 dd dd2 sl sl2 (by simpa using hv) (by simp [hw])) ⟨ho,ho2,h1 hw⟩
  · refine concat_meets ⟨_,ho,rfl⟩ ⟨_,ho2,rfl⟩ noFill_tuple_add seq_tuple_add PySem.F.slot_tuple_add PySem.F.entry_tuple_add (PySem.F.args_tuple_add_2 _ _)
      (tuple_addW2 t b vs.toArray ws.toArray n n2 dd dd2 sl sl2 (by simpa using hv) (by simpa using hw) (by rw [List.size_toArray,List.size_toArray]; exact hsz)) ⟨ho,ho2,?_⟩
    rw [e]
    exact h2 hw
noncomputable def sIx (n d : Nat) : Option Int→Nat
  | none => d
  | some v => if v < 0 then (v + (n : Int)).toNat else min v.toNat n
theorem sIx_none (n d : Nat) : sIx n d none = d := rfl
theorem sIx_nat (n d k : Nat) : sIx n d (some (k : Int)) = min k n := by
  show (if (k : Int) < 0 then ((k : Int) + (n : Int)).toNat else min (k : Int).toNat n) = min k n
  rw [if_neg (by omega),Int.toNat_natCast]
theorem zpu (n d : Nat) (hd : d≤n) (o : Option Int) : sIx n d o≤n := by
  cases o with
  | none => exact hd
  | some v =>
    show (if v < 0 then (v + (n : Int)).toNat else min v.toNat n)≤n
    by_cases hv : v < 0
    · rw [if_pos hv]; omega
    · rw [if_neg hv]; exact Nat.min_le_right _ _
theorem zkS (v : Int) (n d : Nat) : (if v < 0 then max (v + (n : Int)) 0 else min v (n : Int)) = ((sIx n d (some v) : Nat) : Int) := by
  show (if v < 0 then max (v + (n : Int)) 0 else min v (n : Int)) = (((if v < 0 then (v + (n : Int)).toNat else min v.toNat n) : Nat) : Int)
  by_cases hv : v < 0
  · simp only [if_pos hv]; omega
  · simp only [if_neg hv]; omega
theorem zjb (lo hi : Option Int) (n : Nat) : Builtin.Slice.sliceAdjust lo hi 1 (n : Int) = (((sIx n 0 lo : Nat) : Int),((sIx n n hi : Nat) : Int)) := by
  have h1 : ¬ ((1 : Int) < 0) := by omega
  unfold Builtin.Slice.sliceAdjust
  simp only [h1,if_false]
  refine Prod.ext ?_ ?_
  · cases lo with
    | none => rfl
    | some v => exact zkS v n 0
  · cases hi with
    | none => rfl
    | some v => exact zkS v n n
theorem ziU (i j : Nat) : Builtin.Slice.slicePlaces (i : Int) (j : Int) 1 = j - i := by
  unfold Builtin.Slice.slicePlaces
  have h1 : (1 : Int) > 0 := by omega
  simp only [h1,if_true,Int.ediv_one]
  split <;> omega
theorem zfM {v : Value} {o : Option Int} {Q : Option Int→Shared→Prop} (p : IsPart v o) (h : Q o s) : wpAny (model prog w) A (Builtin.Slice.slicePartIndex v) Q E s := by
  cases p with
  | none => exact slicePart_none h
  | int i t => exact slicePart_int h
theorem sliceApplied_gen {sl : Addr} {vl vu : Value} {lo hi : Option Int} {n : Nat} {Q : Int × Int × Nat→Shared→Prop} (hs : s.heap.IsSliceOf sl vl vu .none) (pl : IsPart vl lo) (pu : IsPart vu hi)
    (h : Q (((sIx n 0 lo : Nat) : Int),1,sIx n n hi - sIx n 0 lo) s) : wpAny (model prog w) A (Builtin.Slice.sliceApplied (.ref sl) (pure (n : Int))) Q E s := by
  obtain ⟨os,hos,hcs,hds⟩ := id hs
  unfold Builtin.Slice.sliceApplied Builtin.Slice.sliceFields
  refine wpAny_bind (wpAny_bind (wpAny_field hos hds (x := vl) rfl (wpAny_bind (wpAny_field hos hds (x := vu) rfl (wpAny_bind (wpAny_field hos hds (x := .none) rfl (wpAny_pure ?_)))))))
  refine wpAny_bind (slicePart_none ?_)
  show wpAny _ _ (if ((1 : Int) == 0) = true then _ else _) _ _ s
  rw [if_neg (by decide)]
  refine wpAny_bind (zfM pl (wpAny_bind (zfM pu (wpAny_bind (wpAny_pure ?_)))))
  show wpAny _ _ (match Builtin.Slice.sliceAdjust lo hi 1 (n : Int) with | (lo,hi) => pure (lo,(1 : Int),Builtin.Slice.slicePlaces lo hi 1)) _ _ s
  rw [zjb lo hi n]
  show wpAny _ _ (pure (((sIx n 0 lo : Nat) : Int),(1 : Int),Builtin.Slice.slicePlaces ((sIx n 0 lo : Nat) : Int) ((sIx n n hi : Nat) : Int) 1)) _ _ s
  rw [ziU]
  exact wpAny_pure h
theorem zlD (xs : Array Value) (i k : Nat) : ((List.range k).filterMap fun (m : Nat) => xs[((i : Int) + (m : Int) * 1).toNat]?).toArray = ((xs.toList.drop i).take k).toArray := by
  have e : (fun (m : Nat) => xs[((i : Int) + (m : Int) * 1).toNat]?) = fun m => xs[i + m]? := by
    funext m
    have : ((i : Int) + (m : Int) * 1).toNat = i + m := by omega
    rw [this]
  rw [e]
  have := pick_run xs i k
  rw [List.filterMap_map] at this
  have e2 : ((fun x => xs[x]?) ∘ fun x => i + x) = fun m => xs[i + m]? := rfl
  rw [e2] at this
  rw [this]
theorem getItem_tuple_cut {t sl : Addr} {items : Array Value} {vl vu : Value} {lo hi : Option Int} {Q : Value→Shared→Prop} (ht : IsTup s.heap t items) (hs : s.heap.IsSliceOf sl vl vu .none) (pl : IsPart vl lo) (pu : IsPart vu hi)
    (hw : ¬ (sIx items.size 0 lo = 0∧sIx items.size items.size hi = items.size))
    (h : Q (.ref s.heap.objs.size) { s with heap := s.heap.push { cls := .type "tuple",data := .seq ((items.toList.drop (sIx items.size 0 lo)).take (sIx items.size items.size hi - sIx items.size 0 lo)).toArray } })
    (hsz : items.size≤sizeLine) : wpAny (model prog w) A (getItem (.ref t) (.ref sl)) Q E s := by
  have htake : sizeOk (.seq ((items.toList.drop (sIx items.size 0 lo)).take (sIx items.size items.size hi - sIx items.size 0 lo)).toArray) := by
    show ((items.toList.drop (sIx items.size 0 lo)).take (sIx items.size items.size hi - sIx items.size 0 lo)).toArray.size≤sizeLine
    rw [List.size_toArray,List.length_take,List.length_drop,Array.length_toList]
    omega
  have hj : sIx items.size items.size hi≤items.size := zpu _ _ (Nat.le_refl _) hi
  obtain ⟨os,hos,hcs,hds⟩ := id hs
  have hTs : s.TypeIs (.ref sl) "slice" := ⟨os,hos,hcs⟩
  unfold getItem
  try with_reducible refine wpAny_holding ?_
  first | refine wpAny_bind (wpAny_pure ?_) | skip
  refine wpAny_bind (wpAny_sequenceKey ht.typeIs (by decide) ?_)
  refine wpAny_bind (wpAny_callSpecial?_slot (name := Str.ofString "__getitem__") ht.typeIs PyProof.Rows.slot_tuple_getitem
    (wpAny_call_entry PyProof.Rows.slot_tuple_getitem ht.typeIs entry_tuple_getitem ?_ (args_tuple_getitem _ _)))
  show wpAny _ _ (Builtin.Tuple.tupleItemsOf (.ref t) >>= _) _ _ s
  refine wpAny_bind (tupleItemsOf_ ht ?_)
  refine wpAny_bind (wpAny_typeOf hTs ?_)
  rw [if_pos (by decide)]
  refine wpAny_bind (sliceApplied_gen hs pl pu ?_)
  have hno : ¬ ((((sIx items.size 0 lo : Nat) : Int) == 0 && (1 : Int) == 1 && (sIx items.size items.size hi - sIx items.size 0 lo) == items.size) = true) := by
    intro q
    rw [Bool.and_eq_true,Bool.and_eq_true] at q
    have q1 : ((sIx items.size 0 lo : Nat) : Int) = 0 := eq_of_beq q.1.1
    have q2 : sIx items.size items.size hi - sIx items.size 0 lo = items.size := eq_of_beq q.2
    exact hw ⟨by omega,by omega⟩
  show wpAny _ _ (if (((sIx items.size 0 lo : Nat) : Int) == 0 && (1 : Int) == 1 && (sIx items.size items.size hi - sIx items.size 0 lo) == items.size) = true then _ else _) _ _ s
  rw [if_neg hno,zlD]
  first
    | exact wpAny_bind (m := Builtin.Tuple.tupleExact _) (wpAny_newObj_type (wpAny_pure ⟨_,rfl,wpAny_pure h⟩) htake)
    | exact wpAny_bind (m := Builtin.Tuple.tupleExact _) (wpAny_newObj_type (wpAny_bind (wpAny_pure (wpAny_pure ⟨_,rfl,wpAny_pure h⟩))) htake)
    | exact wpAny_bind (wpAny_bind (m := Builtin.Tuple.tupleExact _) (wpAny_newObj_type (wpAny_pure (wpAny_pure ⟨_,rfl,wpAny_pure h⟩)) htake))
    | exact wpAny_bind (wpAny_bind (m := Builtin.Tuple.tupleExact _) (wpAny_newObj_type (wpAny_pure ⟨_,rfl,wpAny_pure h⟩) htake))
end
end HT
namespace L2
open PySem PySem.Spec PyProof.Rows
noncomputable abbrev TO := St→Hp→(Option Int→Hp→Prop)→Prop
noncomputable def PO (X : Cx) (e : Option Expr) (t : TO) : Prop :=
  ∀ (pins : List (Addr × Obj)) (s : Shared) (σ : St) (H : Hp) (Q : Option Int→Hp→Prop),Inv X pins σ H s→t σ H Q →
    wpAny (model X.prog X.w) X.A (evalPart e X.env) (fun u s' => ∃ o H',Inv X pins σ H' s'∧IsPart u o∧Q o H') X.xe s
noncomputable def znl : TO := fun _ H Q => Q none H
noncomputable def zrl (t : TE) : TO := fun σ H Q => t σ H fun x H1 => ∃ i,x = .int i∧Q (some i) H1
theorem zfV {ns : List Int} : ∀ {us : List Value},Vals (ns.map V.int) us→IntsAre us ns := by
  induction ns with
  | nil => intro us r; rw [List.map_nil] at r; cases r; exact .nil
  | cons n ns ih =>
    intro us r
    rw [List.map_cons] at r
    cases r with
    | cons r1 r2 =>
      obtain ⟨t,e⟩ := r1
      subst e
      exact .cons n t (ih r2)
section
variable {X : Cx} {e : Expr} {te : TE} {lo hi : Option Expr} {tl th : TO} {pos p2 : Pos}
theorem znR : PO X none znl := by
  intro pins s σ H Q I h
  rw [evalPart_none]
  exact wpAny_pure ⟨none,H,I,.none,h⟩
theorem znQ (h : PE X e te) : PO X (some e) (zrl te) := by
  intro pins s σ H Q I hw
  rw [evalPart_some]
  refine thn (h pins s σ H _ I hw) fun u s1 ⟨x,H1,I1,r1,q1⟩ => ?_
  obtain ⟨i,rfl,q⟩ := q1
  obtain ⟨t,rfl⟩ := r1
  exact ⟨some i,H1,I1,.int i t,q⟩
noncomputable def SlR (X : Cx) (r : V→Option Int→Option Int→Hp→VK→Prop) : Prop :=
  ∀ (pins : List (Addr × Obj)) (s : Shared) (σ : St) (H : Hp) (x : V) (v vl vu : Value) (lo hi : Option Int) (sl : Addr) (Q : VK),Inv X pins σ H s→RelV x v→s.heap.IsSliceOf sl vl vu .none→IsPart vl lo→IsPart vu hi→r x lo hi H Q →
    ∃ T id,typeLookup (.type T) "__getitem__" = pure (some (.builtin id))∧s.TypeIs v T∧wpAny (model X.prog X.w) X.A (getItem v (.ref sl)) (EP X pins σ Q) X.xe s
theorem SlR.or {r r' : V→Option Int→Option Int→Hp→VK→Prop} (h : SlR X r) (h' : SlR X r') : SlR X (fun x lo hi H Q => r x lo hi H Q∨r' x lo hi H Q) := by
  intro pins s σ H x v vl vu lo hi sl Q I rx hs pl pu q
  rcases q with q | q
  · exact h pins s σ H x v vl vu lo hi sl Q I rx hs pl pu q
  · exact h' pins s σ H x v vl vu lo hi sl Q I rx hs pl pu q
noncomputable def tSl (r : V→Option Int→Option Int→Hp→VK→Prop) (te : TE) (tl th : TO) : TE := fun σ H Q => te σ H fun x H1 => tl σ H1 fun l H2 => th σ H2 fun u H3 => r x l u H3 Q
theorem zlF {r : V→Option Int→Option Int→Hp→VK→Prop} (hr : SlR X r) (he : PE X e te) (hl : PO X lo tl) (hu : PO X hi th) : PE X (.Subscript e (.Slice lo hi none p2) pos) (tSl r te tl th) := by
  intro pins s σ H Q I h
  refine Subscript_ (thn (he pins s σ H _ I h) fun v s1 ⟨x,H1,I1,r1,q1⟩ => ?_)
  refine wpAny_Slice (thn (hl pins s1 σ H1 _ I1 q1) fun vl s2 ⟨l,H2,I2,pl,q2⟩ => thn (hu pins s2 σ H2 _ I2 q2) fun vu s3 ⟨u,H3,I3,pu,q3⟩ => ?_)
  rw [evalPart_none]
  refine wpAny_pure ?_
  have I4 : Inv X pins σ H3 { s3 with heap := s3.heap.push { cls := .type "slice",data := .fields #[vl,vu,.none] } } := I3.kept (t' := s3.toks) fun b ob q => Heap.get?_push_of_some _ q
  obtain ⟨T,id,hT,ht,hg⟩ := hr pins { s3 with heap := s3.heap.push { cls := .type "slice",data := .fields #[vl,vu,.none] } } σ H3 x v vl vu l u s3.heap.objs.size Q I4 r1 (Heap.IsSliceOf.new ..) pl pu q3
  show wpAny (model X.prog X.w) X.A (subscriptTail e (.Slice lo hi none p2) v (.ref s3.heap.objs.size)) (EP X pins σ Q) X.xe { s3 with heap := s3.heap.push { cls := .type "slice",data := .fields #[vl,vu,.none] } }
  exact tail_any (ops := [.ref s3.heap.objs.size,v]) ht hT hg (by with_unfolding_all rfl)
noncomputable def cutV (xs : List V) (lo hi : Option Int) : List V := (xs.drop (HT.sIx xs.length 0 lo)).take (HT.sIx xs.length xs.length hi - HT.sIx xs.length 0 lo)
theorem zfr (xs : List V) (lo hi : Option Int) : (cutV xs lo hi).length≤xs.length := by
  unfold cutV
  rw [List.length_take,List.length_drop]
  omega
noncomputable def rSlT (K : PySem.W.Frag) : V→Option Int→Option Int→Hp→VK→Prop := fun x lo hi H Q => ∃ a xs,x = .ref a∧SqT K H a xs ∧
  ¬ (HT.sIx xs.length 0 lo = 0∧HT.sIx xs.length xs.length hi = xs.length)∧∀ p,H p = none→Q (.ref p) (upd H p (.tup (cutV xs lo hi)))
theorem zpd : SlR X (rSlT X.K) := by
  intro pins s σ H x v vl vu lo hi sl Q I rx hs pl pu h
  obtain ⟨a,xs,rfl,hx,hw,q⟩ := h
  cases rx
  obtain ⟨its,r,ht,hz⟩ := I.tuple hx
  have hlen : its.toArray.size = xs.length := by rw [List.size_toArray]; exact r.length.symm
  refine ⟨"tuple",_,PyProof.Rows.slot_tuple_getitem.lookup,ht.typeIs,?_⟩
  refine HT.getItem_tuple_cut ht hs pl pu (by rw [hlen]; exact hw) ?_ (by rw [hlen]; exact hz)
  rw [hlen]
  refine ⟨.ref s.heap.objs.size,_,I.laid (t' := s.toks) (o := .tup (cutV xs lo hi)) (fun b ob q => Heap.get?_push_of_some _ q) (Nat.le_refl _) ?_,rfl,q _ (I.hok.fresh (Nat.le_refl _))⟩
  exact ⟨Nat.le_trans (zfr xs lo hi) hz,_,(r.drop (HT.sIx xs.length 0 lo)).take (HT.sIx xs.length xs.length hi - HT.sIx xs.length 0 lo),IsTup.new _ _,_,Heap.get?_push_size _ rfl,rfl⟩
noncomputable def znL (K : PySem.W.Frag) : R2 := fun x y H Q => ∃ a b xs ys,x = .ref a∧y = .ref b∧SqT K H a xs∧SqT K H b ys∧xs≠[]∧xs.length + ys.length≤sizeLine ∧
  (ys = []→Q (.ref a) H)∧(ys≠[]→∀ p,H p = none→Q (.ref p) (upd H p (.tup (xs++ys))))
theorem Vals.nil_iff {xs : List V} {us : List Value} (r : Vals xs us) : us = []↔xs = [] := by
  cases r with
  | nil => simp
  | cons _ _ => simp
theorem zjX : OpR X (binaryOp .Add) (znL X.K) := by
  intro pins s σ H x y v u Q I rx ry h
  obtain ⟨a,b,xs,ys,rfl,rfl,ha,hb,hx,hz,q1,q2⟩ := h
  cases rx
  cases ry
  obtain ⟨its,r1,p1,_⟩ := I.tuple ha
  obtain ⟨its2,r2,p2,_⟩ := I.tuple hb
  refine HT.cat_tup p1 p2 (fun z => hx (r1.nil_iff.mp z)) (fun z => ⟨.ref a,H,I,rfl,q1 (r2.nil_iff.mp z)⟩) (fun z => ?_) (by rw [← r1.length,← r2.length]; exact hz)
  refine ⟨.ref s.heap.objs.size,_,I.laid (t' := s.toks) (o := .tup (xs++ys)) (fun b ob q => Heap.get?_push_of_some _ q) (Nat.le_refl _) ?_,rfl,q2 (fun w => z (r2.nil_iff.mpr w)) _ (I.hok.fresh (Nat.le_refl _))⟩
  exact ⟨by rw [List.length_append]; exact hz,_,r1.append r2,IsTup.new _ _,_,Heap.get?_push_size _ rfl,rfl⟩
end
end L2
namespace L2
open PySem PySem.Spec PyProof.Rows
noncomputable def ixN (n : Nat) (i : Int) : Option Nat := if 0≤i then (if i < n then some i.toNat else none) else if -(n : Int)≤i then some (i + n).toNat else none
noncomputable def atI {α : Type} (xs : List α) (i : Int) : Option α := (ixN xs.length i).bind fun j => xs[j]?
theorem zko {n : Nat} {i : Int} {j : Nat} (h : ixN n i = some j) : seqIndex? i n = some j∧j < n∧-(n : Int)≤i∧i < n := by
  unfold ixN at h
  by_cases h0 : 0≤i
  · rw [if_pos h0] at h
    by_cases h1 : i < n
    · rw [if_pos h1] at h
      have e : i.toNat = j := Option.some.inj h
      exact ⟨by rw [seqIndex_of h0 h1,e],by omega,by omega,h1⟩
    · rw [if_neg h1] at h; cases h
  · rw [if_neg h0] at h
    by_cases h1 : -(n : Int)≤i
    · rw [if_pos h1] at h
      have e : (i + n).toNat = j := Option.some.inj h
      exact ⟨by rw [seqIndex_neg (by omega) h1,e],by omega,h1,by omega⟩
    · rw [if_neg h1] at h; cases h
theorem zh1 {α : Type} {xs : List α} {i : Int} {v : α} (h : atI xs i = some v) : ∃ j,seqIndex? i xs.length = some j∧xs[j]? = some v∧j < xs.length∧-(xs.length : Int)≤i∧i < xs.length := by
  unfold atI at h
  cases e : ixN xs.length i with
  | none => rw [e] at h; cases h
  | some j =>
    rw [e] at h
    obtain ⟨h1,h2,h3,h4⟩ := zko e
    exact ⟨j,h1,h,h2,h3,h4⟩
noncomputable def zgu (b : Expr) : Prop := ∀ o i,subscripted b false o i = operate [o,i] (getItem o i)
noncomputable def IxR (X : Cx) (r : R2) : Prop :=
  ∀ (value slice : Expr) (pins : List (Addr × Obj)) (s : Shared) (σ : St) (H : Hp) (x y : V) (v u : Value) (Q : VK),Inv X pins σ H s→RelV x v→RelV y u→r x y H Q →
    subscripted slice false v u = operate [v,u] (getItem v u)→wpAny (model X.prog X.w) X.A (subscriptTail value slice v u) (EP X pins σ Q) X.xe s
noncomputable def MtR (X : Cx) (id : String) (r : V→List V→Hp→VK→Prop) : Prop :=
  ∀ (pins : List (Addr × Obj)) (s : Shared) (σ : St) (H : Hp) (x : V) (xs : List V) (v : Value) (us : List Value) (Q : VK),Inv X pins σ H s→RelV x v→Vals xs us→r x xs H Q →
    wpAny (model X.prog X.w) X.A (call (.builtin id) (v::us)) (EP X pins σ Q) X.xe s
section
variable {X : Cx} {a b : Expr} {ta tb : TE} {pos : Pos}
theorem IxR.or {r r' : R2} (h : IxR X r) (h' : IxR X r') : IxR X (fun x y H Q => r x y H Q∨r' x y H Q) := by
  intro value slice pins s σ H x y v u Q I rx ry q hs
  rcases q with q | q
  · exact h value slice pins s σ H x y v u Q I rx ry q hs
  · exact h' value slice pins s σ H x y v u Q I rx ry q hs
theorem znU {r : R2} (hr : IxR X r) (ha : PE X a ta) (hb : PE X b tb) (hs : zgu b) : PE X (.Subscript a b pos) (tOp r ta tb) := by
  intro pins s σ H Q I h
  exact Subscript_ (binT ha hb I h fun v u s2 x y H2 I2 rx ry q => hr a b pins s2 σ H2 x y v u Q I2 rx ry q (hs _ _))
noncomputable def rIxL (K : PySem.W.Frag) : R2 := fun x y H Q => ∃ p xs i v,x = .ref p∧y = .int i∧SqL K H p xs∧atI xs i = some v∧Q v H
noncomputable def rIxT (K : PySem.W.Frag) : R2 := fun x y H Q => ∃ p xs i v,x = .ref p∧y = .int i∧SqT K H p xs∧atI xs i = some v∧Q v H
noncomputable def rIxS : R2 := fun x y H Q => ∃ z i c,x = .str z∧y = .int i∧z.length≤sizeLine∧atI z.cps.toList i = some c∧Q (.str ⟨#[c]⟩) H
theorem zkn : IxR X (rIxL X.K) := by
  intro value slice pins s σ H x y v u Q I rx ry h hs
  obtain ⟨p,xs,i,z,rfl,rfl,hq,he,q⟩ := h
  cases rx
  obtain ⟨t,rfl⟩ := ry
  obtain ⟨its,r,pl,hz⟩ := I.list hq
  obtain ⟨j,h1,h2,h3,h4,h5⟩ := zh1 he
  obtain ⟨w,ew,rw'⟩ := r.get h2
  have hl := r.length
  have hn := zfS
  have fin : EP X pins σ Q w s := ⟨z,H,I,rw',q⟩
  by_cases h0 : 0≤i
  · have hj : i.toNat = j := by
      rw [seqIndex_of h0 h5] at h1
      exact Option.some.inj h1
    exact item_listR pl.isList h0 (by omega) (by rw [hj]; simpa using ew) fin hs
  · have hj : (i + (its.toArray.size : Int)).toNat = j := by
      rw [seqIndex_neg (by omega) h4] at h1
      rw [List.size_toArray,← hl]
      exact Option.some.inj h1
    exact subscriptTail_builtinR (x := w) pl.isList.typeIs slot_list_getitem.lookup
      (wpAny_getItem_list_neg (Q := fun r s' => r = w∧EP X pins σ Q r s') pl.isList (by omega) (by rw [List.size_toArray] <;> omega) (by omega) (by rw [hj]; simpa using ew) ⟨rfl,fin⟩) hs
theorem zmY : IxR X (rIxT X.K) := by
  intro value slice pins s σ H x y v u Q I rx ry h hs
  obtain ⟨p,xs,i,z,rfl,rfl,hq,he,q⟩ := h
  cases rx
  obtain ⟨t,rfl⟩ := ry
  obtain ⟨its,r,pl,hz⟩ := I.tuple hq
  obtain ⟨j,h1,h2,h3,h4,h5⟩ := zh1 he
  obtain ⟨w,ew,rw'⟩ := r.get h2
  have hl := r.length
  have hn := zfS
  have fin : EP X pins σ Q w s := ⟨z,H,I,rw',q⟩
  exact subscriptTail_builtinR (x := w) pl.typeIs slot_tuple_getitem.lookup
    (getItem_tuple (j := j) (Q := fun r s' => r = w∧EP X pins σ Q r s') pl (by omega) (by omega) (by rw [List.size_toArray,← hl]; exact h1) (by simpa using ew) ⟨rfl,fin⟩) hs
theorem zqu : IxR X rIxS := by
  intro value slice pins s σ H x y v u Q I rx ry h hs
  obtain ⟨z,i,c,rfl,rfl,hz,he,q⟩ := h
  obtain ⟨t,rfl⟩ := rx
  obtain ⟨t',rfl⟩ := ry
  obtain ⟨j,h1,h2,h3,h4,h5⟩ := zh1 he
  have hl : z.cps.toList.length = z.length := by simp [Str.length]
  rw [hl] at h1 h4 h5
  have hn := zfS
  exact tail_any (typeIs_str s z t) slot_str_getitem.lookup (getItem_str (c := c) (by
    have e1 : decide (i < -(2 ^ 63 : Int)) = false := decide_eq_false (by omega)
    have e2 : decide (i ≥ 2 ^ 63) = false := decide_eq_false (by omega)
    rw [e1,e2,Bool.or_false]) (by rw [h1]; simpa using h2) ⟨.str ⟨#[c]⟩,H,I.tok _,⟨_,rfl⟩,q⟩) hs
noncomputable def rIx (K : PySem.W.Frag) : R2 := fun x y H Q => rIxL K x y H Q∨rIxT K x y H Q∨rIxS x y H Q
theorem zqv : IxR X (rIx X.K) := zkn.or (zmY.or zqu)
theorem ziW (its : List Value) (n j : Nat) (u : Value) : Obj.mapSeq (·.setIfInBounds j u) { cls := .type "list",data := .seq its.toArray n } = { cls := .type "list",data := .seq (its.set j u).toArray n } := by
  simp [Obj.mapSeq]
theorem Inv.lst {pins : List (Addr × Obj)} {σ : St} {H : Hp} {s : Shared} {p : Addr} {xs : List V} (I : Inv X pins σ H s) (h : H p = some (.lst xs)) :
    ∃ (its : List Value) (n : Nat),Vals xs its∧s.heap.get? p = some { cls := .type "list",data := .seq its.toArray n }∧xs.length≤sizeLine := by
  obtain ⟨z,its,n,r,e⟩ := I.hok p _ h
  exact ⟨its,n,r,e,z⟩
theorem Inv.lstUpd {pins : List (Addr × Obj)} {σ : St} {H : Hp} {s : Shared} {p : Addr} {xs ys : List V} {its its' : List Value} {n n' : Nat} {f : Obj→Obj} (I : Inv X pins σ H s) (h : H p = some (.lst xs))
    (ho : s.heap.get? p = some { cls := .type "list",data := .seq its.toArray n }) (hf : f { cls := .type "list",data := .seq its.toArray n } = { cls := .type "list",data := .seq its'.toArray n' }) (r : Vals ys its') (hz : ys.length≤sizeLine) (t : Nat) :
    Inv X pins σ (upd H p (.lst ys)) { s with heap := s.heap.update p f,toks := t } := by
  have e : (s.heap.update p f).get? p = some { cls := .type "list",data := .seq its'.toArray n' } := by
    rw [Heap.get?_update_self f ho (by rw [hf] <;> rfl),hf]
  refine I.write (x := p) (e := p) (by rw [h]; trivial) (.inl rfl) (fun b u hb q => (Heap.get?_update_other _ _ (Ne.symm hb)).trans q) ⟨_,e⟩ ?_
  exact ⟨hz,its',n',r,e⟩
noncomputable def zpE : V→V→V→Hp→(Hp→Prop)→Prop := fun o i v H Q => ∃ p xs k j,o = .ref p∧i = .int k∧H p = some (.lst xs)∧ixN xs.length k = some j∧Q (upd H p (.lst (xs.set j v)))
theorem zii : PSet X zpE := by
  intro pins s σ H o i v ov iv u Q I ro ri rv h
  obtain ⟨p,xs,k,j,rfl,rfl,hp,hj,q⟩ := h
  cases ro
  obtain ⟨t,rfl⟩ := ri
  obtain ⟨its,n,r,ho,hz⟩ := I.lst hp
  obtain ⟨h1,h2,h3,h4⟩ := zko hj
  have hl := r.length
  have hn := zfS
  have I' : Inv X pins σ (upd H p (.lst (xs.set j v))) { s with heap := s.heap.update p (Obj.mapSeq (·.setIfInBounds j u)) } :=
    I.lstUpd hp ho (ziW its n j u) (r.set rv j) (by rw [List.length_set]; exact hz) s.toks
  by_cases h0 : 0≤k
  · have hk : k.toNat = j := by
      rw [seqIndex_of h0 h4] at h1
      exact Option.some.inj h1
    exact PySem.W.ki_setAt ho h0 (by omega) (by rw [List.size_toArray,← hl]; exact h4) (by rw [hk]; exact ⟨_,I',q⟩)
  · have hk : (k + (its.toArray.size : Int)).toNat = j := by
      rw [seqIndex_neg (by omega) h3] at h1
      rw [List.size_toArray,← hl]
      exact Option.some.inj h1
    exact PySem.W.ki_setBack ho (by omega) (by rw [List.size_toArray,← hl]; exact h3) (by omega) (by rw [hk]; exact ⟨_,I',q⟩)
theorem zgF (lo hi : Option Int) (n : Nat) : (sliceBounds lo hi none n).1 = ((HT.sIx n 0 lo : Nat) : Int)∧(sliceBounds lo hi none n).2.1 = ((HT.sIx n n hi : Nat) : Int)∧(sliceBounds lo hi none n).2.2 = 1 := by
  refine ⟨?_,?_,rfl⟩
  · cases lo with
    | none => simp [sliceBounds,HT.sIx]
    | some i =>
      simp only [sliceBounds,HT.sIx,Option.getD_none,show (1 : Int) > 0 by decide,if_true]
      by_cases h : i < 0
      · simp only [h,if_true] <;> omega
      · simp only [h,if_false] <;> omega
  · cases hi with
    | none => simp [sliceBounds,HT.sIx]
    | some i =>
      simp only [sliceBounds,HT.sIx,Option.getD_none,show (1 : Int) > 0 by decide,if_true]
      by_cases h : i < 0
      · simp only [h,if_true] <;> omega
      · simp only [h,if_false] <;> omega
theorem zf6 (its : List Value) (lo hi : Option Int) : slicePick its.toArray lo hi none = ((its.drop (HT.sIx its.length 0 lo)).take (HT.sIx its.length its.length hi - HT.sIx its.length 0 lo)).toArray := by
  obtain ⟨h1,h2,h3⟩ := zgF lo hi its.toArray.size
  unfold slicePick
  rw [h1,h2,h3]
  simp only [sliceRange_one,pick_run,List.size_toArray] <;> rfl
noncomputable def rSlL (K : PySem.W.Frag) : V→Option Int→Option Int→Hp→VK→Prop := fun x lo hi H Q => ∃ a xs,x = .ref a∧SqL K H a xs∧∀ p,H p = none→Q (.ref p) (upd H p (.lst (cutV xs lo hi)))
theorem zns : SlR X (rSlL X.K) := by
  intro pins s σ H x v vl vu lo hi sl Q I rx hs pl pu h
  obtain ⟨a,xs,rfl,hx,q⟩ := h
  cases rx
  obtain ⟨its,r,ht,hz⟩ := I.list hx
  have hlen := r.length
  refine ⟨"list",_,slot_list_getitem.lookup,ht.isList.typeIs,?_⟩
  refine wpAny_getItem_list_slice ht.isList hs pl pu .none (by simp) ?_ (by rw [List.size_toArray] <;> omega)
  rw [zf6,← hlen]
  refine ⟨.ref s.heap.objs.size,_,I.laid (t' := s.toks) (o := .lst (cutV xs lo hi)) (fun b ob q => Heap.get?_push_of_some _ q) (Nat.le_refl _) ?_,rfl,q _ (I.hok.fresh (Nat.le_refl _))⟩
  exact ⟨Nat.le_trans (zfr xs lo hi) hz,_,0,(r.drop (HT.sIx xs.length 0 lo)).take (HT.sIx xs.length xs.length hi - HT.sIx xs.length 0 lo),Heap.get?_push_size _ rfl⟩
noncomputable def zdW : V→Bool
  | .non => true
  | .bl _ => true
  | .int _ => true
  | .str _ => true
  | _ => false
noncomputable def eqV : V→V→Bool
  | .non,.non => true
  | .bl a,.bl b => a == b
  | .bl a,.int b => (if a then 1 else 0) == b
  | .int a,.bl b => a == (if b then 1 else 0)
  | .int a,.int b => a == b
  | .str a,.str b => a == b
  | _,_ => false
theorem zqW {A : Around} {s : Shared} {y x : V} {u v : Value} (ry : RelV y u) (rx : RelV x v) (fy : zdW y = true) (fx : zdW x = true) : SeqAt.EqAt A s u v (eqV y x) := by
  cases y with
  | non =>
    cases ry
    cases x with
    | non => cases rx; exact SeqAt.EqAt.same _
    | bl b => cases rx; exact SeqAt.EqAt.none_bool b
    | int b => obtain ⟨t,rfl⟩ := rx; exact SeqAt.EqAt.none_int b t
    | str b => obtain ⟨t,rfl⟩ := rx; exact SeqAt.EqAt.none_str b t
    | _ => exact absurd (show false = true from fx) Bool.false_ne_true
  | bl a =>
    cases ry
    cases x with
    | non => cases rx; exact SeqAt.EqAt.bool_none a
    | bl b => cases rx; exact SeqAt.EqAt.bool_bool a b
    | int b => obtain ⟨t,rfl⟩ := rx; exact SeqAt.EqAt.bool_int a b t
    | str b => obtain ⟨t,rfl⟩ := rx; exact SeqAt.EqAt.bool_str a b t
    | _ => exact absurd (show false = true from fx) Bool.false_ne_true
  | int a =>
    obtain ⟨t',rfl⟩ := ry
    cases x with
    | non => cases rx; exact SeqAt.EqAt.int_none a t'
    | bl b => cases rx; exact SeqAt.EqAt.int_bool a t' b
    | int b => obtain ⟨t,rfl⟩ := rx; exact SeqAt.EqAt.int_int a t' b t
    | str b => obtain ⟨t,rfl⟩ := rx; exact SeqAt.EqAt.int_str a t' b t
    | _ => exact absurd (show false = true from fx) Bool.false_ne_true
  | str a =>
    obtain ⟨t',rfl⟩ := ry
    cases x with
    | non => cases rx; exact SeqAt.EqAt.str_none a t'
    | bl b => cases rx; exact SeqAt.EqAt.str_bool a t' b
    | int b => obtain ⟨t,rfl⟩ := rx; exact SeqAt.EqAt.str_int a t' b t
    | str b => obtain ⟨t,rfl⟩ := rx; exact SeqAt.EqAt.str_str a t' b t
    | _ => exact absurd (show false = true from fx) Bool.false_ne_true
  | _ => exact absurd (show false = true from fy) Bool.false_ne_true
noncomputable def eqU (x : V) (u : Value) : Bool := match u with
  | .none => eqV .non x
  | .bool b => eqV (.bl b) x
  | .int i _ => eqV (.int i) x
  | .str z _ => eqV (.str z) x
  | _ => false
theorem zhc {x y : V} {u : Value} (r : RelV y u) (f : zdW y = true) : eqU x u = eqV y x := by
  cases y with
  | non => cases r; rfl
  | bl b => cases r; rfl
  | int i => obtain ⟨t,rfl⟩ := r; rfl
  | str z => obtain ⟨t,rfl⟩ := r; rfl
  | _ => exact absurd (show false = true from f) Bool.false_ne_true
theorem zft {x : V} : ∀ {xs : List V} {us : List Value},Vals xs us→xs.all zdW = true→us.any (eqU x) = xs.any fun y => eqV y x
  | _,_,.nil,_ => rfl
  | y::xs,u::us,.cons r t,f => by
    rw [List.all_cons,Bool.and_eq_true] at f
    rw [List.any_cons,List.any_cons,zhc r f.1,zft t f.2]
theorem zdt {A : Around} {s : Shared} {x : V} {v : Value} (rx : RelV x v) (fx : zdW x = true) : ∀ {xs : List V} {us : List Value},Vals xs us→xs.all zdW = true→∀ u∈us,SeqAt.EqAt A s u v (eqU x u)
  | _,_,.nil,_ => fun u hu => by cases hu
  | y::xs,u::us,.cons r t,f => fun u' hu => by
    rw [List.all_cons,Bool.and_eq_true] at f
    rcases List.mem_cons.mp hu with rfl | hu
    · rw [zhc r f.1]; exact zqW r rx f.1 fx
    · exact zdt rx fx t f.2 u' hu
noncomputable def inV (x : V) (xs : List V) : Bool := xs.any fun y => eqV y x
noncomputable def rIn (K : PySem.W.Frag) (neg : Bool) : R2 := fun x y H Q => ∃ p xs,y = .ref p∧(SqL K H p xs∨SqT K H p xs)∧zdW x = true∧xs.all zdW = true∧Q (.bl (if neg then ! inV x xs else inV x xs)) H
theorem zjW : OpR X (compareOp .In) (rIn X.K false) := by
  intro pins s σ H x y v u Q I rx ry h
  obtain ⟨p,xs,rfl,hq,fx,fs,q⟩ := h
  cases ry
  rcases hq with hq | hq
  · obtain ⟨its,r,pl,hz⟩ := I.list hq
    refine SeqAt.in_listAt (eqU x) pl.isList (fun w hw => zdt rx fx r fs w (by simpa using hw)) ⟨.bl _,H,I,rfl,?_⟩
    rw [show its.toArray.any (eqU x) = its.any (eqU x) by simp,zft r fs]
    exact q
  · obtain ⟨its,r,pl,hz⟩ := I.tuple hq
    refine SeqAt.in_tupleAt (eqU x) pl (fun w hw => zdt rx fx r fs w (by simpa using hw)) ⟨.bl _,H,I,rfl,?_⟩
    rw [show its.toArray.any (eqU x) = its.any (eqU x) by simp,zft r fs]
    exact q
theorem zgU : OpR X (compareOp .NotIn) (rIn X.K true) := by
  intro pins s σ H x y v u Q I rx ry h
  obtain ⟨p,xs,rfl,hq,fx,fs,q⟩ := h
  cases ry
  rcases hq with hq | hq
  · obtain ⟨its,r,pl,hz⟩ := I.list hq
    refine SeqAt.notIn_listAt (eqU x) pl.isList (fun w hw => zdt rx fx r fs w (by simpa using hw)) ⟨.bl _,H,I,rfl,?_⟩
    rw [show its.toArray.any (eqU x) = its.any (eqU x) by simp,zft r fs]
    exact q
  · obtain ⟨its,r,pl,hz⟩ := I.tuple hq
    refine SeqAt.notIn_tupleAt (eqU x) pl (fun w hw => zdt rx fx r fs w (by simpa using hw)) ⟨.bl _,H,I,rfl,?_⟩
    rw [show its.toArray.any (eqU x) = its.any (eqU x) by simp,zft r fs]
    exact q
theorem zgT : OpR X (compareOp .NotIn) (fun x y H Q => ∃ i j,x = .str i∧y = .str j∧Q (.bl (!(!(Builtin.Str.occurrences j i 0 j.length 1).isEmpty))) H) := by
  intro pins s σ H x y v u Q I rx ry h
  obtain ⟨i,j,rfl,rfl,q⟩ := h
  obtain ⟨t,rfl⟩ := rx
  obtain ⟨t',rfl⟩ := ry
  exact notIn_str ⟨.bl _,H,I,rfl,q⟩
theorem zdh.or {f : Value} {r r' : List V→Hp→VK→Prop} (h : zdh X f r) (h' : zdh X f r') : zdh X f (fun xs H Q => r xs H Q∨r' xs H Q) := by
  intro pins s σ H xs us Q I rs q
  rcases q with q | q
  · exact h pins s σ H xs us Q I rs q
  · exact h' pins s σ H xs us Q I rs q
theorem zhj : zdh X (.type "list") (fun xs H Q => ∃ p ys,xs = [.ref p]∧(SqL X.K H p ys∨SqT X.K H p ys)∧∀ l,H l = none→Q (.ref l) (upd H l (.lst ys))) := by
  intro pins s σ H xs us Q I r h
  obtain ⟨p,ys,rfl,hq,q⟩ := h
  obtain ⟨u,rfl,rx⟩ := zeT r
  cases rx
  have fin : ∀ (its : List Value),Vals ys its→ys.length≤sizeLine→∀ (h' : Heap) (c' : Nat),(∀ b o',s.heap.get? b = some o'→h'.get? b = some o') →
      h'.get? s.heap.objs.size = some { cls := .type "list",dict := none,data := .seq its.toArray c',slots := #[] }→EP X pins σ Q (.ref s.heap.objs.size) { s with heap := h' } := fun its r' hz h' c' kp e =>
    ⟨.ref s.heap.objs.size,_,I.laid (t' := s.toks) kp (Nat.le_refl _) (show zbj X.prog X.w _ h' _ (.lst ys) from ⟨hz,its,c',r',e⟩),rfl,q _ (I.hok.fresh (Nat.le_refl _))⟩
  rcases hq with hq | hq
  · obtain ⟨its,r',pl,hz⟩ := I.list hq
    have hlen := r'.length
    obtain ⟨o,ho,hc,n,hd⟩ := pl.isList
    exact call_list_seq p (.inl rfl) ho hc hd (fun h' c' kp e => fin its r' hz h' c' kp e) (by simp only [List.size_toArray] <;> omega)
  · obtain ⟨its,r',pl,hz⟩ := I.tuple hq
    have hlen := r'.length
    obtain ⟨o,ho,hc,n,hd⟩ := pl
    exact call_list_seq p (.inr rfl) ho hc hd (fun h' c' kp e => fin its r' hz h' c' kp e) (by simp only [List.size_toArray] <;> omega)
theorem zgq : zdh X (.type "tuple") (fun xs H Q => ∃ p ys,xs = [.ref p]∧((SqL X.K H p ys∧∀ l,H l = none→Q (.ref l) (upd H l (.tup ys)))∨(SqT X.K H p ys∧Q (.ref p) H))) := by
  intro pins s σ H xs us Q I r h
  obtain ⟨p,ys,rfl,h⟩ := h
  obtain ⟨u,rfl,rx⟩ := zeT r
  cases rx
  rcases h with ⟨hq,q⟩ | ⟨hq,q⟩
  · obtain ⟨its,r',pl,hz⟩ := I.list hq
    have hlen := r'.length
    refine call_tuple_list pl.isList (fun h' kp => ?_) (by simp only [List.size_toArray] <;> omega)
    have I1 : Inv X pins σ H { s with heap := h' } := I.kept (t' := s.toks) kp
    have I2 : Inv X pins σ (upd H h'.objs.size (.tup ys)) { s with heap := h'.push { cls := .type "tuple",data := .seq its.toArray } } :=
      I1.laid (t' := s.toks) (fun b o e => Heap.get?_push_of_some _ e) (Nat.le_refl _) (show zbj X.prog X.w _ _ _ (.tup ys) from ⟨hz,its,r',IsTup.new _ _,_,Heap.get?_push_size _ rfl,rfl⟩)
    exact ⟨.ref h'.objs.size,_,I2,rfl,q _ (I1.hok.fresh (Nat.le_refl _))⟩
  · obtain ⟨its,r',pl,hz⟩ := I.tuple hq
    exact call_tuple_same pl ⟨.ref p,H,I,rfl,q⟩
noncomputable def tyV (K : PySem.W.Frag) (T : String) (x : V) (H : Hp) : Prop := match x with
  | .str _ => T = "str"
  | .int _ => T = "int"
  | .ref p => (T = "list"∧∃ xs,SqL K H p xs)∨(T = "tuple"∧((∃ o,K.lookup p = some o∧o.cls = .type "tuple"∧o.dict = none)∨∃ xs,Rd H p (.tup xs))) ∨
      (T = "dict"∧((∃ kvs,Rd H p (.dK kvs))∨∃ kvs,H p = some (.dT kvs)))∨(T = "set"∧∃ S n,H p = some (.set S n))
  | _ => False
theorem zmt {pins : List (Addr × Obj)} {σ : St} {H : Hp} {s : Shared} {T : String} {x : V} {v : Value} (I : Inv X pins σ H s) (r : RelV x v) (ty : tyV X.K T x H) :
    s.TypeIs v T∧∀ a,v = .ref a→∃ ob,s.heap.get? a = some ob∧ob.dict = none := by
  cases x with
  | str z =>
    obtain ⟨t,rfl⟩ := r
    cases (show T = "str" from ty)
    exact ⟨typeIs_str s z t,fun _ e => nomatch e⟩
  | int i =>
    obtain ⟨t,rfl⟩ := r
    cases (show T = "int" from ty)
    exact ⟨typeIs_int s i t,fun _ e => nomatch e⟩
  | ref p =>
    cases r
    rcases ty with ⟨rfl,xs,hq⟩ | ⟨rfl,⟨o,hk,hc,hd⟩ | ⟨xs,hq⟩⟩ | ⟨rfl,hk⟩ | ⟨rfl,S,n,hk⟩
    · obtain ⟨its,_,pl,_⟩ := I.list hq
      refine ⟨pl.isList.typeIs,fun a e => ?_⟩
      cases e
      obtain ⟨o,n,e,c,hd,_⟩ := pl
      exact ⟨o,e,hd⟩
    · refine ⟨⟨o,I.kIn p o hk,hc⟩,fun a e => ?_⟩
      cases e
      exact ⟨o,I.kIn _ o hk,hd⟩
    · obtain ⟨_,its,_,⟨o,ho,hc,_⟩,o2,ho2,hd2⟩ := hq.ok I.hok
      refine ⟨⟨o,ho,hc⟩,fun a e => ?_⟩
      cases e
      exact ⟨o2,ho2,hd2⟩
    · have z : ∃ o,s.heap.get? p = some o∧o.ExactDict := by
        rcases hk with ⟨kvs,hk⟩ | ⟨kvs,hk⟩
        · obtain ⟨_,_,_,_,o,_,_,e,ex,_⟩ := (show zbj X.prog X.w H s.heap p (.dK kvs) from hk.ok I.hok)
          exact ⟨o,e,ex⟩
        · obtain ⟨_,_,_,_,o,_,_,e,ex,_⟩ := I.hok p _ hk
          exact ⟨o,e,ex⟩
      obtain ⟨o,e,ex⟩ := z
      refine ⟨⟨o,e,ex.1⟩,fun a e2 => ?_⟩
      cases e2
      exact ⟨o,e,ex.2.1⟩
    · obtain ⟨o,_,_,_,e,ex,_⟩ := I.hok p _ hk
      refine ⟨⟨o,e,ex.1⟩,fun a e2 => ?_⟩
      cases e2
      exact ⟨o,e,ex.2.1⟩
  | _ => exact False.elim ty
noncomputable def tBM0 (K : PySem.W.Frag) (T : String) (r : V→List V→Hp→VK→Prop) (to : TE) : TE := fun σ H Q => to σ H fun x H1 => tyV K T x H1∧r x [] H1 Q
noncomputable def tBM (K : PySem.W.Frag) (T : String) (r : V→List V→Hp→VK→Prop) (to : TE) (t : TA) : TE := fun σ H Q => to σ H fun x H1 => tyV K T x H1∧t σ H1 fun xs H2 => r x xs H2 Q
variable {o e : Expr} {es : List Expr} {to : TE} {t : TA} {name : Str} {apos cpos : Pos} {T id : String} {r : V → List V → Hp → VK → Prop}
theorem zpV (pa : PlainAttrs T) (slot : Slot T name id) (hty : typeOf (.builtin id) = pure (.type "method_descriptor")) (hm : MtR X id r) (ho : PE X o to)
    (hbase : attributeBase o name X.env (eval o X.env) = eval o X.env := by rfl) (hline : (apos.endLine == cpos.line) = true := by rfl) : PE X (.Call (.Attribute o name apos) [] [] cpos) (tBM0 X.K T r to) := by
  intro pins s σ H Q I h
  refine wpAny_Call_method0_late hbase hline (thn (ho pins s σ H _ I h) fun v s1 ⟨x,H1,I1,r1,ty,q1⟩ => ?_)
  obtain ⟨h1,h2⟩ := zmt I1 r1 ty
  exact ⟨T,id,pa,slot,hty,h1,h2,Calls.callWith_builtin rfl (PySem.evalArgs_none (hm pins s1 σ H1 x [] v [] Q I1 r1 .nil q1))⟩
theorem zpW (pa : PlainAttrs T) (slot : Slot T name id) (hty : typeOf (.builtin id) = pure (.type "method_descriptor")) (hm : MtR X id r) (ho : PE X o to) (ha : PA X (e::es) t)
    (hbase : attributeBase o name X.env (eval o X.env) = eval o X.env := by rfl)
    (hfew : ((backTo cpos (starEach (e::es) X.env)).all (fun x => ! x.1) && (backToKw cpos (keywordEach [] X.env)).all (fun x => x.1.isSome)
      && decide ((e::es).length + ([] : List Keyword).length + (if ([] : List Keyword).isEmpty then 0 else 1) < 30)) = true := by rfl)
    (hline : (apos.endLine == cpos.line) = true := by rfl) (hs : starEach (e::es) X.env = (false,eval e X.env)::starEach es X.env := by rfl) (hplain : (backTo cpos (starEach es X.env)).any (·.1) = false := by rfl) :
    PE X (.Call (.Attribute o name apos) (e::es) [] cpos) (tBM X.K T r to t) := by
  intro pins s σ H Q I h
  refine wpAny_Call_method_late hbase hfew hline rfl (thn (ho pins s σ H _ I h) fun v s1 ⟨x,H1,I1,r1,ty,q1⟩ => ?_)
  obtain ⟨h1,h2⟩ := zmt I1 r1 ty
  refine ⟨T,id,pa,slot,hty,h1,h2,?_⟩
  have hA := ha cpos pins s1 σ H1 _ I1 q1
  rw [hs] at hA ⊢
  refine Calls.callWith_builtin (by show (false || (backTo cpos (starEach es X.env)).any (·.1)) = false; rw [hplain] <;> rfl) (Calls.evalArgs_plain ?_)
  exact thn hA fun us s2 ⟨vs,H2,I2,r2,q2⟩ => hm pins s2 σ H2 x vs v us Q I2 r1 r2 q2
end
end L2
namespace L2
open PySem PySem.Spec PyProof.Rows
noncomputable def MtM (X : Cx) (id : String) (r : V→List V→Hp→VK→Prop) : Prop :=
  ∀ (pins : List (Addr × Obj)) (s : Shared) (σ : St) (H : Hp) (x : V) (xs : List V) (v : Value) (us : List Value) (Q : VK),Inv X pins σ H s→RelV x v→Vals xs us→r x xs H Q →
    wpAny (model X.prog X.w) X.A (call (.builtin id) (v::us)) (EP X pins σ Q) X.xe s
theorem Vals.one {x : V} {us : List Value} (h : Vals [x] us) : ∃ u,us = [u]∧RelV x u := by
  cases h with
  | cons r t => cases t; exact ⟨_,rfl,r⟩
theorem Vals.zero : ∀ {us : List Value},Vals [] us→us = []
  | _,.nil => rfl
theorem Vals.eraseIdx : ∀ {xs : List V} {us : List Value} (i : Nat),Vals xs us→Vals (xs.eraseIdx i) (us.eraseIdx i)
  | _,_,_,.nil => .nil
  | _,_,0,.cons _ t => t
  | _,_,i + 1,.cons r t => .cons r (Vals.eraseIdx i t)
theorem Vals.rep {xs : List V} {us : List Value} (h : Vals xs us) : ∀ k : Nat,Vals (List.replicate k xs).flatten (List.replicate k us).flatten
  | 0 => .nil
  | k + 1 => by
    rw [List.replicate_succ,List.replicate_succ,List.flatten_cons,List.flatten_cons]
    exact Vals.append h (Vals.rep h k)
theorem zg5 (its : List Value) : ∀ (k : Nat) (acc : List Value),
    List.foldl (fun x1 x2 => x1++x2) acc.toArray (List.replicate k its.toArray) = (acc++(List.replicate k its).flatten).toArray
  | 0,acc => by simp
  | k + 1,acc => by
    have e : acc.toArray++its.toArray = (acc++its).toArray := by simp
    have e2 : (acc++its)++(List.replicate k its).flatten = acc++(List.replicate (k + 1) its).flatten := by
      rw [List.replicate_succ,List.flatten_cons,List.append_assoc]
    rw [← e2,← zg5 its k (acc++its),← e,List.replicate_succ,List.foldl_cons]
section
variable {X : Cx} {pins : List (Addr × Obj)} {σ : St} {H : Hp} {s : Shared} {l b : Addr} {xs ys zs : List V}
theorem Inv.lset {its its' : List Value} {n : Nat} {f : Array Value→Array Value} {t' : Nat} (I : Inv X pins σ H s) (hH : H l = some (.lst xs))
    (e : s.heap.get? l = some { cls := .type "list",data := .seq its.toArray n }) (hf : f its.toArray = its'.toArray) (hv : Vals ys its') (hz : ys.length≤sizeLine) :
    Inv X pins σ (upd H l (.lst ys)) { s with heap := s.heap.update l (Obj.mapSeq f),toks := t' } := by
  have q := PySem.IsL.update e f
  rw [hf] at q
  refine I.write (x := l) (e := l) (by rw [hH]; exact trivial) (.inl rfl) (fun b' u hb hu => (Heap.get?_update_other s.heap (Obj.mapSeq f) (Ne.symm hb)).trans hu) ⟨_,q⟩ ?_
  exact ⟨hz,its',_,hv,q⟩
theorem Inv.lnew {its : List Value} {t' : Nat} (I : Inv X pins σ H s) (hv : Vals ys its) (hz : ys.length≤sizeLine) :
    Inv X pins σ (upd H s.heap.objs.size (.lst ys)) { s with heap := s.heap.push { cls := .type "list",data := .seq its.toArray },toks := t' } :=
  I.laid (fun _ _ q => Heap.get?_push_of_some _ q) (Nat.le_refl _) ⟨hz,its,0,hv,Heap.get?_push_size _ rfl⟩
theorem Inv.fresh (I : Inv X pins σ H s) : H s.heap.objs.size = none := I.hok.fresh (Nat.le_refl _)
theorem Inv.lstM (I : Inv X pins σ H s) (hH : H l = some (.lst xs)) : xs.length≤sizeLine∧∃ (its : List Value) (n : Nat),Vals xs its∧xs.length = its.length∧s.heap.get? l = some { cls := .type "list",data := .seq its.toArray n } := by
  obtain ⟨z,its,n,r,e⟩ := I.hok l _ hH
  exact ⟨z,its,n,r,r.length,e⟩
theorem zlM {n : Nat} (h : n≤sizeLine) : Builtin.List.listTooLong n = false := by
  unfold Builtin.List.listTooLong
  exact decide_eq_false (by omega)
end
section
variable {X : Cx}
noncomputable def zjM : V→List V→Hp→VK→Prop := fun x vs H Q => ∃ l xs y,x = .ref l∧vs = [y]∧H l = some (.lst xs)∧xs.length < sizeLine∧Q .non (upd H l (.lst (xs++[y])))
theorem zed : MtM X "list.append" zjM := by
  intro pins s σ H x vs v us Q I rx rv h
  obtain ⟨l,xs,y,rfl,rfl,hH,hz,q⟩ := h
  cases rx
  obtain ⟨u,rfl,ru⟩ := rv.one
  obtain ⟨z,its,n,r,hl,e⟩ := I.lstM hH
  refine call_meets F.slot_list_append ⟨_,e,rfl⟩ F.entry_list_append (F.args_list_append_2 _ _) (PySem.list_append l its.toArray n u (by rw [List.size_toArray]; omega)) ⟨e,?_⟩
  refine ⟨.non,_,I.lset (its' := its++[u]) hH e (by simp) (r.append (.cons ru .nil)) ?_,rfl,q⟩
  rw [List.length_append,List.length_singleton]
  omega
noncomputable def zpH : V→List V→Hp→VK→Prop := fun x vs H Q => ∃ l xs,x = .ref l∧vs = []∧H l = some (.lst xs)∧Q .non (upd H l (.lst []))
theorem zlR : MtM X "list.clear" zpH := by
  intro pins s σ H x vs v us Q I rx rv h
  obtain ⟨l,xs,rfl,rfl,hH,q⟩ := h
  cases rx
  have hus := rv.zero
  subst hus
  obtain ⟨z,its,n,r,hl,e⟩ := I.lstM hH
  refine call_meets F.slot_list_clear ⟨_,e,rfl⟩ F.entry_list_clear (F.args_list_clear_1 _) (AutoSeq1.list_clear_list_0 l its.toArray n (by rw [List.size_toArray]; omega)) ⟨e,?_⟩
  exact ⟨.non,_,I.lset (its' := []) (ys := []) hH e rfl .nil (Nat.zero_le _),rfl,q⟩
noncomputable def rRep : R2 := fun x y H Q => ∃ l k xs,x = .ref l∧y = .int k∧H l = some (.lst xs)∧-(2 ^ 63)≤k∧k < 2 ^ 63∧xs.length * k.toNat≤sizeLine ∧
  ∀ p,H p = none→Q (.ref p) (upd H p (.lst (List.replicate k.toNat xs).flatten))
theorem zor {α : Type} (xs : List α) (k : Nat) : (List.replicate k xs).flatten.length = k * xs.length := by
  induction k with
  | zero => simp
  | succ k ih => rw [List.replicate_succ,List.flatten_cons,List.length_append,ih,Nat.succ_mul,Nat.add_comm]
theorem zp1 : OpR X (binaryOp .Mult) rRep := by
  intro pins s σ H x y v u Q I rx ry h
  obtain ⟨l,k,xs,rfl,rfl,hH,h1,h2,hz,q⟩ := h
  cases rx
  obtain ⟨t,rfl⟩ := ry
  obtain ⟨z,its,n,r,hl,e⟩ := I.lstM hH
  have hlen : its.toArray.size * k.toNat≤sizeLine := by rw [List.size_toArray,← hl]; exact hz
  have hcap : ¬ its.toArray.size * k.toNat > (2 ^ 63 - 1) / 8 := by
    have : (sizeLine : Nat)≤(2 ^ 63 - 1) / 8 := by decide
    omega
  have hfit : ¬ (! Builtin.List.listFitsIndex k) = true := by
    rw [fitsIndex_both h1 h2]
    exact Bool.false_ne_true
  have hlong : ¬ Builtin.List.listTooLong (its.toArray.size * k.toNat) = true := by
    rw [zlM hlen]
    exact Bool.false_ne_true
  have hnew : List.foldl (fun x1 x2 => x1++x2) #[] (List.replicate (if its.toArray.isEmpty = true then 0 else k.toNat) its.toArray) = (List.replicate k.toNat its).flatten.toArray := by
    have f0 : ∀ m : Nat,List.foldl (fun x1 x2 => x1++x2) #[] (List.replicate m its.toArray) = (List.replicate m its).flatten.toArray := fun m => by
      have := zg5 its m []
      rw [List.nil_append] at this
      exact this
    rw [f0]
    cases its with
    | nil => simp
    | cons a r' => rw [if_neg (by simp)]
  refine wpAny_binaryOp_repeat_ref (T := "list") (U := "int") (by decide) ⟨_,e,rfl⟩ (fun s' => typeIs_int s' k t) noFill_list_mul F.fills_int_mul F.slot_int_rmul repeat_list F.slot_int_index.lookup
    (call_meets F.slot_int_rmul (typeIs_int s k t) F.entry_int_rmul (F.args_int_rmul_2 _ _) (int___rmul___int_list k t l its.toArray n)
      ⟨e,rfl,⟨_,e,rfl⟩,call_meets F.slot_list_mul ⟨_,e,rfl⟩ F.entry_list_mul (F.args_list_mul_2 _ _) (AutoListH.list___mul___list_int_3 l its.toArray n k t hfit hcap hlong) ⟨e,?_⟩⟩)
  rw [hnew]
  exact ⟨.ref _,_,I.lnew (t' := s.toks) (r.rep k.toNat) (by rw [zor,Nat.mul_comm]; exact hz),rfl,q _ I.fresh⟩
end
section
variable {prog : Program} {w : World} {A : Around} {E : Value → Shared → Prop} {s : Shared}
end
section
variable {X : Cx}
end
end L2
namespace L2
open PySem PySem.Spec PyProof.Rows
section
variable {κ : Type} [DecidableEq κ]
noncomputable def valV (kvs : List (κ × V)) (k : κ) : Option V := (kvs.find? fun kv => decide (kv.1 = k)).map (·.2)
noncomputable def putK (kvs : List (κ × V)) (k : κ) (v : V) : List (κ × V) :=
  if (kvs.any fun kv => decide (kv.1 = k)) = true then kvs.map (fun kv => if kv.1 = k then (kv.1,v) else kv) else kvs++[(k,v)]
noncomputable def zqY (kvs : List (κ × V)) (k : κ) : List (κ × V) := kvs.filter fun kv => decide (kv.1≠k)
theorem zeX {p : κ × V} {r : List (κ × V)} {k : κ} (e : p.1 = k) : valV (p::r) k = some p.2 := by simp [valV,List.find?_cons,e]
theorem zd3 {p : κ × V} {r : List (κ × V)} {k : κ} (e : ¬ p.1 = k) : valV (p::r) k = valV r k := by simp [valV,List.find?_cons,e]
theorem zia (k : κ) : ∀ kvs : List (κ × V),(kvs.any fun kv => decide (kv.1 = k)) = (valV kvs k).isSome
  | [] => rfl
  | p::r => by
    rw [List.any_cons]
    by_cases e : p.1 = k
    · simp only [zeX e,decide_eq_true e,Bool.true_or,Option.isSome_some]
    · rw [zd3 e,decide_eq_false e,Bool.false_or]; exact zia k r
theorem zfl (kvs : List (κ × V)) (k : κ) (v : V) : (putK kvs k v).length≤kvs.length + 1 := by
  unfold putK
  split
  · rw [List.length_map]; omega
  · rw [List.length_append,List.length_cons,List.length_nil]; omega
theorem RelO.isSome_eq {o : Option V} {u : Option Value} (r : RelO o u) : o.isSome = u.isSome := by
  cases o with
  | none => cases u with
    | none => rfl
    | some _ => exact (show False from r).elim
  | some _ => cases u with
    | none => exact (show False from r).elim
    | some _ => rfl
theorem RelO.getD {o : Option V} {u : Option Value} {d : V} {d' : Value} (r : RelO o u) (rd : RelV d d') : RelV (o.getD d) (u.getD d') := by
  cases o with
  | none => cases u with
    | none => exact rd
    | some _ => exact (show False from r).elim
  | some _ => cases u with
    | none => exact (show False from r).elim
    | some _ => exact r
theorem KV.val {kvs : List (κ × V)} {vs : List (κ × Value)} (r : KV kvs vs) (k : κ) : RelO (valV kvs k) (valueAt vs k) := by
  unfold KV at r
  induction r with
  | nil => exact True.intro
  | @cons p q ps qs h t ih =>
    obtain ⟨h1,h2⟩ := h
    by_cases e : p.1 = k
    · have e' : q.1 = k := h1.symm.trans e
      have b : valueAt (q::qs) k = some q.2 := by simp [valueAt,List.find?_cons,e']
      rw [zeX e,b]; exact h2
    · have e' : ¬ q.1 = k := fun z => e (h1.trans z)
      have b : valueAt (q::qs) k = valueAt qs k := by simp [valueAt,List.find?_cons,e']
      rw [zd3 e,b]; exact ih
theorem KV.any {kvs : List (κ × V)} {vs : List (κ × Value)} (r : KV kvs vs) (k : κ) : (kvs.any fun kv => decide (kv.1 = k)) = vs.any fun kv => decide (kv.1 = k) := by
  unfold KV at r
  induction r with
  | nil => rfl
  | cons h t ih => rw [List.any_cons,List.any_cons,ih,h.1]
theorem KV.repl {kvs : List (κ × V)} {vs : List (κ × Value)} (r : KV kvs vs) (k : κ) {y : V} {u : Value} (ry : RelV y u) :
    KV (kvs.map fun kv => if kv.1 = k then (kv.1,y) else kv) (vs.map fun kv => if kv.1 = k then (kv.1,u) else kv) := by
  unfold KV at r ⊢
  induction r with
  | nil => exact .nil
  | @cons p q ps qs h t ih =>
    rw [List.map_cons,List.map_cons]
    refine .cons ?_ ih
    obtain ⟨h1,h2⟩ := h
    by_cases e : p.1 = k
    · rw [if_pos e,if_pos (h1.symm.trans e)]; exact ⟨h1,ry⟩
    · rw [if_neg e,if_neg (fun z => e (h1.trans z))]; exact ⟨h1,h2⟩
theorem KV.put {kvs : List (κ × V)} {vs : List (κ × Value)} (r : KV kvs vs) (k : κ) {y : V} {u : Value} (ry : RelV y u) : KV (putK kvs k y) (stored vs k u) := by
  unfold putK stored
  rw [r.any k]
  by_cases e : (vs.any fun kv => decide (kv.1 = k)) = true
  · rw [if_pos e,if_pos e]; exact r.repl k ry
  · rw [if_neg e,if_neg e]; exact Paired.snoc r ⟨rfl,ry⟩
theorem KV.drop {kvs : List (κ × V)} {vs : List (κ × Value)} (r : KV kvs vs) (k : κ) : KV (zqY kvs k) (without vs k) := by
  unfold KV at r ⊢
  unfold zqY without
  induction r with
  | nil => exact .nil
  | @cons p q ps qs h t ih =>
    obtain ⟨h1,h2⟩ := h
    rw [List.filter_cons,List.filter_cons]
    by_cases e : p.1 = k
    · have a : ¬ decide (p.1≠k) = true := by simp [e]
      have b : ¬ decide (q.1≠k) = true := by simp [h1.symm.trans e]
      rw [if_neg a,if_neg b]; exact ih
    · have e' : ¬ q.1 = k := fun z => e (h1.trans z)
      have a : decide (p.1≠k) = true := by simp [e]
      have b : decide (q.1≠k) = true := by simp [e']
      rw [if_pos a,if_pos b]; exact .cons ⟨h1,h2⟩ ih
theorem KV.length {kvs : List (κ × V)} {vs : List (κ × Value)} (r : KV kvs vs) : kvs.length = vs.length := Paired.length r
end
theorem zkm {P : Program} {w : World} {k : Key} {u : Value} (r : RelV (kV k) u) : (zbg P w).is k u = true := by
  cases k with
  | inl i => obtain ⟨t,e⟩ := (show ∃ t,u = Value.int i t from r); subst e; exact zhO P w i t
  | inr x => obtain ⟨t,e⟩ := (show ∃ t,u = Value.str x t from r); subst e; exact zhN P w x t
theorem zg2 {P : Program} {w : World} : ∀ {ks : List Key} {us : List Value},Vals (ks.map kV) us→ItemsAre (zbg P w) ks us
  | [],_,r => by rw [List.map_nil] at r; cases r; exact .nil
  | k::ks,_,r => by
    rw [List.map_cons] at r
    cases r with
    | cons h t => exact .cons (zkm h) (zg2 t)
noncomputable abbrev KT (H : Hp) : List (List Key × V)→List (List Key × Addr × Value)→Prop := Paired fun p q => p.1 = q.1∧H q.2.1 = some (.tup (p.1.map kV))∧RelV p.2 q.2.2
theorem KT.val {H : Hp} {kvs : List (List Key × V)} {xs : List (List Key × Addr × Value)} (r : KT H kvs xs) (k : List Key) : RelO (valV kvs k) ((atKey xs k).map (·.2)) := by
  induction r with
  | nil => exact True.intro
  | @cons p q ps qs h t ih =>
    obtain ⟨h1,_,h2⟩ := h
    by_cases e : p.1 = k
    · have e' : q.1 = k := h1.symm.trans e
      have b : atKey (q::qs) k = some q.2 := by simp [atKey,List.find?_cons,e']
      rw [zeX e,b]; exact h2
    · have e' : ¬ q.1 = k := fun z => e (h1.trans z)
      have b : atKey (q::qs) k = atKey qs k := by simp [atKey,List.find?_cons,e']
      rw [zd3 e,b]; exact ih
theorem KT.repl {H : Hp} {kvs : List (List Key × V)} {xs : List (List Key × Addr × Value)} (r : KT H kvs xs) (k : List Key) {y : V} {u : Value} (ry : RelV y u) :
    KT H (kvs.map fun kv => if kv.1 = k then (kv.1,y) else kv) (xs.map (putAt k u)) := by
  induction r with
  | nil => exact .nil
  | @cons p q ps qs h t ih =>
    rw [List.map_cons,List.map_cons]
    refine .cons ?_ ih
    obtain ⟨h1,h2,h3⟩ := h
    unfold putAt
    by_cases e : p.1 = k
    · rw [if_pos e,if_pos (h1.symm.trans e)]; exact ⟨h1,h2,ry⟩
    · rw [if_neg e,if_neg (fun z => e (h1.trans z))]; exact ⟨h1,h2,h3⟩
theorem KT.put {H : Hp} {kvs : List (List Key × V)} {xs : List (List Key × Addr × Value)} (r : KT H kvs xs) (k : List Key) {b : Addr} {y : V} {u : Value} (hb : H b = some (.tup (k.map kV))) (ry : RelV y u) :
    KT H (putK kvs k y) (storedH xs k b u) := by
  have e : (kvs.any fun kv => decide (kv.1 = k)) = (atKey xs k).isSome := by
    rw [zia,(r.val k).isSome_eq,Option.isSome_map]
  unfold putK storedH
  rw [e]
  by_cases q : (atKey xs k).isSome = true
  · rw [if_pos q,if_pos q]; exact r.repl k ry
  · rw [if_neg q,if_neg q]; exact Paired.snoc r ⟨rfl,hb,ry⟩
theorem KT.keeps {H H' : Hp} {kvs : List (List Key × V)} {xs : List (List Key × Addr × Value)} (r : KT H kvs xs) (ht : ∀ b ys,H b = some (.tup ys)→H' b = some (.tup ys)) : KT H' kvs xs :=
  Paired.mapP r fun _ _ z => ⟨z.1,ht _ _ z.2.1,z.2.2⟩
section
variable {P : Program} {w : World} {H : Hp} {h : Heap} {a : Addr}
theorem zpD {u : HO} (ok : HOk P w H h) (e : Rd H a u) : zbj P w H h a u := e.ok ok
theorem zi5 {kvs : List (Key × V)} (ok : HOk P w H h) (e : Rd H a (.dK kvs)) : kvs.length≤sizeLine∧(a == sysModules) = false∧∃ vs,KV kvs vs∧h.DictOf (zbg P w) a vs :=
  show zbj P w H h a (.dK kvs) from zpD ok e
theorem zr1 {kvs : List (Key × V)} (ok : HOk P w H h) (e : H a = some (.dK kvs)) : kvs.length≤sizeLine∧(a == sysModules) = false∧∃ vs,KV kvs vs∧h.DictOf (zbg P w) a vs := zi5 ok (.inl e)
theorem zg1 {ks : List Key} (ok : HOk P w H h) (e : H a = some (.tup (ks.map kV))) : (tupleKind (zbg P w)).is h ks a := by
  obtain ⟨_,its,r,⟨o,h1,h2,n,h3⟩,_⟩ := (show zbj P w H h a (.tup (ks.map kV)) from ok a _ e)
  exact ⟨o,its.toArray,n,h1,h2,h3,by simpa using zg2 r⟩
theorem zkH {kvs : List (List Key × V)} (ok : HOk P w H h) (e : Rd H a (.dT kvs)) : kvs.length≤sizeLine∧(a == sysModules) = false ∧
    ∃ xs,KT H kvs xs∧h.DictOfH (tupleKind (zbg P w)) a xs := by
  obtain ⟨z,y,xs,r,o,es,ep,h1,h2,h3,h4,h5⟩ := (show zbj P w H h a (.dT kvs) from zpD ok e)
  refine ⟨z,y,xs,r,o,es,ep,h1,h2,h3,h4,fun x hx => ?_,h5⟩
  have all : ∀ {l : List (List Key × V)} {m : List (List Key × Addr × Value)},KT H l m→∀ x∈m,(tupleKind (zbg P w)).is h x.1 x.2.1 := by
    intro l m q
    induction q with
    | nil => intro x hx; exact nomatch hx
    | @cons p q ps qs hq t ih =>
      intro x hx
      rcases List.mem_cons.mp hx with e | hx
      · subst e
        exact zg1 ok (by rw [← hq.1]; exact hq.2.1)
      · exact ih x hx
  exact all r x hx
theorem zr0 {kvs : List (List Key × V)} (ok : HOk P w H h) (e : H a = some (.dT kvs)) : kvs.length≤sizeLine∧(a == sysModules) = false ∧
    ∃ xs,KT H kvs xs∧h.DictOfH (tupleKind (zbg P w)) a xs := zkH ok (.inl e)
end
noncomputable def DGet (H : Hp) (a : Addr) (y : V) (r : Option V) : Prop :=
  (∃ kvs k,Rd H a (.dK kvs)∧y = kV k∧r = valV kvs k)∨∃ kvs k b,Rd H a (.dT kvs)∧y = .ref b∧H b = some (.tup (k.map kV))∧r = valV kvs k
noncomputable def DPut (H : Hp) (a : Addr) (y v : V) (H' : Hp) : Prop :=
  (∃ kvs k,H a = some (.dK kvs)∧y = kV k∧kvs.length < sizeLine∧H' = upd H a (.dK (putK kvs k v))) ∨
  ∃ kvs k b,H a = some (.dT kvs)∧y = .ref b∧H b = some (.tup (k.map kV))∧kvs.length < sizeLine∧H' = upd H a (.dT (putK kvs k v))
theorem DGet.k {H : Hp} {a : Addr} {kvs : List (Key × V)} {k : Key} (e : H a = some (.dK kvs)) : DGet H a (kV k) (valV kvs k) := .inl ⟨kvs,k,.inl e,rfl,rfl⟩
theorem DGet.t {H : Hp} {a b : Addr} {kvs : List (List Key × V)} {k : List Key} (e : H a = some (.dT kvs)) (eb : H b = some (.tup (k.map kV))) : DGet H a (.ref b) (valV kvs k) := .inr ⟨kvs,k,b,.inl e,rfl,eb,rfl⟩
theorem DPut.k {H : Hp} {a : Addr} {kvs : List (Key × V)} {k : Key} {v : V} (e : H a = some (.dK kvs)) (hl : kvs.length < sizeLine) : DPut H a (kV k) v (upd H a (.dK (putK kvs k v))) := .inl ⟨kvs,k,e,rfl,hl,rfl⟩
theorem DPut.t {H : Hp} {a b : Addr} {kvs : List (List Key × V)} {k : List Key} {v : V} (e : H a = some (.dT kvs)) (eb : H b = some (.tup (k.map kV))) (hl : kvs.length < sizeLine) :
    DPut H a (.ref b) v (upd H a (.dT (putK kvs k v))) := .inr ⟨kvs,k,b,e,rfl,eb,hl,rfl⟩
section
variable {X : Cx} {pins : List (Addr × Obj)} {σ : St} {H : Hp} {s : Shared} {a : Addr} {y v : V} {u r : Value} {o : Option V} {A : Around} {E : Value → Shared → Prop}
theorem Inv.big (I : Inv X pins σ H s) : sysModules < s.heap.objs.size := by
  have h : mainGlobals < s.heap.objs.size := (I.mod.glob.keeps I.bk).lt
  exact Nat.lt_trans (by decide) h
theorem zkM {Q : Value→Shared→Prop} (hu : A.units + 1 < cLine) (I : Inv X pins σ H s) (g : DGet H a y (some v)) (ry : RelV y u) (h : ∀ w' s',Inv X pins σ H s'→RelV v w'→Q w' s') :
    wpAny (model X.prog X.w) A (getItem (.ref a) u) Q E s := by
  rcases g with ⟨kvs,k,e,ey,l⟩ | ⟨kvs,k,b,e,ey,eb,l⟩
  · subst ey
    obtain ⟨z,hd,vs,rel,dd⟩ := zi5 I.hok e
    obtain ⟨w',hw,rw'⟩ := RelO.some_of (v := v) (o := valueAt vs k) (by rw [l]; exact rel.val k)
    exact wpAny_getItem_of (zkm ry) dd.mapOf hw (h w' _ (I.tok _) rw')
  · subst ey
    cases (show u = Value.ref b from ry)
    obtain ⟨z,hd,xs,rel,dd⟩ := zkH I.hok e
    obtain ⟨w',hw,rw'⟩ := RelO.some_of (v := v) (o := (atKey xs k).map (·.2)) (by rw [l]; exact rel.val k)
    obtain ⟨p,hp,hp2⟩ := Option.map_eq_some_iff.mp hw
    refine wpAny_getItem_heap (tupleKind_room_in1 hu) (zg1 I.hok eb) dd hp ?_
    rw [hp2]
    exact h w' _ (I.tok _) rw'
theorem d_in {Q : Value→Shared→Prop} (hu : A.units + 1 < cLine) (I : Inv X pins σ H s) (g : DGet H a y o) (ry : RelV y u) (h : ∀ s',Inv X pins σ H s'→Q (.bool o.isSome) s') :
    wpAny (model X.prog X.w) A (compareOp .In u (.ref a)) Q E s := by
  rcases g with ⟨kvs,k,e,ey,l⟩ | ⟨kvs,k,b,e,ey,eb,l⟩
  · subst ey
    obtain ⟨z,hd,vs,rel,dd⟩ := zi5 I.hok e
    refine wpAny_in_of (zkm ry) hd dd.mapOf ?_
    rw [← (rel.val k).isSome_eq,← l]
    exact h _ (I.tok _)
  · subst ey
    cases (show u = Value.ref b from ry)
    obtain ⟨z,hd,xs,rel,dd⟩ := zkH I.hok e
    refine wpAny_in_heap (tupleKind_room_in1 hu) (zg1 I.hok eb) hd dd ?_
    have q := (rel.val k).isSome_eq
    rw [Option.isSome_map] at q
    rw [← q,← l]
    exact h _ (I.tok _)
theorem zoI {Q : Value→Shared→Prop} (hu : A.units + 1 < cLine) (I : Inv X pins σ H s) (g : DGet H a y o) (ry : RelV y u) (h : ∀ s',Inv X pins σ H s'→Q (.bool (! o.isSome)) s') :
    wpAny (model X.prog X.w) A (compareOp .NotIn u (.ref a)) Q E s := by
  rcases g with ⟨kvs,k,e,ey,l⟩ | ⟨kvs,k,b,e,ey,eb,l⟩
  · subst ey
    obtain ⟨z,hd,vs,rel,dd⟩ := zi5 I.hok e
    refine wpAny_notIn_of (zkm ry) hd dd.mapOf ?_
    rw [← (rel.val k).isSome_eq,← l]
    exact h _ (I.tok _)
  · subst ey
    cases (show u = Value.ref b from ry)
    obtain ⟨z,hd,xs,rel,dd⟩ := zkH I.hok e
    refine wpAny_notIn_heap (tupleKind_room_in1 hu) (zg1 I.hok eb) hd dd ?_
    have q := (rel.val k).isSome_eq
    rw [Option.isSome_map] at q
    rw [← q,← l]
    exact h _ (I.tok _)
theorem zkK {h' : Heap} {t' : Nat} {ob : HO} (I : Inv X pins σ H s) (mu : Mut (H a)) (hs : Heap.SameBut a s.heap h') (he : ∃ q,h'.get? a = some q) (new : zbj X.prog X.w (upd H a ob) h' a ob) :
    Inv X pins σ (upd H a ob) { s with heap := h',toks := t' } :=
  I.write (x := a) (e := a) mu (.inl rfl) (fun b q hb z => (hs.2 b hb).trans z) he new
theorem zqZ {P : Program} {w : World} {H' : Hp} {h' : Heap} {kvs : List (Key × V)} {vs : List (Key × Value)} (z : kvs.length≤sizeLine) (hd : (a == sysModules) = false) (rel : KV kvs vs) (dd : h'.DictOf (zbg P w) a vs) :
    zbj P w H' h' a (.dK kvs) := ⟨z,hd,vs,rel,dd⟩
theorem zkL {H' : Hp} {Q : Unit→Shared→Prop} (hu : A.units + 1 < cLine) (I : Inv X pins σ H s) (g : DPut H a y v H') (ry : RelV y u) (rv : RelV v r) (h : ∀ s',Inv X pins σ H' s'→Q () s') :
    wpAny (model X.prog X.w) A (setItem (.ref a) u r) Q E s := by
  rcases g with ⟨kvs,k,e,ey,l,eH⟩ | ⟨kvs,k,b,e,ey,eb,l,eH⟩
  · subst ey eH
    obtain ⟨z,hd,vs,rel,dd⟩ := zr1 I.hok e
    have hz : vs.length≤sizeLine := by rw [← rel.length]; exact z
    have hl : (putK kvs k v).length≤sizeLine := by have := zfl kvs k v; omega
    refine wpAny_setItem_pairs (hsz := hz) (zkm ry) dd fun h' dd' hs => h _ ?_
    have he : ∃ q,h'.get? a = some q := let ⟨q,_,_,hq,_⟩ := dd'; ⟨q,hq⟩
    exact zkK I (by rw [e]; exact True.intro) hs he (zqZ hl hd (rel.put k rv) dd')
  · subst ey eH
    cases (show u = Value.ref b from ry)
    obtain ⟨z,hd,xs,rel,dd⟩ := zr0 I.hok e
    have hz : xs.length≤sizeLine := by rw [← Paired.length rel]; exact z
    have hl : (putK kvs k v).length≤sizeLine := by have := zfl kvs k v; omega
    refine wpAny_setItem_heap (hsz := hz) (tupleKind_room_in1 hu) (zg1 I.hok eb) dd fun h' dd' hs => h _ ?_
    obtain ⟨q,es,ep,hq,h2,h3,h4,_,h5⟩ := dd'
    refine zkK I (by rw [e]; exact True.intro) hs ⟨q,hq⟩ ⟨hl,hd,_,(rel.put k eb rv).keeps fun c ys ec => ?_,q,es,ep,hq,h2,h3,h4,h5⟩
    rw [zan (zrL ec e (fun z => nomatch z))]
    exact ec
end
section
variable {X : Cx} {pins : List (Addr × Obj)} {σ : St} {H : Hp} {s : Shared} {a : Addr} {kvs : List (Key × V)} {k : Key} {u : Value} {A : Around} {E : Value → Shared → Prop}
theorem zr2 {Q : Value→Shared→Prop} (I : Inv X pins σ H s) (e : Rd H a (.dK kvs)) (h : ∀ t s',Inv X pins σ H s'→Q (.int kvs.length t) s') : wpAny (model X.prog X.w) A (call (.builtin "len") [.ref a]) Q E s := by
  obtain ⟨z,hd,vs,rel,dd⟩ := zi5 I.hok e
  refine call_len_dict hd dd (by rw [← rel.length]; rw [sizeLine_eq] at z; omega) ?_
  rw [← rel.length]
  exact h _ _ (I.tok _)
end
theorem zhW {X : Cx} {pins : List (Addr × Obj)} {σ : St} {H : Hp} {s : Shared} {a : Addr} {y : V} {o : Option V} (I : Inv X pins σ H s) (g : DGet H a y o) : s.TypeIs (.ref a) "dict" := by
  rcases g with ⟨kvs,k,e,_,_⟩ | ⟨kvs,k,b,e,_,_,_⟩
  · obtain ⟨_,_,vs,_,dd⟩ := zi5 I.hok e
    exact dd.typeIs
  · obtain ⟨_,_,xs,_,dd⟩ := zkH I.hok e
    exact dd.typeIs
section
variable {X : Cx} {o i e value : Expr} {pos pos' tpos : Pos} {td ty tv : TE}
end
theorem zmd {P : Program} {w : World} {H : Hp} (h : Heap) (hb : sysModules < h.objs.size) : zbj P w H (h.push { cls := .type "dict",data := .dict #[] }) h.objs.size (.dK []) :=
  ⟨Nat.zero_le _,beq_eq_false_iff_ne.mpr (Ne.symm (Nat.ne_of_lt hb)),[],.nil,Heap.DictOf.new h⟩
noncomputable def zo5 : TE := fun _ H Q => ∀ p,H p = none→Q (.ref p) (upd H p (.dK []))
section
variable {X : Cx} {pos : Pos}
theorem zlG : PE X (.Dict [] [] pos) zo5 := fun pins s σ H Q I h =>
  wpAny_Dict_empty ⟨.ref s.heap.objs.size,_,I.laid (a := s.heap.objs.size) (o := .dK []) (t' := s.toks) (fun _ _ q => Heap.get?_push_of_some _ q) (Nat.le_refl _) (zmd s.heap I.big),rfl,h _ (I.hok.fresh (Nat.le_refl _))⟩
end
structure M1 (X : Cx) (o : Expr) (m : Str) (apos : Pos) (e : Expr) (cpos : Pos) : Prop where
  base : attributeBase o m X.env (eval o X.env) = eval o X.env
  few : ((backTo cpos (starEach [e] X.env)).all (fun x => ! x.1) && (backToKw cpos (keywordEach [] X.env)).all (fun x => x.1.isSome)
    && decide (([e] : List Expr).length + ([] : List Keyword).length + (if ([] : List Keyword).isEmpty then 0 else 1) < 30)) = true
  line : (apos.endLine == cpos.line) = true
  trees : backTo cpos (starEach [e] X.env) = [(false,eval e X.env)]
structure M2 (X : Cx) (o : Expr) (m : Str) (apos : Pos) (e f : Expr) (cpos : Pos) : Prop where
  base : attributeBase o m X.env (eval o X.env) = eval o X.env
  few : ((backTo cpos (starEach [e,f] X.env)).all (fun x => ! x.1) && (backToKw cpos (keywordEach [] X.env)).all (fun x => x.1.isSome)
    && decide (([e,f] : List Expr).length + ([] : List Keyword).length + (if ([] : List Keyword).isEmpty then 0 else 1) < 30)) = true
  line : (apos.endLine == cpos.line) = true
  trees : backTo cpos (starEach [e,f] X.env) = [(false,eval e X.env),(false,eval f X.env)]
section
variable {X : Cx} {pins : List (Addr × Obj)} {σ : St} {H : Hp} {s : Shared} {a : Addr} {y d : V} {u r : Value} {o : Option V} {A : Around} {E : Value → Shared → Prop}
end
section
variable {X : Cx} {o e f : Expr} {apos cpos : Pos} {td ty tx : TE}
end
section
variable {X : Cx} {pins : List (Addr × Obj)} {σ : St} {H : Hp} {s : Shared} {a : Addr} {kvs : List (Key × V)} {A : Around} {E : Value → Shared → Prop}
end
section
variable {X : Cx} {pins : List (Addr × Obj)} {σ : St} {H : Hp} {s : Shared} {a : Addr} {y : V} {u : Value} {A : Around} {E : Value → Shared → Prop}
end
end L2
namespace Att
open PySem PySem.W PySem.Calls PyProof.Rows
theorem zfn {P : Params} {h : Heap} : ∀ (ns : List Int) (vs : List Value),WellAll P h vs (ns.map WData.int)→IntsAre vs ns := by
  intro ns
  induction ns with
  | nil =>
    intro vs w
    rw [List.map_nil] at w
    cases w
    exact .nil
  | cons n ns ih =>
    intro vs w
    rw [List.map_cons] at w
    cases w with
    | cons a b =>
      cases a
      exact .cons _ _ (ih _ b)
theorem zjw {l : OpenLaw} {n : Nat} (hn : l.most = some n) {P : Params} {h : Heap} {args : List WData} {vals : List Value}
    (hpre : l.row.toRowW.claim.pre args = true) (hwl : WellAll P h vals args) :
    ∃ a vs ns,vals = [Value.ref a]∧args = [WData.list (ns.map WData.int)]∧h.get? a = some { cls := .type "list",data := .seq vs.toArray }∧IntsAre vs ns∧ns.length≤n := by
  have hsh : WShape.hasAll [] args [.list .int] = true := (pre_splitW hpre).1
  have hc : l.pre.holds [] { args := args } = true := (pre_splitW hpre).2
  obtain ⟨d,r,rfl,h1,h2⟩ := hasAllW_cons hsh
  obtain rfl := hasAllW_nil h2
  obtain ⟨xs,rfl,h3⟩ := hasW_list h1
  obtain ⟨ns,rfl⟩ := items_int h3
  have hlen : ns.length≤n := by
    unfold OpenLaw.pre at hc
    have h4 : (WTm.not (.lt (.lit (.int (n : Int))) (.len (.arg 0)))).holds [] { args := [.list (ns.map .int)] } = true := by
      have h4 := (holds_andW hc).1
      rw [hn] at h4
      exact h4
    have h5 := condW_of h4 (w_not (w_lt w_lit (w_len_list (w_arg rfl))))
    rw [List.length_map] at h5
    refine Nat.le_of_not_lt fun q => ?_
    have q' : (n : Int) < ((ns.length : Nat) : Int) := by omega
    first
      | (rw [decide_eq_true q'] at h5; exact absurd h5 (by decide))
      | (simp at h5; omega)
  cases hwl with
  | cons w1 w2 =>
    cases w2
    cases w1 with
    | list ho hall => exact ⟨_,_,ns,rfl,rfl,ho,zfn ns _ hall,hlen⟩
theorem zjO (l : OpenLaw) (args : List WData) : l.row.toRowW.claim.post args (.bool true) args = true :=
  postW_of (r := l.row.toRowW) (X := (true == true))
    (show WShape.has [] (.bool true) .bool = true by first | rfl | decide | simp [WShape.has,WShape.arms,WShape.armsAll])
    (show (WTm.eq .res (.lit (.bool true))).value [] { args := args,res := some (.bool true),after := args } = some (.bool (true == true)) from w_eq_bool (w_res rfl) w_lit) rfl
theorem attach_call {l : OpenLaw} {n : Nat} {q : Program} {loose : List Str} {XP : (Str→Option Value)→Heap→Prop} {YP : World→Heap→Prop} {d : DefRec}
    (hn : l.most = some n) (hdf : d.params.defaults = [])
    (call : ∀ (w : World) (s₀ s₁ : Shared) (mg mb : Str→Option Value) (fa : Addr) (o : Obj) (pm cd doc : Value) (a : Addr) (vs : List Value) (ns : List Int),
      Ground q loose [] XP w s₀ mg mb s₁.heap→YP w s₁.heap →
      s₁.heap.get? fa = some o→o.data = .func (docDef d.name d.params d.body d.scope pm cd doc)→s₁.heap.CodeRec cd d.name→mg d.name = some (.ref fa) →
      s₁.heap.get? a = some { cls := .type "list",data := .seq vs.toArray }→IntsAre vs ns→ns.length≤n→s₁.gens = #[] →
      codeAny (model l.prog w) callerA (.call (.ref fa) ⟨[.ref a],[]⟩) (fun r s' => r = .ok (.ret (.bool true))∧OldK s₁.heap s'.heap∧s'.os = s₁.os∧AllBare s'.gens) s₁) :
    WalkO q loose XP YP l.row.toRowW d [] (fun f vs => PySem.call f vs) := by
  intro w s₀ s₁ mg mb G Y fa o pm cd doc dV kV ho hd hcd hD hmg hg args vals as hpre hlay hrd hwl hlo
  obtain rfl : dV = .none := Dflts.none hD hdf
  obtain rfl : kV = .none := Dflts.noKw hD
  obtain ⟨a,vs,ns,rfl,rfl,hobj,hints,hlen⟩ := zjw hn hpre hwl
  refine enter_call (codeAny_mono (call w s₀ s₁ mg mb fa o pm cd doc a vs ns G Y ho (fd_plain hd) hcd hmg hobj hints hlen hg) fun r s' hq => ?_)
  obtain ⟨rfl,h2,h3,h4⟩ := hq
  exact ⟨.inl ⟨.bool true,.bool true,[],rfl,fun _ => rfl,.bool true,zjO l _,fun _ => ⟨List.Pairwise.nil,fun _ hm => (nomatch hm)⟩⟩,h2,h3,h4⟩
section
variable {prog : Program} {w : World} {A : Around} {E : Value → Shared → Prop} {s : Shared} {K : Frag}
end
end Att
namespace L2
open PySem PySem.Spec PyProof.Rows
theorem ze6 : ∀ {vs : List Value} {ns : List Int},IntsAre vs ns→Vals (ns.map V.int) vs
  | _,_,.nil => .nil
  | _,_,.cons n t h => .cons ⟨t,rfl⟩ (ze6 h)
noncomputable def Only (H : Hp) : Prop := ∀ b,H b = none∨∃ o xs,H b = some (.frz o (.lst xs))
theorem zlZ {P : Program} {w : World} {K : PySem.W.Frag} {mg mb : Str→Option Value} {CX : CXT} {k : Nat} {fa a : Addr} {fd : FuncData} {x : Str} {sp : Sp} {s₁ : Shared} {vs : List Value} {ns : List Int}
    (KX : K.In s₁.heap) (hns : s₁.heap.Ns mainGlobals mg) (hb : s₁.heap.Ns builtinsNs mb) (hbb : ∀ x : Str,x≠"__name__"→mb x = bootBuiltins x) (hlim : s₁.heap.NoLimit) (hg : s₁.gens = #[])
    (ha : s₁.heap.get? a = some { cls := .type "list",data := .seq vs.toArray }) (hi : IntsAre vs ns) (hl : ns.length≤sizeLine) (hr : Room k callerA)
    (F : ∀ base : Heap,K.In base→base.Ns mainGlobals mg→FnOk P w K mg base CX k fa fd [x] sp) (hbind : ∀ (s : Shared) (u : Value),BindsTo s fd ⟨[u],[]⟩ [(x,u)])
    (hsp : ∀ H : Hp,Only H→SqL K H a (ns.map V.int)→sp [.ref a] H (fun v _ => v = .bl true) fun _ _ _ => False)
    (hCX : ∀ H e s',CX [] H s₁ (fun _ _ _ => False) e s'→False) :
    codeAny (model P w) callerA (.call (.ref fa) ⟨[.ref a],[]⟩) (fun r s' => r = .ok (.ret (.bool true))∧OldK s₁.heap s'.heap∧s'.os = s₁.os∧AllBare s'.gens) s₁ := by
  have rv := ze6 hi
  have lenV := hi.length
  have core : ∀ H : Hp,Only H→SqL K H a (ns.map V.int)→HOk P w H s₁.heap→(∀ b,H b≠none→b = a)→(H a≠none→K.lookup a = none) →
      codeAny (model P w) callerA (.call (.ref fa) ⟨[.ref a],[]⟩) (fun r s' => r = .ok (.ret (.bool true))∧OldK s₁.heap s'.heap∧s'.os = s₁.os∧AllBare s'.gens) s₁ := by
    intro H hO hS hok hA hK
    have base_of : ∀ {b : Addr} {o : Obj},s₁.heap.get? b = some o→H b = none→(hidT s₁.heap H).get? b = some o := fun e n => zl2 e n
    have noA : ∀ {b : Addr} {o : Obj} {es : Array DictEntry} {ep : Nat},s₁.heap.get? b = some o→o.data = .dict es ep→H b = none := fun {b o es ep} e d => by
      cases q : H b with
      | none => rfl
      | some u =>
        have e' : b = a := hA b (by rw [q]; simp)
        subst e'
        rw [ha] at e; cases e
        have d' : Data.seq vs.toArray _ = Data.dict es ep := d
        cases d'
    have nsK : ∀ {b : Addr} {m : Str→Option Value},s₁.heap.Ns b m→(hidT s₁.heap H).Ns b m := fun {b m} ⟨o,es,ep,e,d,r⟩ => ⟨o,es,ep,base_of e (noA e d),d,r⟩
    have hKb : K.In (hidT s₁.heap H) := fun b o e => base_of (KX b o e) (by
      cases q : H b with
      | none => rfl
      | some u =>
        have e' : b = a := hA b (by rw [q]; simp)
        subst e'
        rw [hK (by rw [q]; simp)] at e; cases e)
    have hM : Mod K mg (hidT s₁.heap H) := ⟨hKb,nsK hns,⟨mb,nsK hb,hbb⟩,let ⟨mc,h1,h2⟩ := hlim; ⟨mc,nsK h1,h2⟩⟩
    have e0 : Env0 P w K mg (hidT s₁.heap H) callerA [] s₁ H := ⟨rfl,hM,fun b o e => zoe e,Nat.le_of_eq (zkw _ _),trivial,fun b hb => absurd (show b∈([] : List Addr) from hb) (by simp),hok,.of_eq hg⟩
    refine codeAny_mono ((F _ hKb (nsK hns)).run callerA [] s₁ H ⟨[.ref a],[]⟩ [.ref a] [.ref a] _ _ hr e0 (hbind s₁ (.ref a)) (.cons rfl .nil) (hsp H hO hS)) fun r s' h => ?_
    cases r with
    | error e => exact (hCX H e s' h).elim
    | ok fl =>
      cases fl with
      | next => exact False.elim h
      | brk => exact False.elim h
      | cont => exact False.elim h
      | ret u =>
        obtain ⟨v,H',os,bare,un,hok',r',q⟩ := h
        have q' : v = .bl true := q
        subst q'
        obtain rfl : u = Value.bool true := r'
        refine ⟨rfl,OldK.of_keep fun b o e => ?_,os,bare⟩
        cases q : H b with
        | none => exact un.keep b o e q (by intro z; exact absurd (show b∈([] : List Addr) from z) (by simp)) (by simp)
        | some u =>
          rcases hO b with z | ⟨ob,xs,z⟩
          · rw [q] at z; cases z
          · have z2 := un.frzs b ob _ z
            obtain ⟨e1,_⟩ := hok b _ z
            obtain ⟨e2,_⟩ := hok' b _ z2
            rw [e] at e1; cases e1
            exact e2
  cases hk : K.lookup a with
  | some o =>
    have e := KX a o hk
    rw [ha] at e
    cases e
    refine core (fun _ => none) (fun _ => .inl rfl) (.inr ⟨_,vs.toArray,_,hk,rfl,rfl,rfl,by rw [List.size_toArray,lenV]; exact hl,by simpa using rv⟩) (fun b u z => by have z' : (none : Option HO) = some u := z; cases z') (fun b z => absurd rfl z) fun z => absurd rfl z
  | none =>
    refine core (fun b => if b = a then some (.frz { cls := .type "list",data := .seq vs.toArray } (.lst (ns.map V.int))) else none) (fun b => ?_) (.inl (.inr ⟨{ cls := .type "list",data := .seq vs.toArray },if_pos rfl⟩)) (fun b u z => ?_) (fun b z => ?_) fun _ => hk
    · by_cases hb : b = a
      · exact .inr ⟨_,_,if_pos hb⟩
      · exact .inl (if_neg hb)
    · by_cases hb : b = a
      · have z' := (if_pos hb).symm.trans z
        cases z'
        subst hb
        exact ⟨ha,by rw [List.length_map]; exact hl,vs,_,rv,ha⟩
      · have z' := (if_neg hb).symm.trans z
        cases z'
    · by_cases hb : b = a
      · exact hb
      · exact absurd (if_neg hb) z
end L2
namespace L2
open PySem PySem.Spec PyProof.Rows
noncomputable abbrev KOf {K : PySem.W.Frag} {h : Heap} (_ : K.In h) : PySem.W.Frag := K
theorem walk_of {l : PySem.W.OpenLaw} {n k : Nat} {q : Program} {loose : List Str} {XP : (Str→Option Value)→Heap→Prop} {YP : World→Heap→Prop} {d : DefRec} {K : Params→PySem.W.Frag} {CX : World→CXT} {sp : World→Sp} {x : Str}
    (hn : l.most = some n) (hn2 : n≤sizeLine) (hdf : d.params.defaults = []) (hr : Room k callerA)
    (hY : ∀ (w : World) (h : Heap),YP w h→(K w.params).In h)
    (F : ∀ (w : World) (mg : Str→Option Value) (fa : Addr) (h : Heap),(K w.params).In h→h.Ns mainGlobals mg→mg d.name = some (.ref fa) →
      ∃ fd : FuncData,(∀ (s : Shared) (u : Value),BindsTo s fd ⟨[u],[]⟩ [(x,u)]) ∧
        ∀ base : Heap,(K w.params).In base→base.Ns mainGlobals mg→FnOk l.prog w (K w.params) mg base (CX w) k fa fd [x] (sp w))
    (hsp : ∀ (w : World) (H : Hp) (a : Addr) (ns : List Int),ns.length≤n→Only H→SqL (K w.params) H a (ns.map V.int)→sp w [.ref a] H (fun v _ => v = .bl true) fun _ _ _ => False)
    (hCX : ∀ (w : World) (H : Hp) (s : Shared) (e : Value) (s' : Shared),CX w [] H s (fun _ _ _ => False) e s'→False) :
    PySem.W.WalkO q loose XP YP l.row.toRowW d [] (fun f vs => PySem.call f vs) := by
  refine Att.attach_call hn hdf fun w s₀ s₁ mg mb fa o pm cd doc a vs ns G Y ho hd hcd hmg hobj hints hlen hg => ?_
  have KX := hY w _ Y
  obtain ⟨fd,hb,hF⟩ := F w mg fa _ KX G.T.g hmg
  exact zlZ KX G.T.g G.T.b G.T.builtins G.T.nolimit hg hobj hints (Nat.le_trans hlen hn2) hr hF hb (fun H hO hS => hsp w H a ns hlen hO hS) fun H e s' => hCX w H s₁ e s'
end L2
namespace L2
open PySem PySem.Spec PyProof.Rows
noncomputable def zcV (s : Stmt) : Arguments := match s with
  | .FunctionDef _ a _ _ _ _ _ _ _ _ => a
  | _ => { posonlyargs := [],args := [],vararg := none,kwonlyargs := [],kw_defaults := [],kwarg := none,defaults := [] }
noncomputable def zbM (s : Stmt) : List Stmt := match s with
  | .FunctionDef _ _ b _ _ _ _ _ _ _ => b
  | _ => []
noncomputable def zac (s : Stmt) : Scope := match s with
  | .FunctionDef _ _ _ _ _ _ sc _ _ _ => sc
  | _ => { kind := .function,names := [],isGenerator := false,isCoroutine := false }
noncomputable abbrev CX0 : CXT := fun _ _ _ _ _ _ => False
noncomputable abbrev E0 : XK := fun _ _ _ => False
theorem znY {X : Cx} : zk5 CX0 X E0 := fun _ _ _ _ _ _ _ h => h.elim
structure Fun (K : PySem.W.Frag) (x qual : Str) (st : Stmt) (f : Addr) (fd : FuncData) : Prop where
  ex : ∃ (oc : Value) (od : Option Addr) (kV doc pm : Value) (an : Option Addr) (cdv ct : Value) (osl : Array (Option Value)),
    fd = PySem.W.fnOf x qual (zcV st) (zbM st) (zac st) .none kV doc pm an cdv ct∧K.lookup f = some ⟨oc,od,.func fd,osl⟩∧PySem.W.codeIn K cdv qual = true
  kp : PySem.W.keepIn K (.ref f) = true
section
variable {P : Program} {w : World} {K : PySem.W.Frag} {mg : Str → Option Value} {base : Heap}
theorem Fun.ok {x qual : Str} {st : Stmt} {f : Addr} {fd : FuncData} {N ps : List Str} {k : Nat} {sp : Sp} (F : Fun K x qual st f fd) (S : FnScope N ps (zac st)) (len : ∀ vs H Q E,sp vs H Q E→vs.length = ps.length)
    (hbody : ∀ (cdv : Value) (A : Around) (outer : List Env) (s : Shared) (H : Hp) (vs : List V) (Q : VK) (E : XK),Room k (A.deeper (envOfC qual (zac st) s.heap.objs.size f cdv))→sp vs H Q E →
      ∃ t,PSs (cxOf CX0 P w K mg base N qual (zac st) f cdv A outer s H E).nox (zbM st) t∧t { nx := fun _ H' => Q .non H',rt := Q } (start N vs) H) : FnOk P w K mg base CX0 (k + 1) f fd ps sp := by
  obtain ⟨oc,od,kV,doc,pm,an,cdv,ct,osl,rfl,lk,hcd⟩ := F.ex
  refine zrX lk hcd S len fun A outer s H vs Q E hr hsp => ?_
  obtain ⟨t,h,q⟩ := hbody cdv A outer s H vs Q E hr hsp
  exact ⟨t,h.nox,q⟩
theorem Fun.binds {x qual : Str} {st : Stmt} {f : Addr} {fd : FuncData} {ps : List Str} (F : Fun K x qual st f fd)
    (h : ∀ (kV doc pm : Value) (an : Option Addr) (cdv ct : Value) (us : List Value),us.length = ps.length→bindArgs (PySem.W.fnOf x qual (zcV st) (zbM st) (zac st) .none kV doc pm an cdv ct) ⟨us,[]⟩ = pure (ps.zip us)) : zfK K fd ps [] := by
  obtain ⟨oc,od,kV,doc,pm,an,cdv,ct,osl,rfl,lk,hcd⟩ := F.ex
  exact .all (h kV doc pm an cdv ct)
theorem zqM {x qual : Str} {st : Stmt} {f : Addr} {oc : Value} {od an : Option Addr} {osl : Array (Option Value)} {kV doc pm cdv ct : Value} (l : K.lookup f = some ⟨oc,od,.func (PySem.W.fnOf x qual (zcV st) (zbM st) (zac st) .none kV doc pm an cdv ct),osl⟩)
    (c : PySem.W.codeIn K cdv qual = true) (k : PySem.W.keepIn K (.ref f) = true) : Fun K x qual st f (PySem.W.fnOf x qual (zcV st) (zbM st) (zac st) .none kV doc pm an cdv ct) := ⟨⟨oc,od,kV,doc,pm,an,cdv,ct,osl,rfl,l,c⟩,k⟩
end
theorem zba {A : Around} {k : Nat} (hr : Room k A) : A.units + 1 < cLine := Nat.lt_of_le_of_lt (Nat.add_le_add_left (by decide : 1≤64) _) hr.units
section
variable {X : Cx}
theorem zkX : zdh X (.builtin "len") (fun xs H Q => ∃ a kvs,xs = [V.ref a]∧Rd H a (.dK kvs)∧Q (.int kvs.length) H) := by
  intro pins s σ H xs us Q I r h
  obtain ⟨a,kvs,rfl,ha,q⟩ := h
  obtain ⟨u,rfl,ru⟩ := zeT r
  cases ru
  exact zr2 I ha fun t s' I' => ⟨.int kvs.length,H,I',⟨t,rfl⟩,q⟩
end
noncomputable def Same (H H' : Hp) : Prop := ∀ b o,H b = some o→H' b = some o
theorem Same.trans {H H1 H2 : Hp} (a : Same H H1) (b : Same H1 H2) : Same H H2 := fun c o h => b c o (a c o h)
theorem Same.free {H H' : Hp} (e : Same H H') {l : Addr} (h : H' l = Option.none) : H l = Option.none := by
  cases q : H l with
  | none => rfl
  | some o =>
    rw [e l o q] at h
    cases h
theorem Same.seq {K : PySem.W.Frag} {H H' : Hp} {a : Addr} {xs : List V} (e : Same H H') (h : SqL K H a xs) : SqL K H' a xs := by
  rcases h with (h | ⟨o,h⟩) | h
  · exact .inl (.inl (e _ _ h))
  · exact .inl (.inr ⟨o,e _ _ h⟩)
  · exact .inr h
section
variable {κ : Type} [DecidableEq κ]
end
end L2
end
section
namespace DL
open PySem
open PySem.SeqAt
open PySem.AutoSeq1 (wpAny_loadPart')
open PySem.MeetsSeq PySem.MeetsSeq2 PySem.MeetsSeq3
end DL
end
section
namespace DL
open PySem PyProof.Rows
section
variable {prog : Program} {w : World} {A : Around} {E : Value → Shared → Prop} {s : Shared}
end
end DL
end
section
namespace DL
open PySem PyProof.Rows PySem.W
noncomputable def zmX {α : Type} (c : Nat→Nat→Bool) : KasT α→α
  | .ret a => a
  | .ask i j k => zmX c (k (c i j))
inductive Asks (n : Nat) {α : Type} (P : α→Prop) : KasT α→Prop where
  | ret {a : α} : P a→Asks n P (.ret a)
  | ask {i j : Nat} {k : Bool→KasT α} : i < n→j < n→(∀ b,Asks n P (k b))→Asks n P (.ask i j k)
theorem Asks.bind {n : Nat} {α β : Type} {P : α→Prop} {P' : β→Prop} {t : KasT α} {f : α→KasT β} (h : Asks n P t) (hf : ∀ a,P a→Asks n P' (f a)) : Asks n P' (t.bind f) := by
  induction h with
  | ret h => exact hf _ h
  | ask h1 h2 _ ih => exact .ask h1 h2 ih
theorem Asks.run {n : Nat} {α : Type} {P : α→Prop} {t : KasT α} (h : Asks n P t) (c : Nat→Nat→Bool) : P (zmX c t) := by
  induction h with
  | ret h => exact h
  | ask _ _ _ ih => exact ih _
section
variable {n : Nat} (hn : 0 < n)
include hn
end
end DL
end
section
namespace DL
open PySem PyProof.Rows PySem.W PySem.Calls
section
variable {prog : Program} {w : World} {A : Around} {E : Value → Shared → Prop} {s : Shared}
end
end DL
end
section
namespace DL
open PySem PySem.Spec PyProof.Rows L2
inductive D where
  | non | bl (b : Bool) | int (i : Int) | str (x : Str)
  | tup (ds : List D) | lst (ds : List D)
  | dic (kvs : List (Key × D))
  | obj (c : Nat) (fs : List (Str × D))
instance : Inhabited D := ⟨.non⟩
inductive Res (α : Type) where
  | ok (a : α) | exc (x : D) | stuck
noncomputable def Res.bind {α β : Type} (r : Res α) (f : α→Res β) : Res β := match r with
  | .ok a => f a
  | .exc x => .exc x
  | .stuck => .stuck
@[simp] theorem bind_ok {α β : Type} (a : α) (f : α→Res β) : (Res.ok a).bind f = f a := rfl
@[simp] theorem bind_exc {α β : Type} (x : D) (f : α→Res β) : (Res.exc x : Res α).bind f = .exc x := rfl
@[simp] theorem bind_stuck {α β : Type} (f : α→Res β) : (Res.stuck : Res α).bind f = .stuck := rfl
noncomputable def fin {α : Type} (r : Res α) (q : α→Prop) (x : D→Prop) : Prop := match r with
  | .ok a => q a
  | .exc e => x e
  | .stuck => False
theorem zag {α : Type} {r : Res α} {q q' : α→Prop} {x : D→Prop} (h : fin r q x) (hq : ∀ a,q a→q' a) : fin r q' x := by
  cases r with
  | ok a => exact hq a h
  | exc e => exact h
  | stuck => exact h
theorem zah {α β : Type} {r : Res α} {f : α→Res β} {q : β→Prop} {x : D→Prop} (h : fin (r.bind f) q x) : fin r (fun a => fin (f a) q x) x := by
  cases r with
  | ok a => exact h
  | exc e => exact h
  | stuck => exact h
noncomputable abbrev GH := Addr→Option D
inductive Scl : V→D→Prop where
  | non : Scl .non .non
  | bl (b : Bool) : Scl (.bl b) (.bl b)
  | int (i : Int) : Scl (.int i) (.int i)
  | str (x : Str) : Scl (.str x) (.str x)
inductive KC (K : PySem.W.Frag) (a : Addr) : D→Prop where
  | lst {xs : List V} {ds : List D} : SqL K (fun _ => none) a xs→Paired Scl xs ds→KC K a (.lst ds)
  | tup {xs : List V} {ds : List D} : SqT K (fun _ => none) a xs→Paired Scl xs ds→(∃ o,K.lookup a = some o∧o.cls = .type "tuple"∧o.dict = none)→KC K a (.tup ds)
inductive RG (K : PySem.W.Frag) (G : GH) : V→D→Prop where
  | scl {v : V} {d : D} : Scl v d→RG K G v d
  | ref {a : Addr} {d : D} : G a = some d→RG K G (.ref a) d
  | kc {a : Addr} {d : D} : KC K a d→RG K G (.ref a) d
noncomputable abbrev RGs (K : PySem.W.Frag) (G : GH) : List V→List D→Prop := Paired (RG K G)
noncomputable abbrev RKs (K : PySem.W.Frag) (G : GH) : List (Key × V)→List (Key × D)→Prop := Paired fun p q => p.1 = q.1∧RG K G p.2 q.2
inductive OB (K : PySem.W.Frag) (G : GH) (H : Hp) (a : Addr) : D→Prop where
  | lst {xs : List V} {ds : List D} : Rd H a (.lst xs)→RGs K G xs ds→OB K G H a (.lst ds)
  | tup {xs : List V} {ds : List D} : Rd H a (.tup xs)→RGs K G xs ds→OB K G H a (.tup ds)
  | dic {ob : Obj} {ps : List (Key × V)} {kvs : List (Key × D)} : H a = some (.frz ob (.dK ps))→RKs K G ps kvs→OB K G H a (.dic kvs)
noncomputable def GOk (K : PySem.W.Frag) (G : GH) (H : Hp) : Prop := ∀ a d,G a = some d→OB K G H a d
inductive OwnO (K : PySem.W.Frag) (G : GH) (H : Hp) (a : Addr) : D→Prop where
  | lst {xs : List V} {ds : List D} : H a = some (.lst xs)→RGs K G xs ds→OwnO K G H a (.lst ds)
  | dic {ps : List (Key × V)} {kvs : List (Key × D)} : H a = some (.dK ps)→RKs K G ps kvs→OwnO K G H a (.dic kvs)
structure Own (K : PySem.W.Frag) (G : GH) (H : Hp) (a : Addr) (d : D) : Prop where
  un : G a = none
  ob : OwnO K G H a d
structure Grow (K : PySem.W.Frag) (G : GH) (H : Hp) (G' : GH) (H' : Hp) : Prop where
  ok : GOk K G' H'
  he : ∀ a o,H a = some o→H' a = some o
  ge : ∀ a d,G a = some d→G' a = some d
  gf : ∀ a,H a≠none→G' a = G a
section
variable {K : PySem.W.Frag} {G G' G1 G2 : GH} {H H' H1 H2 : Hp} {a p : Addr} {d : D} {v : V}
theorem Rd.isS {u : HO} (h : Rd H a u) : H a≠none := by
  rcases h with h | ⟨o,h⟩ <;> rw [h] <;> simp
theorem RG.mono (h : RG K G v d) (ge : ∀ a d,G a = some d→G' a = some d) : RG K G' v d := by
  cases h with
  | scl s => exact .scl s
  | ref e => exact .ref (ge _ _ e)
  | kc k => exact .kc k
theorem RGs.mono {xs : List V} {ds : List D} (h : RGs K G xs ds) (ge : ∀ a d,G a = some d→G' a = some d) : RGs K G' xs ds := Paired.mono (fun _ _ r => r.mono ge) h
theorem RKs.mono {xs : List (Key × V)} {ds : List (Key × D)} (h : RKs K G xs ds) (ge : ∀ a d,G a = some d→G' a = some d) : RKs K G' xs ds := Paired.mono (fun _ _ r => ⟨r.1,r.2.mono ge⟩) h
theorem OB.mono (h : OB K G H a d) (ge : ∀ a d,G a = some d→G' a = some d) (he : ∀ o,H a = some o→H' a = some o) : OB K G' H' a d := by
  have rd : ∀ {u : HO},Rd H a u→Rd H' a u := fun r => by
    rcases r with r | ⟨o,r⟩
    · exact .inl (he _ r)
    · exact .inr ⟨o,he _ r⟩
  cases h with
  | lst r s => exact .lst (rd r) (s.mono ge)
  | tup r s => exact .tup (rd r) (s.mono ge)
  | dic r s => exact .dic (he _ r) (RKs.mono s ge)
theorem OB.isS (h : OB K G H a d) : H a≠none := by
  cases h with
  | lst r s => exact Rd.isS r
  | tup r s => exact Rd.isS r
  | dic r s => rw [r]; simp
theorem GOk.isN (g : GOk K G H) (h : H p = none) : G p = none := by
  cases e : G p with
  | none => rfl
  | some d => exact absurd h (g p d e).isS
theorem OwnO.isS (h : OwnO K G H a d) : H a≠none := by
  cases h with
  | lst r s => rw [r]; simp
  | dic r s => rw [r]; simp
theorem OwnO.mono (h : OwnO K G H a d) (ge : ∀ a d,G a = some d→G' a = some d) (he : ∀ o,H a = some o→H' a = some o) : OwnO K G' H' a d := by
  cases h with
  | lst r s => exact .lst (he _ r) (s.mono ge)
  | dic r s => exact .dic (he _ r) (RKs.mono s ge)
theorem Own.mono (h : Own K G H a d) (w : Grow K G H G' H') : Own K G' H' a d :=
  ⟨by rw [w.gf a h.ob.isS]; exact h.un,h.ob.mono w.ge fun o e => w.he _ _ e⟩
noncomputable def fz (H : Hp) (a : Addr) (ob : Obj) : Hp := match H a with
  | some (.dK ps) => upd H a (.frz ob (.dK ps))
  | _ => H
theorem zkz {b : Addr} {ob : Obj} (h : b≠a) : fz H a ob b = H b := by
  unfold fz
  cases e : H a with
  | none => rfl
  | some u => cases u <;> first | rfl | exact zan h
theorem zqK {xs : List V} {ob : Obj} (h : H a = some (.lst xs)) : fz H a ob = H := by
  unfold fz
  rw [h]
theorem zqL {ps : List (Key × V)} {ob : Obj} (h : H a = some (.dK ps)) : fz H a ob a = some (.frz ob (.dK ps)) := by
  unfold fz
  rw [h]; exact zao
theorem OwnO.fast (h : OwnO K G H a d) (ob : Obj) : OB K G (fz H a ob) a d := by
  cases h with
  | lst r s => rw [zqK r]; exact .lst (.inl r) s
  | dic r s => exact .dic (zqL r) s
theorem GOk.fast (g : GOk K G H) (hn : G a = none) (ob : Obj) : GOk K G (fz H a ob) := fun b d e => by
  have hb : b≠a := by rintro rfl; rw [hn] at e; cases e
  exact (g b d e).mono (fun _ _ z => z) fun o z => by rw [zkz hb]; exact z
theorem Grow.refl (g : GOk K G H) : Grow K G H G H := ⟨g,fun _ _ e => e,fun _ _ e => e,fun _ _ => rfl⟩
theorem Grow.trans (x : Grow K G H G1 H1) (y : Grow K G1 H1 G2 H2) : Grow K G H G2 H2 :=
  ⟨y.ok,fun a o e => y.he _ _ (x.he _ _ e),fun a d e => y.ge _ _ (x.ge _ _ e),fun a h => by
    have h1 : H1 a≠Option.none := by
      cases e : H a with
      | none => exact absurd e h
      | some o => rw [x.he _ _ e]; simp
    rw [y.gf a h1,x.gf a h]⟩
noncomputable def gset (G : GH) (a : Addr) (d : D) : GH := fun b => if b = a then some d else G b
theorem zas : gset G a d a = some d := if_pos rfl
theorem zaR {b : Addr} (h : b≠a) : gset G a d b = G b := if_neg h
theorem za4 (hn : G a = none) : ∀ b e,G b = some e→gset G a d b = some e := fun b e h => by
  have : b≠a := by rintro rfl; rw [hn] at h; cases h
  rw [zaR this]; exact h
theorem GOk.gset (g : GOk K G H) (hn : G a = none) (o : OB K G H a d) : GOk K (gset G a d) H := fun b e h => by
  by_cases hb : b = a
  · subst hb; rw [zas] at h; cases h
    exact o.mono (za4 hn) fun _ q => q
  · rw [zaR hb] at h
    exact (g b e h).mono (za4 hn) fun _ q => q
theorem zms (hn : H p = none) {o : HO} : ∀ a u,H a = some u→upd H p o a = some u := fun a u e => by
  rw [zan (zbH e hn)]; exact e
theorem Grow.new (g : GOk K G H) (hn : H p = none) (o : HO) : Grow K G H G (upd H p o) :=
  ⟨fun a d e => (g a d e).mono (fun _ _ q => q) fun u q => zms hn _ _ q,fun a u e => zms hn _ _ e,fun _ _ e => e,fun _ _ => rfl⟩
theorem Grow.newF (g : GOk K G H) (hn : H p = none) {o : HO} (ob : OB K G (upd H p o) p d) : Grow K G H (gset G p d) (upd H p o) := by
  have w := Grow.new g hn o
  have gn := g.isN hn
  exact ⟨w.ok.gset gn ob,w.he,fun a e h => za4 gn a e h,fun a h => zaR (by rintro rfl; exact h hn)⟩
theorem Grow.frz (w : Grow K G H G' H') (hn : H a = none) (o : Own K G' H' a d) (ob : Obj) : Grow K G H (gset G' a d) (fz H' a ob) :=
  ⟨(w.ok.fast o.un ob).gset o.un (o.ob.fast ob),fun b u e => by rw [zkz (by rintro rfl; rw [hn] at e; cases e)]; exact w.he b u e,fun b e h => za4 o.un b e (w.ge b e h),fun b h => by rw [zaR (by rintro rfl; exact h hn)]; exact w.gf b h⟩
theorem RG.lst {ds : List D} (g : GOk K G H) (h : RG K G v (.lst ds)) : ∃ a xs,v = .ref a∧SqL K H a xs∧RGs K G xs ds := by
  cases h with
  | scl s => cases s
  | ref e =>
    cases g _ _ e with
    | lst r s => exact ⟨_,_,rfl,.inl r,s⟩
  | kc k =>
    cases k with
    | lst r s =>
      refine ⟨_,_,rfl,?_,Paired.mono (fun _ _ z => .scl z) s⟩
      rcases r with (r | ⟨o,r⟩) | r
      · cases r
      · cases r
      · exact .inr r
theorem RG.tup {ds : List D} (g : GOk K G H) (h : RG K G v (.tup ds)) : ∃ a xs,v = .ref a∧SqT K H a xs∧RGs K G xs ds := by
  cases h with
  | scl s => cases s
  | ref e =>
    cases g _ _ e with
    | tup r s => exact ⟨_,_,rfl,.inl r,s⟩
  | kc k =>
    cases k with
    | tup r s _ =>
      refine ⟨_,_,rfl,?_,Paired.mono (fun _ _ z => .scl z) s⟩
      rcases r with (r | ⟨o,r⟩) | r
      · cases r
      · cases r
      · exact .inr r
theorem RG.dic {kvs : List (Key × D)} (g : GOk K G H) (h : RG K G v (.dic kvs)) : ∃ a ps,v = .ref a∧Rd H a (.dK ps)∧RKs K G ps kvs := by
  cases h with
  | scl s => cases s
  | ref e =>
    cases g _ _ e with
    | dic r s => exact ⟨_,_,rfl,.inr ⟨_,r⟩,s⟩
  | kc k => cases k
theorem RG.int {i : Int} (g : GOk K G H) (h : RG K G v (.int i)) : v = .int i := by
  cases h with
  | scl s => cases s; rfl
  | ref e => cases g _ _ e
  | kc k => cases k
theorem RG.str {x : Str} (g : GOk K G H) (h : RG K G v (.str x)) : v = .str x := by
  cases h with
  | scl s => cases s; rfl
  | ref e => cases g _ _ e
  | kc k => cases k
theorem RG.bl {b : Bool} (g : GOk K G H) (h : RG K G v (.bl b)) : v = .bl b := by
  cases h with
  | scl s => cases s; rfl
  | ref e => cases g _ _ e
  | kc k => cases k
theorem RG.non (g : GOk K G H) (h : RG K G v .non) : v = .non := by
  cases h with
  | scl s => cases s; rfl
  | ref e => cases g _ _ e
  | kc k => cases k
noncomputable def RB (K : PySem.W.Frag) (G : GH) (H : Hp) (v : V) (d : D) : Prop := RG K G v d∨∃ a,v = .ref a∧Own K G H a d
theorem RG.rb (h : RG K G v d) : RB K G H v d := .inl h
theorem RB.mono (h : RB K G H v d) (w : Grow K G H G' H') : RB K G' H' v d := by
  rcases h with h | ⟨a,e,h⟩
  · exact .inl (h.mono w.ge)
  · exact .inr ⟨a,e,h.mono w⟩
theorem RB.lst {ds : List D} (g : GOk K G H) (h : RB K G H v (.lst ds)) : ∃ a xs,v = .ref a∧SqL K H a xs∧RGs K G xs ds := by
  rcases h with h | ⟨a,e,h⟩
  · exact h.lst g
  · cases h.ob with
    | lst r s => exact ⟨a,_,e,SqL.of r,s⟩
theorem RB.tup {ds : List D} (g : GOk K G H) (h : RB K G H v (.tup ds)) : ∃ a xs,v = .ref a∧SqT K H a xs∧RGs K G xs ds := by
  rcases h with h | ⟨a,e,h⟩
  · exact h.tup g
  · cases h.ob
theorem RB.dic {kvs : List (Key × D)} (g : GOk K G H) (h : RB K G H v (.dic kvs)) : ∃ a ps,v = .ref a∧Rd H a (.dK ps)∧RKs K G ps kvs := by
  rcases h with h | ⟨a,e,h⟩
  · exact h.dic g
  · cases h.ob with
    | dic r s => exact ⟨a,_,e,.inl r,s⟩
theorem RB.int {i : Int} (g : GOk K G H) (h : RB K G H v (.int i)) : v = .int i := by
  rcases h with h | ⟨a,e,h⟩
  · exact h.int g
  · cases h.ob
theorem RB.str {x : Str} (g : GOk K G H) (h : RB K G H v (.str x)) : v = .str x := by
  rcases h with h | ⟨a,e,h⟩
  · exact h.str g
  · cases h.ob
theorem RB.bl {b : Bool} (g : GOk K G H) (h : RB K G H v (.bl b)) : v = .bl b := by
  rcases h with h | ⟨a,e,h⟩
  · exact h.bl g
  · cases h.ob
theorem RB.non (g : GOk K G H) (h : RB K G H v .non) : v = .non := by
  rcases h with h | ⟨a,e,h⟩
  · exact h.non g
  · cases h.ob
theorem Paired.get {α β : Type} {F : α→β→Prop} : ∀ {l : List α} {r : List β} {i : Nat} {b : β},Paired F l r→r[i]? = some b→∃ a,l[i]? = some a∧F a b
  | _,_,_,_,.nil,e => by simp at e
  | _,_,0,_,.cons h _,e => by simp at e; subst e; exact ⟨_,rfl,h⟩
  | _,_,i + 1,b,.cons _ t,e => by
    obtain ⟨a,h1,h2⟩ := Paired.get (i := i) t (by simpa using e)
    exact ⟨a,by simpa using h1,h2⟩
theorem Paired.app {α β : Type} {F : α→β→Prop} {l l' : List α} {r r' : List β} (h : Paired F l r) (q : Paired F l' r') : Paired F (l++l') (r++r') := by
  induction h with
  | nil => exact q
  | cons h _ ih => exact .cons h ih
theorem Paired.tk {α β : Type} {F : α→β→Prop} {l : List α} {r : List β} (n : Nat) (h : Paired F l r) : Paired F (l.take n) (r.take n) := by
  induction h generalizing n with
  | nil => cases n <;> exact .nil
  | cons h _ ih => cases n with
    | zero => exact .nil
    | succ n => exact .cons h (ih n)
theorem Paired.dr {α β : Type} {F : α→β→Prop} {l : List α} {r : List β} (n : Nat) (h : Paired F l r) : Paired F (l.drop n) (r.drop n) := by
  induction h generalizing n with
  | nil => cases n <;> exact .nil
  | cons h t ih => cases n with
    | zero => exact .cons h t
    | succ n => exact ih n
theorem Paired.st {α β : Type} {F : α→β→Prop} {a : α} {b : β} (h : F a b) {l : List α} {r : List β} (n : Nat) (p : Paired F l r) : Paired F (l.set n a) (r.set n b) := by
  induction p generalizing n with
  | nil => exact .nil
  | cons q t ih => cases n with
    | zero => exact .cons h t
    | succ n => exact .cons q (ih n)
theorem Paired.er {α β : Type} {F : α→β→Prop} {l : List α} {r : List β} (n : Nat) (p : Paired F l r) : Paired F (l.eraseIdx n) (r.eraseIdx n) := by
  induction p generalizing n with
  | nil => exact .nil
  | cons q t ih => cases n with
    | zero => exact t
    | succ n => exact .cons q (ih n)
end
inductive Md where
  | sh | ow | bw
  deriving DecidableEq
noncomputable abbrev Rho := List (Option D)
structure GE where
  gh : GH
  h0 : Hp
  hd : Nat→Option (Option V × Option D)
noncomputable def Bw (K : PySem.W.Frag) (h0 : Hp) (G : GH) (H : Hp) (v : V) (d : D) : Prop := RG K G v d∨∃ a,v = V.ref a∧Own K G H a d∧h0 a≠none
theorem Bw.grow {K : PySem.W.Frag} {h0 : Hp} {G G' : GH} {H H' : Hp} {v : V} {d : D} (h : Bw K h0 G H v d) (w : Grow K G H G' H') : Bw K h0 G' H' v d := by
  rcases h with h | ⟨a,e,h1,h2⟩
  · exact .inl (h.mono w.ge)
  · exact .inr ⟨a,e,h1.mono w,h2⟩
theorem Bw.rb {K : PySem.W.Frag} {h0 : Hp} {G : GH} {H : Hp} {v : V} {d : D} (h : Bw K h0 G H v d) : RB K G H v d := by
  rcases h with h | ⟨a,e,h1,h2⟩
  · exact .inl h
  · exact .inr ⟨a,e,h1⟩
noncomputable def Lk (r : Rho) (st : L2.St) (i : Nat) (o : Option V × Option D) : Prop := st[i]? = some o.1∧∀ d,r[i]? = some (some d)→o.2 = some d
structure SI (X : Cx) (g : GE) (m : List Md) (r : Rho) (G : GH) (st : L2.St) (H : Hp) : Prop where
  gok : GOk X.K G H
  old : ∀ a o,g.h0 a = some o→H a = some o
  ge : ∀ a d,g.gh a = some d→G a = some d
  gf : ∀ a,g.h0 a≠none→G a = g.gh a
  lm : m.length = st.length
  lr : r.length = st.length
  sh : ∀ (i : Nat) d,r[i]? = some (some d)→m[i]? = some .sh→∃ v,st[i]? = some (some v)∧RG X.K G v d
  ow : ∀ (i : Nat) d,r[i]? = some (some d)→m[i]? = some .ow→∃ a,st[i]? = some (some (V.ref a))∧Own X.K G H a d∧g.h0 a = none
  bw : ∀ (i : Nat) d,r[i]? = some (some d)→m[i]? = some .bw→∃ v,st[i]? = some (some v)∧Bw X.K g.h0 G H v d
  dis : ∀ (i j : Nat) a d e,i≠j→r[i]? = some (some d)→r[j]? = some (some e)→m[i]? = some .ow→m[j]? = some .ow→st[i]? = some (some (V.ref a))→st[j]? = some (some (V.ref a))→False
  lk : ∀ (i : Nat) o,g.hd i = some o→m[i]? = some .bw→Lk r st i o
section
variable {X : Cx} {g : GE} {m : List Md} {r : Rho} {G G' : GH} {st : L2.St} {H H' : Hp}
theorem SI.grow (s : SI X g m r G st H) (w : Grow X.K G H G' H') : SI X g m r G' st H' where
  gok := w.ok
  old := fun a o e => w.he _ _ (s.old a o e)
  ge := fun a d e => w.ge _ _ (s.ge a d e)
  gf := fun a h => by
    have h1 : H a≠none := by
      cases e : g.h0 a with
      | none => exact absurd e h
      | some o => rw [s.old _ _ e]; simp
    rw [w.gf a h1,s.gf a h]
  lm := s.lm
  lr := s.lr
  sh := fun i d h1 h2 => by obtain ⟨v,h3,h4⟩ := s.sh i d h1 h2; exact ⟨v,h3,h4.mono w.ge⟩
  ow := fun i d h1 h2 => by obtain ⟨a,h3,h4,h5⟩ := s.ow i d h1 h2; exact ⟨a,h3,h4.mono w,h5⟩
  bw := fun i d h1 h2 => by obtain ⟨v,h3,h4⟩ := s.bw i d h1 h2; exact ⟨v,h3,h4.grow w⟩
  dis := s.dis
  lk := s.lk
theorem SI.grown (s : SI X g m r G st H) : Grow X.K g.gh g.h0 G H := ⟨s.gok,s.old,s.ge,s.gf⟩
theorem SI.frz (s : SI X g m r G st H) (i : Nat) (hi : m[i]? = some .ow) : (∃ G',(∀ a d,G a = some d→G' a = some d)∧SI X g (m.set i .sh) r G' st H)∨∃ a,∀ ob,∃ G',(∀ a d,G a = some d→G' a = some d)∧SI X g (m.set i .sh) r G' st (fz H a ob) := by
  have hlt : i < m.length := (List.getElem?_eq_some_iff.mp hi).1
  by_cases hb : ∃ d,r[i]? = some (some d)
  · obtain ⟨d,hd⟩ := hb
    obtain ⟨a,h1,h2,h3⟩ := s.ow i d hd hi
    refine .inr ⟨a,fun ob => ⟨gset G a d,za4 h2.un,(s.gok.fast h2.un ob).gset h2.un (h2.ob.fast ob),fun b o e => by rw [zkz (by rintro rfl; rw [h3] at e; cases e)]; exact s.old b o e,fun b e h => za4 h2.un b e (s.ge b e h),fun b h => ?_,by simpa using s.lm,s.lr,?_,?_,?_,?_,fun j o hj hm => ?_⟩⟩
    · rw [zaR (by rintro rfl; exact h h3)]; exact s.gf b h
    · intro j e hj hm
      by_cases hij : i = j
      · subst hij
        rw [hd] at hj; cases hj
        exact ⟨_,h1,.ref zas⟩
      · rw [List.getElem?_set_ne hij] at hm
        obtain ⟨v,q1,q2⟩ := s.sh j e hj hm
        exact ⟨v,q1,q2.mono (za4 h2.un)⟩
    · intro j e hj hm
      by_cases hij : i = j
      · subst hij
        rw [List.getElem?_set_self hlt] at hm; cases hm
      · rw [List.getElem?_set_ne hij] at hm
        obtain ⟨b,q1,q2,q3⟩ := s.ow j e hj hm
        have hba : b≠a := by
          rintro rfl
          exact s.dis i j b d e hij hd hj hi hm h1 q1
        exact ⟨b,q1,⟨by rw [zaR hba]; exact q2.un,q2.ob.mono (za4 h2.un) fun _ z => by rw [zkz hba]; exact z⟩,q3⟩
    · intro j e hj hm
      by_cases hij : i = j
      · subst hij
        rw [List.getElem?_set_self hlt] at hm; cases hm
      · rw [List.getElem?_set_ne hij] at hm
        obtain ⟨v,q1,q2⟩ := s.bw j e hj hm
        refine ⟨v,q1,?_⟩
        rcases q2 with q2 | ⟨b,rfl,q2,q3⟩
        · exact .inl (q2.mono (za4 h2.un))
        · have hba : b≠a := by rintro rfl; exact q3 h3
          exact .inr ⟨b,rfl,⟨by rw [zaR hba]; exact q2.un,q2.ob.mono (za4 h2.un) fun _ z => by rw [zkz hba]; exact z⟩,q3⟩
    · intro j k b e e' hjk hj hk hm hm' q1 q2
      have hij : i≠j := by
        rintro rfl
        rw [List.getElem?_set_self hlt] at hm; cases hm
      have hik : i≠k := by
        rintro rfl
        rw [List.getElem?_set_self hlt] at hm'; cases hm'
      rw [List.getElem?_set_ne hij] at hm
      rw [List.getElem?_set_ne hik] at hm'
      exact s.dis j k b e e' hjk hj hk hm hm' q1 q2
    · refine s.lk j o hj ?_
      by_cases hij : i = j
      · subst hij; rw [List.getElem?_set_self hlt] at hm; cases hm
      · rw [List.getElem?_set_ne hij] at hm; exact hm
  · refine .inl ⟨G,fun _ _ z => z,s.gok,s.old,s.ge,s.gf,by simpa using s.lm,s.lr,?_,?_,?_,?_,fun j o hj hm => ?_⟩
    · intro j e hj hm
      have hij : i≠j := by rintro rfl; exact hb ⟨e,hj⟩
      rw [List.getElem?_set_ne hij] at hm
      exact s.sh j e hj hm
    · intro j e hj hm
      have hij : i≠j := by rintro rfl; exact hb ⟨e,hj⟩
      rw [List.getElem?_set_ne hij] at hm
      exact s.ow j e hj hm
    · intro j e hj hm
      have hij : i≠j := by rintro rfl; exact hb ⟨e,hj⟩
      rw [List.getElem?_set_ne hij] at hm
      exact s.bw j e hj hm
    · intro j k b e e' hjk hj hk hm hm' q1 q2
      have hij : i≠j := by rintro rfl; exact hb ⟨e,hj⟩
      have hik : i≠k := by rintro rfl; exact hb ⟨e',hk⟩
      rw [List.getElem?_set_ne hij] at hm
      rw [List.getElem?_set_ne hik] at hm'
      exact s.dis j k b e e' hjk hj hk hm hm' q1 q2
    · refine s.lk j o hj ?_
      by_cases hij : i = j
      · subst hij; rw [List.getElem?_set_self hlt] at hm; cases hm
      · rw [List.getElem?_set_ne hij] at hm; exact hm
end
end DL
end
section
namespace DL
open PySem PySem.Spec PyProof.Rows L2
theorem PE.imp {X : Cx} {e : Expr} {t t' : TE} (h : PE X e t) (i : ∀ σ H Q,t' σ H Q→t σ H Q) : PE X e t' := fun pins s σ H Q I q => h pins s σ H Q I (i σ H Q q)
theorem PT.imp {X : Cx} {e : Expr} {t t' : TT} (h : PT X e t) (i : ∀ σ H Q,t' σ H Q→t σ H Q) : PT X e t' := fun pins s σ H Q I q => h pins s σ H Q I (i σ H Q q)
theorem PW.imp {X : Cx} {e : Expr} {t t' : TT} (h : PW X e t) (i : ∀ σ H Q,t' σ H Q→t σ H Q) : PW X e t' := fun whole pins s σ H Q I q => h whole pins s σ H Q I (i σ H Q q)
theorem PA.imp {X : Cx} {e : List Expr} {t t' : TA} (h : PA X e t) (i : ∀ σ H Q,t' σ H Q→t σ H Q) : PA X e t' := fun pos pins s σ H Q I q => h pos pins s σ H Q I (i σ H Q q)
theorem PS.imp {X : Cx} {e : Stmt} {t t' : TS} (h : PS X e t) (i : ∀ D σ H,t' D σ H→t D σ H) : PS X e t' := fun pins s σ H D I q => h pins s σ H D I (i D σ H q)
theorem PSs.imp {X : Cx} {e : List Stmt} {t t' : TS} (h : PSs X e t) (i : ∀ D σ H,t' D σ H→t D σ H) : PSs X e t' := fun pins s σ H D I q => h pins s σ H D I (i D σ H q)
noncomputable def ExV (_X : Cx) (_G : GH) (_H : Hp) (_e : Value) (_x : D) : Prop := False
noncomputable def XW (X : Cx) (σ : L2.St) (G : GH) (H : Hp) (x : D) : Prop := ∀ pins e s' G' H',Grow X.K G H G' H'→Inv X pins σ H' s'→ExV X G' H' e x→X.xe e s'
theorem XW.grow {X : Cx} {σ : L2.St} {G G1 : GH} {H H1 : Hp} {x : D} (h : XW X σ G H x) (w : Grow X.K G H G1 H1) : XW X σ G1 H1 x := fun pins e s' G' H' w' I q => h pins e s' G' H' (w.trans w') I q
noncomputable abbrev FE := Rho→Res D
noncomputable def tE (X : Cx) (g : GE) (m : List Md) (f : FE) : TE := fun σ H Q => ∃ r G,SI X g m r G σ H∧fin (f r) (fun d => ∀ v G' H',Grow X.K G H G' H'→RG X.K G' v d→Q v H') (XW X σ G H)
noncomputable def tB (X : Cx) (g : GE) (m : List Md) (f : FE) : TE := fun σ H Q => ∃ r G,SI X g m r G σ H∧fin (f r) (fun d => ∀ v G' H',Grow X.K G H G' H'→RB X.K G' H' v d→Q v H') (XW X σ G H)
noncomputable def tO (X : Cx) (g : GE) (m : List Md) (f : FE) : TE := fun σ H Q => ∃ r G,SI X g m r G σ H∧fin (f r) (fun d => ∀ a G' H',Grow X.K G H G' H'→H a = none→Own X.K G' H' a d→Q (.ref a) H') (XW X σ G H)
noncomputable def tQ (X : Cx) (g : GE) (m : List Md) (f : Rho→Res Bool) : TT := fun σ H Q => ∃ r G,SI X g m r G σ H∧fin (f r) (fun b => ∀ G' H',Grow X.K G H G' H'→Q b H') (XW X σ G H)
noncomputable def tL (X : Cx) (g : GE) (m : List Md) (f : Rho→Res (List D)) : TA := fun σ H Q => ∃ r G,SI X g m r G σ H∧fin (f r) (fun ds => ∀ vs G' H',Grow X.K G H G' H'→RGs X.K G' vs ds→Q vs H') (XW X σ G H)
noncomputable def tLB (X : Cx) (g : GE) (m : List Md) (f : Rho→Res (List D)) : TA := fun σ H Q => ∃ r G,SI X g m r G σ H∧fin (f r) (fun ds => ∀ vs G' H',Grow X.K G H G' H'→Paired (RB X.K G' H') vs ds→Q vs H') (XW X σ G H)
noncomputable def SE (X : Cx) (g : GE) (m : List Md) (e : Expr) (f : FE) : Prop := PE X e (tE X g m f)
noncomputable def SB (X : Cx) (g : GE) (m : List Md) (e : Expr) (f : FE) : Prop := PE X e (tB X g m f)
noncomputable def SO (X : Cx) (g : GE) (m : List Md) (e : Expr) (f : FE) : Prop := PE X e (tO X g m f)
noncomputable def SQ (X : Cx) (g : GE) (m : List Md) (e : Expr) (f : Rho→Res Bool) : Prop := PT X e (tQ X g m f)
noncomputable def SW (X : Cx) (g : GE) (m : List Md) (e : Expr) (f : Rho→Res Bool) : Prop := PW X e (tQ X g m f)
noncomputable def SA (X : Cx) (g : GE) (m : List Md) (es : List Expr) (f : Rho→Res (List D)) : Prop := PA X es (tL X g m f)
noncomputable def SAB (X : Cx) (g : GE) (m : List Md) (es : List Expr) (f : Rho→Res (List D)) : Prop := PA X es (tLB X g m f)
section
variable {X : Cx} {g : GE} {m : List Md} {e a b c : Expr} {f fa fb fc : FE} {pos : Pos}
theorem SE.toB (h : SE X g m e f) : SB X g m e f := PE.imp h fun σ H Q ⟨r,G,si,q⟩ => ⟨r,G,si,zag q fun d k v G' H' w z => k v G' H' w z.rb⟩
theorem Inv.fast {pins : List (Addr × Obj)} {σ : L2.St} {H : Hp} {s : Shared} (I : Inv X pins σ H s) (a : Addr) : ∃ ob,Inv X pins σ (fz H a ob) s := by
  cases e : H a with
  | none => exact ⟨{ cls := .none,data := .fields #[] },by unfold fz; rw [e]; exact I⟩
  | some u =>
    cases u with
    | dK ps =>
      obtain ⟨z1,z2,vs,z3,o,es,ep,z4,z5⟩ := (show zbj X.prog X.w H s.heap a (.dK ps) from I.hok a _ e)
      have ef : fz H a o = upd H a (.frz o (.dK ps)) := by unfold fz; rw [e]
      refine ⟨o,?_⟩
      rw [ef]
      exact I.write (t' := s.toks) (h' := s.heap) (x := a) (e := a) (by rw [e]; exact trivial) (.inl rfl) (fun b u _ q => q) ⟨o,z4⟩ (show zbj X.prog X.w _ s.heap a (.frz o (.dK ps)) from ⟨z4,z1,z2,vs,z3,o,es,ep,z4,z5⟩)
    | _ => exact ⟨{ cls := .none,data := .fields #[] },by unfold fz; rw [e]; exact I⟩
theorem SO.toE (h : SO X g m e f) : SE X g m e f := by
  intro pins s σ H Q I ⟨r,G,si,q⟩
  refine thn (h pins s σ H (fun v H' => ∃ a,v = .ref a∧∀ ob,Q v (fz H' a ob)) I ⟨r,G,si,zag q fun d k a G' H' w hn o => ⟨a,rfl,fun ob => k _ _ _ (w.frz hn o ob) (.ref zas)⟩⟩) fun u s' ⟨v,H',I',rv,a,_,z⟩ => ?_
  obtain ⟨ob,I2⟩ := Inv.fast I' a
  exact ⟨v,_,I2,rv,z ob⟩
theorem SO.toB (h : SO X g m e f) : SB X g m e f := h.toE.toB
theorem zhC {v : V} {d : D} (h : PE X e (tC v)) (s : Scl v d) : SE X g m e fun _ => .ok d :=
  PE.imp h fun σ H Q ⟨r,G,si,q⟩ => q v G H (Grow.refl si.gok) (.scl s)
theorem zaj {i : Int} {j} : SE X g m (.Constant (.int i) j pos) fun _ => .ok (.int i) := zhC zmF (.int i)
theorem s_bl {i : Bool} {j} : SE X g m (.Constant (.bool i) j pos) fun _ => .ok (.bl i) := zhC zrF (.bl i)
theorem zpm {j} : SE X g m (.Constant .none j pos) fun _ => .ok .non := zhC zpT .non
noncomputable def getV (r : Rho) (i : Nat) : Res D := match r[i]? with
  | some (some d) => .ok d
  | _ => .stuck
theorem ze2 {r : Rho} {i : Nat} {q : D→Prop} {x : D→Prop} (h : fin (getV r i) q x) : ∃ d,r[i]? = some (some d)∧q d := by
  unfold getV at h
  split at h
  · rename_i d e; exact ⟨d,e,h⟩
  · exact h.elim
theorem zrv (i : Nat) {x : Str} (hm : m[i]? = some .sh) (hN : X.N[i]? = some x) (hv : Vis X.env.scope x) (hd : (x == ("__debug__" : Str)) = false := by decide) (hcd : (x == ("__classdict__" : Str)) = false := by decide) :
    SE X g m (.Name x pos) fun r => getV r i := by
  refine PE.imp (zdO hN hv hd hcd) fun σ H Q ⟨r,G,si,q⟩ => ?_
  obtain ⟨d,e,k⟩ := ze2 q
  obtain ⟨v,e1,e2⟩ := si.sh i d e hm
  exact ⟨v,e1,k v G H (Grow.refl si.gok) e2⟩
theorem zpj (i : Nat) {x : Str} (hm : i < m.length) (hN : X.N[i]? = some x) (hv : Vis X.env.scope x) (hd : (x == ("__debug__" : Str)) = false := by decide) (hcd : (x == ("__classdict__" : Str)) = false := by decide) :
    SB X g m (.Name x pos) fun r => getV r i := by
  refine PE.imp (zdO hN hv hd hcd) fun σ H Q ⟨r,G,si,q⟩ => ?_
  obtain ⟨d,e,k⟩ := ze2 q
  have hm' : m[i]? = some m[i] := List.getElem?_eq_getElem hm
  cases h : m[i] with
  | sh =>
    obtain ⟨v,e1,e2⟩ := si.sh i d e (hm'.trans (by rw [h]))
    exact ⟨v,e1,k v G H (Grow.refl si.gok) e2.rb⟩
  | ow =>
    obtain ⟨v,e1,e2,_⟩ := si.ow i d e (hm'.trans (by rw [h]))
    exact ⟨_,e1,k _ G H (Grow.refl si.gok) (.inr ⟨v,rfl,e2⟩)⟩
  | bw =>
    obtain ⟨v,e1,e2⟩ := si.bw i d e (hm'.trans (by rw [h]))
    exact ⟨_,e1,k _ G H (Grow.refl si.gok) e2.rb⟩
theorem seq2 {β : Type} {k : D→D→Res β} {q : β→Prop} {R : V→V→Hp→Prop} {r : Rho} {G : GH} {σ : L2.St} {H : Hp} (si : SI X g m r G σ H)
    (h : fin ((fa r).bind fun d1 => (fb r).bind fun d2 => k d1 d2) q (XW X σ G H))
    (hk : ∀ d1 d2 v1 v2 G2 H2,Grow X.K G H G2 H2→RB X.K G2 H2 v1 d1→RB X.K G2 H2 v2 d2→fin (k d1 d2) q (XW X σ G H)→R v1 v2 H2) :
    tB X g m fa σ H fun v1 H1 => tB X g m fb σ H1 fun v2 H2 => R v1 v2 H2 := by
  refine ⟨r,G,si,zag (zah h) fun d1 h1 v1 G1 H1 w1 r1 => ⟨r,G1,si.grow w1,?_⟩⟩
  cases e : fb r with
  | ok d2 =>
    rw [e] at h1
    exact fun v2 G2 H2 w2 r2 => hk d1 d2 v1 v2 G2 H2 (w1.trans w2) (r1.mono w2) r2 h1
  | exc x =>
    rw [e] at h1
    exact (show XW X σ G H x from h1).grow w1
  | stuck =>
    rw [e] at h1
    exact h1
noncomputable def opt {α : Type} : Option α→Res α
  | some a => .ok a
  | none => .stuck
@[simp] theorem opt_some {α : Type} (a : α) : opt (some a) = .ok a := rfl
@[simp] theorem opt_none {α : Type} : opt (none : Option α) = .stuck := rfl
theorem zaL {α : Type} {o : Option α} {q : α→Prop} {x : D→Prop} (h : fin (opt o) q x) : ∃ a,o = some a∧q a := by
  cases o with
  | none => exact h.elim
  | some a => exact ⟨a,rfl,h⟩
noncomputable def OpD (K : PySem.W.Frag) (r : R2) (k : D→D→Option D) : Prop := ∀ (G : GH) (H : Hp) (v1 v2 : V) (d1 d2 d : D) (Q : VK),GOk K G H→RB K G H v1 d1→RB K G H v2 d2→k d1 d2 = some d →
  (∀ v G' H',Grow K G H G' H'→RG K G' v d→Q v H')→r v1 v2 H Q
noncomputable def f2 (fa fb : FE) (k : D→D→Option D) : FE := fun r => (fa r).bind fun d1 => (fb r).bind fun d2 => opt (k d1 d2)
theorem znx {R : R2} {k : D→D→Option D} (ho : OpD X.K R k) (h : PE X e (tOp R (tB X g m fa) (tB X g m fb))) : SE X g m e (f2 fa fb k) := by
  refine PE.imp h fun σ H Q ⟨r,G,si,q⟩ => ?_
  refine seq2 si q fun d1 d2 v1 v2 G2 H2 w r1 r2 q2 => ?_
  obtain ⟨d,e,q2⟩ := zaL q2
  exact ho G2 H2 v1 v2 d1 d2 d Q w.ok r1 r2 e fun v G' H' w' z => q2 v G' H' (w.trans w') z
theorem zgb {op : Operator} {R : R2} {k : D→D→Option D} (hr : OpR X (binaryOp op) R) (ho : OpD X.K R k) (ha : SB X g m a fa) (hb : SB X g m b fb) : SE X g m (.BinOp a op b pos) (f2 fa fb k) := znx ho (zpQ hr ha hb)
theorem zlo {op : CmpOp} {R : R2} {k : D→D→Option D} (hr : OpR X (compareOp op) R) (ho : OpD X.K R k) (ha : SB X g m a fa) (hb : SB X g m b fb) (hm : behindInMarks op b = false) : SE X g m (.Compare a [op] [b] pos) (f2 fa fb k) := znx ho (znW hr ha hb hm)
noncomputable def asB : D→Option Bool
  | .bl b => some b
  | _ => none
noncomputable def zaP (f : FE) : Rho→Res Bool := fun r => (f r).bind fun d => opt (asB d)
theorem zhE {op : CmpOp} {R : R2} {k : D→D→Option D} (hr : OpR X (compareOp op) R) (ho : OpD X.K R k) (ha : SB X g m a fa) (hb : SB X g m b fb) (hm : behindInMarks op b = false) : SQ X g m (.Compare a [op] [b] pos) (zaP (f2 fa fb k)) := by
  refine PT.imp (znP hr ha hb hm) fun σ H Q ⟨r,G,si,q⟩ => ?_
  have e : zaP (f2 fa fb k) r = (fa r).bind fun d1 => (fb r).bind fun d2 => (opt (k d1 d2)).bind fun d => opt (asB d) := by
    unfold zaP f2
    cases fa r with
    | ok d1 => cases fb r <;> rfl
    | exc _ => rfl
    | stuck => rfl
  rw [e] at q
  refine seq2 (R := fun x y H2 => R x y H2 fun x H' => ∃ k,x = V.bl k∧Q k H') si q fun d1 d2 v1 v2 G2 H2 w r1 r2 q3 => ?_
  obtain ⟨d,e,q3⟩ := zaL (zah q3)
  obtain ⟨b,eb,q3⟩ := zaL q3
  cases d with
  | bl b' =>
    cases eb
    exact ho G2 H2 v1 v2 d1 d2 _ _ w.ok r1 r2 e fun v G' H' w' z => ⟨_,z.bl w'.ok,q3 G' H' (w.trans w')⟩
  | _ => cases eb
end
end DL
end
section
namespace DL
open PySem PySem.Spec PyProof.Rows L2
instance decMul (i j : Int) : Decidable (CMul i j) := by unfold CMul; infer_instance
instance decDiv (i j : Int) : Decidable (CDiv i j) := by unfold CDiv; infer_instance
instance decPow (i j : Int) : Decidable (CPow i j) := by unfold CPow; infer_instance
noncomputable def zi1 (k : Int→Int→D) : D→D→Option D
  | .int a,.int b => some (k a b)
  | _,_ => none
noncomputable def zfH (C : Int→Int→Prop) [∀ a b,Decidable (C a b)] (k : Int→Int→D) : D→D→Option D
  | .int a,.int b => if C a b then some (k a b) else none
  | _,_ => none
@[simp] theorem ints2_int (k : Int→Int→D) (a b : Int) : zi1 k (.int a) (.int b) = some (k a b) := rfl
@[simp] theorem intsC_int (C : Int→Int→Prop) [∀ a b,Decidable (C a b)] (k : Int→Int→D) (a b : Int) : zfH C k (.int a) (.int b) = if C a b then some (k a b) else none := rfl
section
variable {K : PySem.W.Frag}
theorem zfk {gv : Int→Int→V} {gd : Int→Int→D} (hs : ∀ i j,Scl (gv i j) (gd i j)) : OpD K (rI0 gv) (zi1 gd) := by
  intro G H v1 v2 d1 d2 d Q g r1 r2 e q
  unfold zi1 at e
  split at e
  · cases e
    exact ⟨_,_,r1.int g,r2.int g,q _ G H (Grow.refl g) (.scl (hs _ _))⟩
  · cases e
theorem zds {C : Int→Int→Prop} [∀ a b,Decidable (C a b)] {gv : Int→Int→V} {gd : Int→Int→D} (hs : ∀ i j,Scl (gv i j) (gd i j)) : OpD K (rI C gv) (zfH C gd) := by
  intro G H v1 v2 d1 d2 d Q g r1 r2 e q
  unfold zfH at e
  split at e
  · split at e
    · rename_i hc
      cases e
      exact ⟨_,_,r1.int g,r2.int g,hc,q _ G H (Grow.refl g) (.scl (hs _ _))⟩
    · cases e
  · cases e
end
noncomputable abbrev subI : D→D→Option D := zi1 fun a b => .int (a - b)
noncomputable abbrev mulI : D→D→Option D := zfH CMul fun a b => .int (a * b)
noncomputable abbrev zi2 : D→D→Option D := zfH CDiv fun a b => .int (a / b)
noncomputable abbrev modI : D→D→Option D := zfH (fun _ b => 0 < b) fun a b => .int (a % b)
noncomputable abbrev powI : D→D→Option D := zfH CPow fun a b => .int (a ^ b.toNat)
noncomputable abbrev ltI : D→D→Option D := zi1 fun a b => .bl (decide (a < b))
noncomputable abbrev gtI : D→D→Option D := zi1 fun a b => .bl (decide (b < a))
section
variable {X : Cx} {g : GE} {m : List Md} {e a b c : Expr} {f fa fb fc : FE} {pos : Pos}
theorem zpk (ha : SB X g m a fa) (hb : SB X g m b fb) : SE X g m (.BinOp a .Sub b pos) (f2 fa fb subI) := zgb zp0 (zfk fun _ _ => .int _) ha hb
theorem zhB (ha : SB X g m a fa) (hb : SB X g m b fb) : SE X g m (.BinOp a .Mult b pos) (f2 fa fb mulI) := zgb zp3 (zds fun _ _ => .int _) ha hb
theorem zmy (ha : SB X g m a fa) (hb : SB X g m b fb) : SE X g m (.BinOp a .FloorDiv b pos) (f2 fa fb zi2) := zgb zn5 (zds fun _ _ => .int _) ha hb
theorem zfh (ha : SB X g m a fa) (hb : SB X g m b fb) : SE X g m (.BinOp a .Mod b pos) (f2 fa fb modI) := zgb zp4 (zds fun _ _ => .int _) ha hb
theorem zry (ha : SB X g m a fa) (hb : SB X g m b fb) : SE X g m (.BinOp a .Pow b pos) (f2 fa fb powI) := zgb zp2 (zds fun _ _ => .int _) ha hb
theorem s_lt (ha : SB X g m a fa) (hb : SB X g m b fb) : SE X g m (.Compare a [.Lt] [b] pos) (f2 fa fb ltI) := zlo zp5 (zfk fun _ _ => .bl _) ha hb (zeH _)
theorem s_gt (ha : SB X g m a fa) (hb : SB X g m b fb) : SE X g m (.Compare a [.Gt] [b] pos) (f2 fa fb gtI) := zlo zp8 (zfk fun _ _ => .bl _) ha hb (zeH _)
theorem q_lt (ha : SB X g m a fa) (hb : SB X g m b fb) : SQ X g m (.Compare a [.Lt] [b] pos) (zaP (f2 fa fb ltI)) := zhE zp5 (zfk fun _ _ => .bl _) ha hb (zeH _)
theorem q_gt (ha : SB X g m a fa) (hb : SB X g m b fb) : SQ X g m (.Compare a [.Gt] [b] pos) (zaP (f2 fa fb gtI)) := zhE zp8 (zfk fun _ _ => .bl _) ha hb (zeH _)
noncomputable def f1 (fa : FE) (k : D→Option D) : FE := fun r => (fa r).bind fun d => opt (k d)
noncomputable def negI : D→Option D
  | .int a => some (.int (-a))
  | _ => none
@[simp] theorem negI_int (a : Int) : negI (.int a) = some (.int (-a)) := rfl
theorem zpn (ha : SB X g m a fa) : SE X g m (.UnaryOp .USub a pos) (f1 fa negI) := by
  refine PE.imp (zrE zoV ha) fun σ H Q ⟨r,G,si,q⟩ => ⟨r,G,si,zag (zah q) fun d q1 v G1 H1 w1 r1 => ?_⟩
  obtain ⟨d',e,q2⟩ := zaL q1
  cases d with
  | int i =>
    cases e
    exact ⟨i,r1.int w1.ok,q2 _ G1 H1 w1 (.scl (.int _))⟩
  | _ => cases e
noncomputable def truD : D→Option Bool
  | .non => some false
  | .bl b => some b
  | .int i => some (i != 0)
  | .str y => if y.length≤sizeLine then some ((y.length : Int) != 0) else none
  | .lst ds => some (! ds.isEmpty)
  | .tup ds => some (! ds.isEmpty)
  | .dic kvs => some (! kvs.isEmpty)
  | .obj _ _ => none
theorem zfm {α β : Type} {F : α→β→Prop} {l : List α} {r : List β} (h : Paired F l r) : l.isEmpty = r.isEmpty := by cases h <;> rfl
theorem znj {K : PySem.W.Frag} {G : GH} {H : Hp} {v : V} {d : D} {b : Bool} (gk : GOk K G H) (h : RB K G H v d) (e : truD d = some b) : TruV K v H b := by
  cases d with
  | non => cases e; rw [h.non gk]; rfl
  | bl b' => cases e; rw [h.bl gk]; rfl
  | int i => cases e; rw [h.int gk]; rfl
  | str y =>
    rw [h.str gk]
    have e' : (if y.length≤sizeLine then some ((y.length : Int) != 0) else none) = some b := e
    by_cases hy : y.length≤sizeLine
    · rw [if_pos hy] at e'; cases e'; exact ⟨hy,rfl⟩
    · rw [if_neg hy] at e'; cases e'
  | lst ds =>
    cases e
    obtain ⟨a,xs,rfl,s,r⟩ := h.lst gk
    exact .inl ⟨xs,s,by rw [zfm r]⟩
  | tup ds =>
    cases e
    obtain ⟨a,xs,rfl,s,r⟩ := h.tup gk
    exact .inr (.inl ⟨xs,s,by rw [zfm r]⟩)
  | dic kvs =>
    cases e
    obtain ⟨a,xs,rfl,s,r⟩ := h.dic gk
    exact .inr (.inr ⟨xs,s,by rw [zfm r]⟩)
  | obj _ _ => cases e
noncomputable def fTru (f : FE) : Rho→Res Bool := fun r => (f r).bind fun d => opt (truD d)
theorem zcv (ha : SB X g m a fa) (he : ∀ whole,isTrue a X.env whole = (do let v ← whole; standAt a.pos; holding [v] (truthy v)) := by intro _; rfl) : SQ X g m a (fTru fa) := by
  refine PT.imp (zlz ha he) fun σ H Q ⟨r,G,si,q⟩ => ⟨r,G,si,zag (zah q) fun d q1 v G1 H1 w1 r1 => ?_⟩
  obtain ⟨b,e,q2⟩ := zaL q1
  exact ⟨b,znj w1.ok r1 e,q2 G1 H1 w1⟩
noncomputable abbrev FQ := Rho→Res Bool
noncomputable def fAnd (p q : FQ) : FQ := fun r => (p r).bind fun c => if c = true then q r else .ok false
noncomputable def fOr (p q : FQ) : FQ := fun r => (p r).bind fun c => if c = true then .ok true else q r
noncomputable def fNot (p : FQ) : FQ := fun r => (p r).bind fun c => .ok (! c)
variable {p q : FQ} {rest : List Expr}
theorem zrY {α : Type} {r : Res α} {q : α→Prop} {x x' : D→Prop} (h : fin r q x) (hx : ∀ e,x e→x' e) : fin r q x' := by
  cases r with
  | ok a => exact h
  | exc e => exact hx e h
  | stuck => exact h
theorem zbb {α : Type} {r : Res α} {σ : L2.St} {G G1 : GH} {H H1 : Hp} {P P' : α→Prop} (h : fin r P (XW X σ G H)) (w : Grow X.K G H G1 H1) (hp : ∀ a,P a→P' a) : fin r P' (XW X σ G1 H1) := zrY (zag h hp) fun _ x => x.grow w
theorem zpJ (ha : SQ X g m a p) : SW X g m (.BoolOp .And [a] pos) p := znN ha
theorem zeV (ha : SQ X g m a p) : SW X g m (.BoolOp .Or [a] pos) p := zpK ha
theorem zrB (ha : SQ X g m a p) (hb : SW X g m (.BoolOp .And (b::rest) pos) q) : SW X g m (.BoolOp .And (a::b::rest) pos) (fAnd p q) := by
  refine PW.imp (zpL ha hb) fun σ H Q ⟨r,G,si,k⟩ => ⟨r,G,si,zag (zah k) fun c k1 G1 H1 w1 => ?_⟩
  cases c with
  | true => rw [if_pos rfl] at k1 ⊢; exact ⟨r,G1,si.grow w1,zbb k1 w1 fun b z G' H' w' => z G' H' (w1.trans w')⟩
  | false => rw [if_neg Bool.false_ne_true] at k1 ⊢; exact k1 G1 H1 w1
theorem q_or (ha : SQ X g m a p) (hb : SW X g m (.BoolOp .Or (b::rest) pos) q) : SW X g m (.BoolOp .Or (a::b::rest) pos) (fOr p q) := by
  refine PW.imp (zrC ha hb) fun σ H Q ⟨r,G,si,k⟩ => ⟨r,G,si,zag (zah k) fun c k1 G1 H1 w1 => ?_⟩
  cases c with
  | true => rw [if_pos rfl] at k1 ⊢; exact k1 G1 H1 w1
  | false => rw [if_neg Bool.false_ne_true] at k1 ⊢; exact ⟨r,G1,si.grow w1,zbb k1 w1 fun b z G' H' w' => z G' H' (w1.trans w')⟩
theorem SW.toQ (h : SW X g m e p) : SQ X g m e p := PW.pt h
theorem zdg (ha : SQ X g m a p) : SQ X g m (.UnaryOp .Not a pos) (fNot p) :=
  PT.imp (zpN ha) fun σ H Q ⟨r,G,si,k⟩ => ⟨r,G,si,zag (zah k) fun c k1 G1 H1 w1 => k1 G1 H1 w1⟩
noncomputable def vAnd (fa fb : FE) : FE := fun r => (fa r).bind fun d => (opt (asB d)).bind fun c => if c = true then fb r else .ok (.bl false)
noncomputable def vOr (fa fb : FE) : FE := fun r => (fa r).bind fun d => (opt (asB d)).bind fun c => if c = true then .ok (.bl true) else fb r
noncomputable def vNot (fa : FE) : FE := fun r => (fa r).bind fun d => (opt (asB d)).bind fun c => .ok (.bl (! c))
theorem zll {op} (h : SE X g m a fa) : SE X g m (.BoolOp op [a] pos) fa := zpR h
theorem zlp (ha : SE X g m a fa) (hb : SE X g m (.BoolOp .And (b::rest) pos) fb) : SE X g m (.BoolOp .And (a::b::rest) pos) (vAnd fa fb) := by
  refine PE.imp (zpX ha hb) fun σ H Q ⟨r,G,si,k⟩ => ⟨r,G,si,zag (zah k) fun d k1 v G1 H1 w1 r1 => ?_⟩
  obtain ⟨c,e,k2⟩ := zaL (zah k1)
  cases d with
  | bl c' =>
    cases e
    refine ⟨_,r1.bl w1.ok,?_⟩
    cases c with
    | true => rw [if_pos rfl] at k2 ⊢; exact ⟨r,G1,si.grow w1,zbb k2 w1 fun b z v G' H' w' => z v G' H' (w1.trans w')⟩
    | false => rw [if_neg Bool.false_ne_true] at k2 ⊢; exact k2 _ G1 H1 w1 (.scl (.bl _))
  | _ => cases e
theorem zpl (ha : SE X g m a fa) : SE X g m (.UnaryOp .Not a pos) (vNot fa) := by
  refine PE.imp (zpS ha) fun σ H Q ⟨r,G,si,k⟩ => ⟨r,G,si,zag (zah k) fun d k1 v G1 H1 w1 r1 => ?_⟩
  obtain ⟨c,e,k2⟩ := zaL (zah k1)
  cases d with
  | bl c' => cases e; exact ⟨_,r1.bl w1.ok,k2 _ G1 H1 w1 (.scl (.bl _))⟩
  | _ => cases e
noncomputable def fIf (p : FQ) (fa fb : FE) : FE := fun r => (p r).bind fun c => if c = true then fa r else fb r
variable {es : List Expr} {fl fr : Rho → Res (List D)}
noncomputable def lNil : Rho→Res (List D) := fun _ => .ok []
noncomputable def zab (fa : FE) (fl : Rho→Res (List D)) : Rho→Res (List D) := fun r => (fa r).bind fun d => (fl r).bind fun ds => .ok (d::ds)
theorem zcM : SA X g m [] lNil := PA.imp zfP fun σ H Q ⟨r,G,si,k⟩ => k [] G H (Grow.refl si.gok) .nil
theorem zaM (ha : SE X g m e fa) (hr : SA X g m es fl) (hs : starEach (e::es) X.env = (false,eval e X.env)::starEach es X.env := by rfl) : SA X g m (e::es) (zab fa fl) := by
  refine PA.imp (zcT ha hr hs) fun σ H Q ⟨r,G,si,k⟩ => ⟨r,G,si,zag (zah k) fun d k1 v G1 H1 w1 r1 => ⟨r,G1,si.grow w1,?_⟩⟩
  exact zbb (zah k1) w1 fun ds z vs G2 H2 w2 r2 => z (v::vs) G2 H2 (w1.trans w2) (.cons (r1.mono w2.ge) r2)
theorem zaS : SAB X g m [] lNil := PA.imp zfP fun σ H Q ⟨r,G,si,k⟩ => k [] G H (Grow.refl si.gok) .nil
theorem zau (ha : SB X g m e fa) (hr : SAB X g m es fl) (hs : starEach (e::es) X.env = (false,eval e X.env)::starEach es X.env := by rfl) : SAB X g m (e::es) (zab fa fl) := by
  refine PA.imp (zcT ha hr hs) fun σ H Q ⟨r,G,si,k⟩ => ⟨r,G,si,zag (zah k) fun d k1 v G1 H1 w1 r1 => ⟨r,G1,si.grow w1,?_⟩⟩
  exact zbb (zah k1) w1 fun ds z vs G2 H2 w2 r2 => z (v::vs) G2 H2 (w1.trans w2) (.cons (r1.mono w2) r2)
noncomputable def sz (ds : List D) : Option (List D) := if ds.length≤sizeLine then some ds else none
theorem zlf {ds ds' : List D} (h : sz ds = some ds') : ds' = ds∧ds.length≤sizeLine := by
  unfold sz at h; split at h
  · rename_i hl; cases h; exact ⟨rfl,hl⟩
  · cases h
theorem zrs {ds : List D} (h : ds.length≤sizeLine) : sz ds = some ds := if_pos h
noncomputable def mkT (fl : Rho→Res (List D)) : FE := fun r => (fl r).bind fun ds => (opt (sz ds)).bind fun ds => .ok (.tup ds)
noncomputable def mkL (fl : Rho→Res (List D)) : FE := fun r => (fl r).bind fun ds => (opt (sz ds)).bind fun ds => .ok (.lst ds)
theorem zeU {x1} (h : SA X g m es fl) : SE X g m (.Tuple es x1 pos) (mkT fl) := by
  refine PE.imp (zmE h) fun σ H Q ⟨r,G,si,k⟩ => ⟨r,G,si,zag (zah k) fun ds k1 vs G1 H1 w1 r1 => ?_⟩
  obtain ⟨ds',e,k2⟩ := zaL (zah k1)
  obtain ⟨rfl,hl⟩ := zlf e
  have hlen := Paired.length r1
  refine ⟨by omega,fun p hp => ?_⟩
  exact k2 _ _ _ (w1.trans (Grow.newF (d := .tup ds') w1.ok hp (.tup (.inl zao) r1))) (.ref zas)
theorem zlL (h : SA X g m es fl) : SO X g m (.List es pos) (mkL fl) := by
  refine PE.imp (zpU h) fun σ H Q ⟨r,G,si,k⟩ => ⟨r,G,si,zag (zah k) fun ds k1 vs G1 H1 w1 r1 => ?_⟩
  obtain ⟨ds',e,k2⟩ := zaL (zah k1)
  obtain ⟨rfl,hl⟩ := zlf e
  have hlen := Paired.length r1
  refine ⟨by omega,fun p hp => ?_⟩
  have hn : H p = none := by
    cases q : H p with
    | none => rfl
    | some o => rw [w1.he _ _ q] at hp; cases hp
  exact k2 p G1 _ (w1.trans (Grow.new w1.ok hp _)) hn ⟨w1.ok.isN hp,.lst zao r1⟩
end
end DL
end
section
namespace DL
open PySem PySem.Spec PyProof.Rows L2
noncomputable def zjd (K : PySem.W.Frag) (r : List V→Hp→VK→Prop) (k : List D→Option D) : Prop := ∀ (G : GH) (H : Hp) (vs : List V) (ds : List D) (d : D) (Q : VK),GOk K G H→Paired (RB K G H) vs ds→k ds = some d →
  (∀ v G' H',Grow K G H G' H'→RG K G' v d→Q v H')→r vs H Q
noncomputable def zrc (K : PySem.W.Frag) (r : List V→Hp→VK→Prop) (k : List D→Option D) : Prop := ∀ (G : GH) (H : Hp) (vs : List V) (ds : List D) (d : D) (Q : VK),GOk K G H→Paired (RB K G H) vs ds→k ds = some d →
  (∀ a G' H',Grow K G H G' H'→H a = none→Own K G' H' a d→Q (.ref a) H')→r vs H Q
noncomputable def fC (fl : Rho→Res (List D)) (k : List D→Option D) : FE := fun r => (fl r).bind fun ds => opt (k ds)
theorem Grow.back {K : PySem.W.Frag} {G G1 : GH} {H H1 : Hp} (w : Grow K G H G1 H1) {a : Addr} (hn : H1 a = none) : H a = none := by
  cases q : H a with
  | none => rfl
  | some o => rw [w.he _ _ q] at hn; cases hn
section
variable {X : Cx} {g : GE} {m : List Md} {e a b c : Expr} {f fa fb fc : FE} {pos p p2 : Pos} {es : List Expr} {fl : Rho → Res (List D)} {x : Str} {id T : String} {R : List V → Hp → VK → Prop} {k : List D → Option D}
theorem s_cb (hk : zjd X.K R k) (h : PE X e (tCB R (tLB X g m fl))) : SE X g m e (fC fl k) := by
  refine PE.imp h fun σ H Q ⟨r,G,si,q⟩ => ⟨r,G,si,zag (zah q) fun ds q1 vs G1 H1 w1 r1 => ?_⟩
  obtain ⟨d,e,q2⟩ := zaL q1
  exact hk G1 H1 vs ds d Q w1.ok r1 e fun v G' H' w' z => q2 v G' H' (w1.trans w') z
theorem zpp (hk : zrc X.K R k) (h : PE X e (tCB R (tLB X g m fl))) : SO X g m e (fC fl k) := by
  refine PE.imp h fun σ H Q ⟨r,G,si,q⟩ => ⟨r,G,si,zag (zah q) fun ds q1 vs G1 H1 w1 r1 => ?_⟩
  obtain ⟨d,e,q2⟩ := zaL q1
  exact hk G1 H1 vs ds d Q w1.ok r1 e fun v G' H' w' hn z => q2 v G' H' (w1.trans w') (w1.back hn) z
noncomputable def lenD : List D→Option D
  | [.str y] => if y.length≤sizeLine then some (.int y.length) else none
  | [.lst ds] => some (.int ds.length)
  | [.tup ds] => some (.int ds.length)
  | [.dic kvs] => some (.int kvs.length)
  | _ => none
theorem zqn {K : PySem.W.Frag} : zjd K (fun xs H Q => (∃ x n,xs = [x]∧LenV K x H n∧Q (.int n) H)∨∃ a kvs,xs = [V.ref a]∧Rd H a (.dK kvs)∧Q (.int kvs.length) H) lenD := by
  intro G H vs ds d Q gk rs e q
  unfold lenD at e
  split at e
  · split at e
    · cases e
      cases rs with
      | cons r t => cases t; exact .inl ⟨_,_,rfl,by rw [r.str gk]; exact ⟨by assumption,rfl⟩,q _ G H (Grow.refl gk) (.scl (.int _))⟩
    · cases e
  · cases e
    cases rs with
    | cons r t =>
      cases t
      obtain ⟨a,xs,rfl,s,r⟩ := r.lst gk
      have := Paired.length r
      exact .inl ⟨_,_,rfl,.inl ⟨xs,s,rfl⟩,q _ G H (Grow.refl gk) (.scl (by rw [this]; exact .int _))⟩
  · cases e
    cases rs with
    | cons r t =>
      cases t
      obtain ⟨a,xs,rfl,s,r⟩ := r.tup gk
      have := Paired.length r
      exact .inl ⟨_,_,rfl,.inr ⟨xs,s,rfl⟩,q _ G H (Grow.refl gk) (.scl (by rw [this]; exact .int _))⟩
  · cases e
    cases rs with
    | cons r t =>
      cases t
      obtain ⟨a,xs,rfl,s,r⟩ := r.dic gk
      have := Paired.length r
      exact .inr ⟨_,_,rfl,s,q _ G H (Grow.refl gk) (.scl (by rw [this]; exact .int _))⟩
  · cases e
theorem zdF (hg : Gl X "len") (hm : X.mg "len" = none) (ha : SAB X g m (e::es) fl) (he : starEach (e::es) X.env = (false,eval e X.env)::starEach es X.env := by rfl) (hpl : (backTo pos (starEach es X.env)).any (·.1) = false := by rfl) :
    SE X g m (.Call (.Name "len" p) (e::es) [] pos) (fC fl lenD) := s_cb zqn (zdr (zdh.or zmf zkX) hg hm PySem.boot_len ha (by decide) (by decide) he hpl)
noncomputable def zgZ : List D→Option D
  | [.lst ds] => some (.lst ds)
  | [.tup ds] => some (.lst ds)
  | _ => none
theorem zoq {K : PySem.W.Frag} : zrc K (fun xs H Q => ∃ p ys,xs = [.ref p]∧(SqL K H p ys∨SqT K H p ys)∧∀ l,H l = none→Q (.ref l) (upd H l (.lst ys))) zgZ := by
  intro G H vs ds d Q gk rs e q
  have fin : ∀ {ys : List V} {zs : List D},RGs K G ys zs→(∀ (a : Addr) (G' : GH) (H' : Hp),Grow K G H G' H'→H a = none→Own K G' H' a (.lst zs)→Q (.ref a) H')→∀ l,H l = none→Q (.ref l) (upd H l (.lst ys)) :=
    fun r q l hl => q l G _ (Grow.new gk hl _) hl ⟨gk.isN hl,.lst zao r⟩
  unfold zgZ at e
  split at e
  · cases e
    cases rs with
    | cons r t =>
      cases t
      obtain ⟨a,xs,rfl,s,r⟩ := r.lst gk
      exact ⟨a,xs,rfl,.inl s,fin r q⟩
  · cases e
    cases rs with
    | cons r t =>
      cases t
      obtain ⟨a,xs,rfl,s,r⟩ := r.tup gk
      exact ⟨a,xs,rfl,.inr s,fin r q⟩
  · cases e
theorem zmR (hg : Gl X "list") (hm : X.mg "list" = none) (ha : SAB X g m (e::es) fl) (he : starEach (e::es) X.env = (false,eval e X.env)::starEach es X.env := by rfl) (hpl : (backTo pos (starEach es X.env)).any (·.1) = false := by rfl) :
    SO X g m (.Call (.Name "list" p) (e::es) [] pos) (fC fl zgZ) := zpp zoq (zec zhj hg hm rfl ha (by decide) (by decide) he hpl)
noncomputable def tupD : List D→Option D
  | [.lst ds] => some (.tup ds)
  | [.tup ds] => some (.tup ds)
  | _ => none
theorem zoZ {K : PySem.W.Frag} : zjd K (fun xs H Q => ∃ p ys,xs = [.ref p]∧((SqL K H p ys∧∀ l,H l = none→Q (.ref l) (upd H l (.tup ys)))∨(SqT K H p ys∧Q (.ref p) H))) tupD := by
  intro G H vs ds d Q gk rs e q
  unfold tupD at e
  split at e
  · cases e
    cases rs with
    | cons r t =>
      cases t
      obtain ⟨a,xs,rfl,s,r⟩ := r.lst gk
      exact ⟨a,xs,rfl,.inl ⟨s,fun l hl => q _ _ _ (Grow.newF gk hl (.tup (.inl zao) r)) (.ref zas)⟩⟩
  · cases e
    cases rs with
    | cons r t =>
      cases t
      rcases r with r | ⟨a,_,o⟩
      · obtain ⟨a,xs,rfl,s,r'⟩ := r.tup gk
        exact ⟨a,xs,rfl,.inr ⟨s,q _ G H (Grow.refl gk) r⟩⟩
      · cases o.ob
  · cases e
theorem zdi (hg : Gl X "tuple") (hm : X.mg "tuple" = none) (ha : SAB X g m (e::es) fl) (he : starEach (e::es) X.env = (false,eval e X.env)::starEach es X.env := by rfl) (hpl : (backTo pos (starEach es X.env)).any (·.1) = false := by rfl) :
    SE X g m (.Call (.Name "tuple" p) (e::es) [] pos) (fC fl tupD) := s_cb zoZ (zec zgq hg hm rfl ha (by decide) (by decide) he hpl)
noncomputable def ixD : D→D→Option D
  | .lst ds,.int i => atI ds i
  | .tup ds,.int i => atI ds i
  | .str z,.int i => if z.length≤sizeLine then (atI z.cps.toList i).map fun c => .str ⟨#[c]⟩ else none
  | _,_ => none
theorem zq3 {K : PySem.W.Frag} {G : GH} {xs : List V} {ds : List D} {i : Int} {d : D} (r : RGs K G xs ds) (h : atI ds i = some d) : ∃ v,atI xs i = some v∧RG K G v d := by
  unfold atI at h ⊢
  rw [Paired.length r]
  cases e : ixN ds.length i with
  | none => rw [e] at h; cases h
  | some j =>
    rw [e] at h
    exact Paired.get r h
theorem zot {K : PySem.W.Frag} : OpD K (rIx K) ixD := by
  intro G H v1 v2 d1 d2 d Q gk r1 r2 e q
  unfold ixD at e
  split at e
  · obtain ⟨a,xs,rfl,s,r⟩ := r1.lst gk
    obtain ⟨v,ev,rv⟩ := zq3 r e
    exact .inl ⟨a,xs,_,v,rfl,r2.int gk,s,ev,q v G H (Grow.refl gk) rv⟩
  · obtain ⟨a,xs,rfl,s,r⟩ := r1.tup gk
    obtain ⟨v,ev,rv⟩ := zq3 r e
    exact .inr (.inl ⟨a,xs,_,v,rfl,r2.int gk,s,ev,q v G H (Grow.refl gk) rv⟩)
  · split at e
    · rename_i z i hz
      cases ec : atI z.cps.toList i with
      | none => rw [ec] at e; cases e
      | some c =>
        rw [ec] at e; cases e
        exact .inr (.inr ⟨z,i,c,r1.str gk,r2.int gk,hz,ec,q _ G H (Grow.refl gk) (.scl (.str _))⟩)
    · cases e
  · cases e
noncomputable def cutL {α : Type} (xs : List α) (lo hi : Option Int) : List α := (xs.drop (HT.sIx xs.length 0 lo)).take (HT.sIx xs.length xs.length hi - HT.sIx xs.length 0 lo)
theorem zq0 {α β : Type} {F : α→β→Prop} {xs : List α} {ds : List β} (r : Paired F xs ds) (lo hi : Option Int) : Paired F (cutL xs lo hi) (cutL ds lo hi) := by
  unfold cutL
  rw [Paired.length r]
  exact Paired.tk _ (Paired.dr _ r)
noncomputable abbrev FP := Rho→Res (Option Int)
noncomputable def tP (X : Cx) (g : GE) (m : List Md) (f : FP) : TO := fun σ H Q => ∃ r G,SI X g m r G σ H∧fin (f r) (fun o => ∀ G' H',Grow X.K G H G' H'→Q o H') (XW X σ G H)
noncomputable def SP1 (X : Cx) (g : GE) (m : List Md) (e : Option Expr) (f : FP) : Prop := PO X e (tP X g m f)
theorem PO.imp {X : Cx} {e : Option Expr} {t t' : TO} (h : PO X e t) (i : ∀ σ H Q,t' σ H Q→t σ H Q) : PO X e t' := fun pins s σ H Q I q => h pins s σ H Q I (i σ H Q q)
noncomputable def asI : D→Option Int
  | .int i => some i
  | _ => none
noncomputable def zl8 (f : FE) : FP := fun r => (f r).bind fun d => (opt (asI d)).bind fun i => .ok (some i)
theorem zpZ : SP1 X g m none fun _ => .ok none := PO.imp znR fun σ H Q ⟨r,G,si,q⟩ => q G H (Grow.refl si.gok)
theorem zpY (h : SB X g m e f) : SP1 X g m (some e) (zl8 f) := by
  refine PO.imp (znQ h) fun σ H Q ⟨r,G,si,q⟩ => ⟨r,G,si,zag (zah q) fun d q1 v G1 H1 w1 r1 => ?_⟩
  obtain ⟨i,e,q2⟩ := zaL (zah q1)
  cases d with
  | int j => cases e; exact ⟨_,r1.int w1.ok,q2 G1 H1 w1⟩
  | _ => cases e
end
end DL
end
section
namespace DL
open PySem PySem.Spec PyProof.Rows L2
inductive Out where
  | nx (r : Rho) | rt (d : D) | bk (r : Rho) | ct (r : Rho) | exc (x : D) (r : Rho) | stuck
noncomputable abbrev FS := Rho→Out
noncomputable def Gle (G G' : GH) : Prop := ∀ a d,G a = some d→G' a = some d
theorem Gle.refl (G : GH) : Gle G G := fun _ _ e => e
theorem Gle.trans {G G1 G2 : GH} (a : Gle G G1) (b : Gle G1 G2) : Gle G G2 := fun x d e => b x d (a x d e)
noncomputable def forget (m : List Md) (r : Rho) : Rho := List.zipWith (fun md o => if md = Md.sh then o else none) m r
noncomputable def zfJ (m : List Md) : List Md := m.map fun _ => Md.sh
theorem zcL {m : List Md} {r : Rho} {i : Nat} {d : D} (h : (forget m r)[i]? = some (some d)) : r[i]? = some (some d)∧m[i]? = some .sh := by
  unfold forget at h
  rw [List.getElem?_zipWith] at h
  cases e1 : m[i]? with
  | none => rw [e1] at h; cases h
  | some md =>
    cases e2 : r[i]? with
    | none => rw [e1,e2] at h; cases h
    | some o =>
      rw [e1,e2] at h
      have h' : (if md = Md.sh then o else none) = some d := Option.some.inj h
      split at h'
      · rename_i hm; subst hm; rw [h']; exact ⟨rfl,rfl⟩
      · cases h'
section
variable {X : Cx} {g : GE} {m : List Md} {r : Rho} {G : GH} {st : L2.St} {H : Hp}
theorem SI.forget (s : SI X g m r G st H) : SI X g (zfJ m) (forget m r) G st H where
  gok := s.gok
  old := s.old
  ge := s.ge
  gf := s.gf
  lm := by rw [zfJ,List.length_map]; exact s.lm
  lr := by rw [DL.forget,List.length_zipWith,s.lm,s.lr,Nat.min_self]
  sh := fun i d h _ => s.sh i d (zcL h).1 (zcL h).2
  ow := fun i d h hm => by rw [zfJ,List.getElem?_map,(zcL h).2] at hm; cases hm
  bw := fun i d h hm => by rw [zfJ,List.getElem?_map,(zcL h).2] at hm; cases hm
  dis := fun i j a d e _ h _ hm => by rw [zfJ,List.getElem?_map,(zcL h).2] at hm; cases hm
  lk := fun i o _ hm => by rw [zfJ,List.getElem?_map] at hm; cases q : m[i]? <;> rw [q] at hm <;> cases hm
theorem SI.set (s : SI X g m r G st H) (i : Nat) {v : V} {d : D} (hv : RG X.K G v d) : SI X g (m.set i .sh) (r.set i (some d)) G (st.set i (some v)) H where
  gok := s.gok
  old := s.old
  ge := s.ge
  gf := s.gf
  lm := by simp [s.lm]
  lr := by simp [s.lr]
  sh := fun j e h hm => by
    by_cases hij : i = j
    · subst hij
      have hl : i < r.length := by
        have := (List.getElem?_eq_some_iff.mp h).1
        simpa using this
      rw [List.getElem?_set_self hl] at h
      cases h
      exact ⟨v,by rw [List.getElem?_set_self (by rw [← s.lr]; exact hl)],hv⟩
    · rw [List.getElem?_set_ne hij] at h hm
      rw [List.getElem?_set_ne hij]
      exact s.sh j e h hm
  ow := fun j e h hm => by
    by_cases hij : i = j
    · subst hij
      have hl : i < m.length := by
        have := (List.getElem?_eq_some_iff.mp hm).1
        simpa using this
      rw [List.getElem?_set_self hl] at hm; cases hm
    · rw [List.getElem?_set_ne hij] at h hm
      rw [List.getElem?_set_ne hij]
      exact s.ow j e h hm
  bw := fun j e h hm => by
    by_cases hij : i = j
    · subst hij
      have hl : i < m.length := by
        have := (List.getElem?_eq_some_iff.mp hm).1
        simpa using this
      rw [List.getElem?_set_self hl] at hm; cases hm
    · rw [List.getElem?_set_ne hij] at h hm
      rw [List.getElem?_set_ne hij]
      exact s.bw j e h hm
  dis := fun j k a d1 d2 hjk h1 h2 hm hm' q1 q2 => by
    have hij : i≠j := by
      rintro rfl
      have hl : i < m.length := by
        have := (List.getElem?_eq_some_iff.mp hm).1
        simpa using this
      rw [List.getElem?_set_self hl] at hm; cases hm
    have hik : i≠k := by
      rintro rfl
      have hl : i < m.length := by
        have := (List.getElem?_eq_some_iff.mp h2).1
        rw [List.length_set,s.lr,← s.lm] at this; exact this
      rw [List.getElem?_set_self hl] at hm'; cases hm'
    rw [List.getElem?_set_ne hij] at h1 hm q1
    rw [List.getElem?_set_ne hik] at h2 hm' q2
    exact s.dis j k a d1 d2 hjk h1 h2 hm hm' q1 q2
  lk := fun j o hj hm => by
    have hij : i≠j := by
      rintro rfl
      have hl : i < m.length := by
        have := (List.getElem?_eq_some_iff.mp hm).1
        simpa using this
      rw [List.getElem?_set_self hl] at hm; cases hm
    rw [List.getElem?_set_ne hij] at hm
    have := s.lk j o hj hm
    exact ⟨by rw [List.getElem?_set_ne hij]; exact this.1,fun d h => this.2 d (by rw [List.getElem?_set_ne hij] at h; exact h)⟩
theorem SI.setO (s : SI X g m r G st H) (i : Nat) {a : Addr} {d : D} (ho : Own X.K G H a d) (h0 : g.h0 a = none) (hx : ∀ (j : Nat) (b : Addr) (e : D),r[j]? = some (some e)→m[j]? = some Md.ow→st[j]? = some (some (V.ref b))→b≠a) :
    SI X g (m.set i .ow) (r.set i (some d)) G (st.set i (some (V.ref a))) H where
  gok := s.gok
  old := s.old
  ge := s.ge
  gf := s.gf
  lm := by simp [s.lm]
  lr := by simp [s.lr]
  sh := fun j e h hm => by
    by_cases hij : i = j
    · subst hij
      have hl : i < m.length := by
        have := (List.getElem?_eq_some_iff.mp hm).1
        simpa using this
      rw [List.getElem?_set_self hl] at hm; cases hm
    · rw [List.getElem?_set_ne hij] at h hm
      rw [List.getElem?_set_ne hij]
      exact s.sh j e h hm
  ow := fun j e h hm => by
    by_cases hij : i = j
    · subst hij
      have hl : i < r.length := by
        have := (List.getElem?_eq_some_iff.mp h).1
        simpa using this
      rw [List.getElem?_set_self hl] at h
      cases h
      exact ⟨a,by rw [List.getElem?_set_self (by rw [← s.lr]; exact hl)],ho,h0⟩
    · rw [List.getElem?_set_ne hij] at h hm
      rw [List.getElem?_set_ne hij]
      exact s.ow j e h hm
  bw := fun j e h hm => by
    by_cases hij : i = j
    · subst hij
      have hl : i < m.length := by
        have := (List.getElem?_eq_some_iff.mp hm).1
        simpa using this
      rw [List.getElem?_set_self hl] at hm; cases hm
    · rw [List.getElem?_set_ne hij] at h hm
      rw [List.getElem?_set_ne hij]
      exact s.bw j e h hm
  dis := fun j k b d1 d2 hjk h1 h2 hm hm' q1 q2 => by
    by_cases hij : i = j
    · subst hij
      rw [List.getElem?_set_ne hjk] at h2 hm' q2
      have hl : i < st.length := by
        have := (List.getElem?_eq_some_iff.mp q1).1
        simpa using this
      rw [List.getElem?_set_self hl] at q1
      have e : a = b := by injection q1 with q1; injection q1 with q1; injection q1
      exact hx k b d2 h2 hm' q2 e.symm
    · by_cases hik : i = k
      · subst hik
        rw [List.getElem?_set_ne hij] at h1 hm q1
        have hl : i < st.length := by
          have := (List.getElem?_eq_some_iff.mp q2).1
          simpa using this
        rw [List.getElem?_set_self hl] at q2
        have e : a = b := by injection q2 with q2; injection q2 with q2; injection q2
        exact hx j b d1 h1 hm q1 e.symm
      · rw [List.getElem?_set_ne hij] at h1 hm q1
        rw [List.getElem?_set_ne hik] at h2 hm' q2
        exact s.dis j k b d1 d2 hjk h1 h2 hm hm' q1 q2
  lk := fun j o hj hm => by
    have hij : i≠j := by
      rintro rfl
      have hl : i < m.length := by
        have := (List.getElem?_eq_some_iff.mp hm).1
        simpa using this
      rw [List.getElem?_set_self hl] at hm; cases hm
    rw [List.getElem?_set_ne hij] at hm
    have := s.lk j o hj hm
    exact ⟨by rw [List.getElem?_set_ne hij]; exact this.1,fun d h => this.2 d (by rw [List.getElem?_set_ne hij] at h; exact h)⟩
theorem SI.other (s : SI X g m r G st H) {p : Addr} (hp : G p = none) (h0 : g.h0 p = none) (hm : ∀ (i : Nat),m[i]?≠some Md.ow) (o : HO) : SI X g m r G st (upd H p o) where
  gok := fun b e h => (s.gok b e h).mono (fun _ _ z => z) fun o' q => by rw [zan (by rintro rfl; rw [hp] at h; cases h)]; exact q
  old := fun b o' h => by rw [zan (by rintro rfl; rw [h0] at h; cases h)]; exact s.old b o' h
  ge := s.ge
  gf := s.gf
  lm := s.lm
  lr := s.lr
  sh := s.sh
  ow := fun i d _ h => absurd h (hm i)
  bw := fun i d h1 h2 => by
    obtain ⟨v,h3,h4⟩ := s.bw i d h1 h2
    refine ⟨v,h3,?_⟩
    rcases h4 with h4 | ⟨a,rfl,h4,h5⟩
    · exact .inl h4
    · have ha : a≠p := by rintro rfl; exact h5 h0
      exact .inr ⟨a,rfl,⟨h4.un,h4.ob.mono (fun _ _ z => z) fun o' z => by rw [zan ha]; exact z⟩,h5⟩
  dis := fun i j a d e _ _ _ h => absurd h (hm i)
  lk := s.lk
theorem SI.less (s : SI X g m r G st H) {r' : Rho} (hl : r'.length = r.length) (h : ∀ (i : Nat) d,r'[i]? = some (some d)→r[i]? = some (some d)) : SI X g m r' G st H :=
  ⟨s.gok,s.old,s.ge,s.gf,s.lm,hl.trans s.lr,fun i d a b => s.sh i d (h i d a) b,fun i d a b => s.ow i d (h i d a) b,fun i d a b => s.bw i d (h i d a) b,fun i j a d e n p q x y => s.dis i j a d e n (h i d p) (h j e q) x y,fun i o hi hm => by
    have := s.lk i o hi hm
    exact ⟨this.1,fun d hd => this.2 d (h i d hd)⟩⟩
theorem SI.held (s : SI X g m r G st H) {j : Nat} {b : Addr} {e : D} (h : r[j]? = some (some e)) (hm : m[j]? = some .ow) (hs : st[j]? = some (some (V.ref b))) : H b≠none := by
  obtain ⟨a,h1,h2,_⟩ := s.ow j e h hm
  rw [hs] at h1
  injection h1 with h1; injection h1 with h1; injection h1 with h1
  rw [h1]; exact h2.ob.isS
theorem SI.new (s : SI X g m r G st H) {a : Addr} (hn : H a = none) : g.h0 a = none := by
  cases q : g.h0 a with
  | none => rfl
  | some o => rw [s.old _ _ q] at hn; cases hn
theorem SI.setN (s : SI X g m r G st H) {G' : GH} {H' : Hp} (w : Grow X.K G H G' H') (i : Nat) {a : Addr} {d : D} (hn : H a = none) (ho : Own X.K G' H' a d) : SI X g (m.set i .ow) (r.set i (some d)) G' (st.set i (some (V.ref a))) H' := by
  refine (s.grow w).setO i ho ?_ fun j b e h1 h2 h3 => ?_
  · cases q : g.h0 a with
    | none => rfl
    | some o => rw [s.old _ _ q] at hn; cases hn
  · rintro rfl
    exact s.held h1 h2 h3 hn
theorem SI.mut (s : SI X g m r G st H) {i : Nat} {d : D} (hm : m[i]? = some .ow) (hd : r[i]? = some (some d)) :
    ∃ a,st[i]? = some (some (V.ref a))∧Own X.K G H a d∧∀ (o' : HO) (d' : D),OwnO X.K G (upd H a o') a d'→SI X g m (r.set i (some d')) G st (upd H a o') := by
  obtain ⟨a,h1,h2,h3⟩ := s.ow i d hd hm
  have hl : i < r.length := (List.getElem?_eq_some_iff.mp hd).1
  refine ⟨a,h1,h2,fun o' d' ob => ?_⟩
  have oth : ∀ (j : Nat) (b : Addr) (e : D),j≠i→r[j]? = some (some e)→m[j]? = some .ow→st[j]? = some (some (V.ref b))→b≠a := fun j b e hj q1 q2 q3 z => by
    subst z
    exact s.dis i j b d e (Ne.symm hj) hd q1 hm q2 h1 q3
  refine ⟨fun b e h => ?_,fun b o h => ?_,s.ge,s.gf,s.lm,by simp [s.lr],?_,?_,?_,?_,fun j o hj hm' => ?_⟩
  · have hb : b≠a := by rintro rfl; rw [h2.un] at h; cases h
    exact (s.gok b e h).mono (fun _ _ z => z) fun o q => by rw [zan hb]; exact q
  · have hb : b≠a := by rintro rfl; rw [h3] at h; cases h
    rw [zan hb]; exact s.old b o h
  · intro j e h hm'
    have hij : i≠j := by rintro rfl; rw [hm] at hm'; cases hm'
    rw [List.getElem?_set_ne hij] at h
    exact s.sh j e h hm'
  · intro j e h hm'
    by_cases hij : i = j
    · subst hij
      rw [List.getElem?_set_self hl] at h; cases h
      exact ⟨a,h1,⟨h2.un,ob⟩,h3⟩
    · rw [List.getElem?_set_ne hij] at h
      obtain ⟨b,q1,q2,q3⟩ := s.ow j e h hm'
      have hb := oth j b e (Ne.symm hij) h hm' q1
      exact ⟨b,q1,⟨q2.un,q2.ob.mono (fun _ _ z => z) fun o z => by rw [zan hb]; exact z⟩,q3⟩
  · intro j e h hm'
    have hij : i≠j := by rintro rfl; rw [hm] at hm'; cases hm'
    rw [List.getElem?_set_ne hij] at h
    obtain ⟨v,q1,q2⟩ := s.bw j e h hm'
    refine ⟨v,q1,?_⟩
    rcases q2 with q2 | ⟨b,rfl,q2,q3⟩
    · exact .inl q2
    · have hb : b≠a := by rintro rfl; exact q3 h3
      exact .inr ⟨b,rfl,⟨q2.un,q2.ob.mono (fun _ _ z => z) fun o z => by rw [zan hb]; exact z⟩,q3⟩
  · have bound : ∀ (j : Nat) e,(r.set i (some d'))[j]? = some (some e)→∃ e',r[j]? = some (some e') := fun j e h => by
      by_cases hij : i = j
      · subst hij; exact ⟨d,hd⟩
      · rw [List.getElem?_set_ne hij] at h; exact ⟨e,h⟩
    intro j k b d1 d2 hjk q1 q2 p1 p2 z1 z2
    obtain ⟨e1,q1⟩ := bound j d1 q1
    obtain ⟨e2,q2⟩ := bound k d2 q2
    exact s.dis j k b e1 e2 hjk q1 q2 p1 p2 z1 z2
  · have hij : i≠j := by rintro rfl; rw [hm] at hm'; cases hm'
    have := s.lk j o hj hm'
    exact ⟨this.1,fun d'' h => this.2 d'' (by rw [List.getElem?_set_ne hij] at h; exact h)⟩
end
noncomputable def RV (ro : Bool) (K : PySem.W.Frag) (H0 : Hp) (G : GH) (H : Hp) (v : V) (d : D) : Prop := match ro with
  | false => RG K G v d
  | true => (∃ a,v = .ref a∧H0 a = none∧Own K G H a d)∨(d = .non∧v = .non)
noncomputable def oTo (X : Cx) (g : GE) (ro : Bool) (m' mb : List Md) (G : GH) (D : Ends) : Out→Prop
  | .nx r' => ∀ σ' G' H',Gle G G'→SI X g m' r' G' σ' H'→D.nx σ' H'
  | .rt d => ∀ v G' H',Grow X.K g.gh g.h0 G' H'→RV ro X.K g.h0 G' H' v d→D.rt v H'
  | .bk r' => ∀ σ' G' H',Gle G G'→SI X g mb r' G' σ' H'→D.bk σ' H'
  | .ct r' => ∀ σ' G' H',Gle G G'→SI X g mb r' G' σ' H'→D.ct σ' H'
  | .exc x r' => ∀ pins e s' σ' G' H',Gle G G'→SI X g (zfJ m') r' G' σ' H'→Inv X pins σ' H' s'→ExV X G' H' e x→X.xe e s'
  | .stuck => False
noncomputable def tS (X : Cx) (g : GE) (ro : Bool) (m m' mb : List Md) (f : FS) : TS := fun D σ H => ∃ r G,SI X g m r G σ H∧oTo X g ro m' mb G D (f r)
noncomputable def SS (X : Cx) (g : GE) (ro : Bool) (mb m : List Md) (st : Stmt) (f : FS) (m' : List Md) : Prop := m'.length = m.length∧PS X st (tS X g ro m m' mb f)
noncomputable def SSs (X : Cx) (g : GE) (ro : Bool) (mb m : List Md) (st : List Stmt) (f : FS) (m' : List Md) : Prop := m'.length = m.length∧PSs X st (tS X g ro m m' mb f)
theorem zhp {m m' : List Md} (h : m'.length = m.length) : zfJ m' = zfJ m := by
  unfold zfJ
  rw [List.map_const',List.map_const',h]
theorem oTo.x {X : Cx} {g : GE} {ro : Bool} {m m' mb : List Md} {r : Rho} {G : GH} {D : Ends} {σ : L2.St} {H : Hp} {x : DL.D} (h : oTo X g ro m' mb G D (.exc x (forget m r))) (si : SI X g m r G σ H) (hl : m'.length = m.length) : XW X σ G H x :=
  fun pins e s' G' H' w I ex => h pins e s' σ G' H' w.ge (by rw [zhp hl]; exact (si.grow w).forget) I ex
section
variable {X : Cx} {g : GE} {ro : Bool} {m m' m1 mb : List Md} {e a b c tg : Expr} {f fa fb fc : FE} {p : FQ} {pos pos' : Pos} {st : Stmt} {sts sts' : List Stmt} {s1 s2 : FS}
theorem oTo.gle {G G1 : GH} {D : Ends} {o : Out} (h : oTo X g ro m' mb G D o) (w : Gle G G1) : oTo X g ro m' mb G1 D o := by
  cases o with
  | nx r' => exact fun σ' G' H' q si => h σ' G' H' (w.trans q) si
  | rt d => exact h
  | bk r' => exact fun σ' G' H' q si => h σ' G' H' (w.trans q) si
  | ct r' => exact fun σ' G' H' q si => h σ' G' H' (w.trans q) si
  | exc x r' => exact fun pins e s' σ' G' H' q => h pins e s' σ' G' H' (w.trans q)
  | stuck => exact h
noncomputable def seqF (s1 s2 : FS) : FS := fun r => match s1 r with
  | .nx r' => s2 r'
  | o => o
noncomputable def zam : FS := fun r => .nx r
theorem zaf : SSs X g ro mb m [] zam m := ⟨rfl,PSs.imp zfj fun D σ H ⟨r,G,si,q⟩ => q σ G H (Gle.refl G) si⟩
theorem zaa (h1 : SS X g ro mb m st s1 m1) (h2 : SSs X g ro mb m1 sts s2 m') : SSs X g ro mb m (st::sts) (seqF s1 s2) m' := by
  refine ⟨h2.1.trans h1.1,PSs.imp (zb3 h1.2 h2.2) fun D σ H ⟨r,G,si,q⟩ => ⟨r,G,si,?_⟩⟩
  unfold seqF at q
  cases e : s1 r with
  | nx r' =>
    rw [e] at q
    exact fun σ' G' H' w si' => ⟨r',G',si',oTo.gle q w⟩
  | rt d => rw [e] at q; exact q
  | bk r' => rw [e] at q; exact q
  | ct r' => rw [e] at q; exact q
  | exc x r' => rw [e] at q; exact fun pins e s' σ' G' H' w si' => q pins e s' σ' G' H' w (by rw [zhp h2.1]; exact si')
  | stuck => rw [e] at q; exact q
theorem zjy : SS X g ro mb m st (fun _ => .stuck) m := ⟨rfl,PS.imp zlB fun D σ H ⟨r,G,si,q⟩ => q⟩
theorem zln (i : Nat) (hi : m[i]? = some .ow) (h : SS X g ro mb (m.set i .sh) st s1 m') : SS X g ro mb m st s1 m' := by
  refine ⟨h.1.trans (by simp),fun pins s σ H D I ⟨r,G,si,q⟩ => ?_⟩
  rcases si.frz i hi with ⟨G',le,si'⟩ | ⟨a,z⟩
  · exact h.2 pins s σ H D I ⟨r,G',si',oTo.gle q le⟩
  · obtain ⟨ob,I2⟩ := Inv.fast I a
    obtain ⟨G',le,si'⟩ := z ob
    exact h.2 pins s σ _ D I2 ⟨r,G',si',oTo.gle q le⟩
noncomputable def onE {α : Type} (m : List Md) (r : Rho) (x : Res α) (k : α→Out) : Out := match x with
  | .ok a => k a
  | .exc e => .exc e (forget m r)
  | .stuck => .stuck
@[simp] theorem onE_ok {α : Type} (m : List Md) (r : Rho) (a : α) (k : α→Out) : onE m r (.ok a) k = k a := rfl
theorem zbn {α : Type} {x : Res α} {k : α→Out} {r : Rho} {G : GH} {D : Ends} {σ : L2.St} {H : Hp} (si : SI X g m r G σ H) (hl : m'.length = m.length) (h : oTo X g ro m' mb G D (onE m r x k)) : fin x (fun a => oTo X g ro m' mb G D (k a)) (XW X σ G H) := by
  cases x with
  | ok a => exact h
  | exc e => exact oTo.x h si hl
  | stuck => exact h
noncomputable def setF (m : List Md) (i : Nat) (f : FE) : FS := fun r => onE m r (f r) fun d => .nx (r.set i (some d))
theorem za3 (i : Nat) {x : Str} (hN : X.N.Nodup) (hi : X.N[i]? = some x) (hx : Loc X.env.scope x) (he : SE X g m e f) (hs : swapsWith e (some (.Name x pos')) pos.line X.env = pure false := by rfl)
    (hf : X.fn x = true∨X.env.scope.names.lookup x = some .local := by first | exact .inl rfl | exact .inr rfl | assumption) : SS X g ro mb m (.Assign [.Name x pos'] e pos) (setF m i f) (m.set i .sh) := by
  have hl : (m.set i .sh).length = m.length := by simp
  refine ⟨hl,PS.imp (zin hN hi hx he hs hf) fun D σ H ⟨r,G,si,q⟩ => ⟨r,G,si,?_⟩⟩
  exact zag (zbn si hl q) fun d q v G' H' w rv => q _ G' H' w.ge ((si.grow w).set i rv)
theorem zd9 (i : Nat) {x : Str} (hN : X.N.Nodup) (hi : X.N[i]? = some x) (hx : Loc X.env.scope x) (he : SO X g m e f) (hs : swapsWith e (some (.Name x pos')) pos.line X.env = pure false := by rfl)
    (hf : X.fn x = true∨X.env.scope.names.lookup x = some .local := by first | exact .inl rfl | exact .inr rfl | assumption) : SS X g ro mb m (.Assign [.Name x pos'] e pos) (setF m i f) (m.set i .ow) := by
  have hl : (m.set i .ow).length = m.length := by simp
  refine ⟨hl,PS.imp (zin hN hi hx he hs hf) fun D σ H ⟨r,G,si,q⟩ => ⟨r,G,si,?_⟩⟩
  exact zag (zbn si hl q) fun d q a G' H' w hn ho => q _ G' H' w.ge (si.setN w i hn ho)
noncomputable def zmc (m : List Md) (f : FE) : FS := fun r => onE m r (f r) fun _ => .nx r
theorem zpo (he : SE X g m e f) (hs : swapsWith e none pos.line X.env = pure false := by rfl) : SS X g ro mb m (.Expr e pos) (zmc m f) m :=
  ⟨rfl,PS.imp (zhG he hs) fun D σ H ⟨r,G,si,q⟩ => ⟨r,G,si,zag (zbn si rfl q) fun d q v G' H' w _ => q σ G' H' w.ge (si.grow w)⟩⟩
noncomputable def retF (m : List Md) (f : FE) : FS := fun r => onE m r (f r) fun d => .rt d
theorem zaT (he : SE X g m e f) : SS X g false mb m (.Return (some e) pos) (retF m f) m :=
  ⟨rfl,PS.imp (zjN he) fun D σ H ⟨r,G,si,q⟩ => ⟨r,G,si,zag (zbn si rfl q) fun d q v G' H' w rv => q v G' H' (si.grow w).grown rv⟩⟩
theorem zmv (i : Nat) {x : Str} (hm : m[i]? = some .ow) (hN : X.N[i]? = some x) (hv : Vis X.env.scope x) (hd : (x == ("__debug__" : Str)) = false := by decide) (hcd : (x == ("__classdict__" : Str)) = false := by decide) :
    SS X g true mb m (.Return (some (.Name x pos')) pos) (retF m fun r => getV r i) m := by
  refine ⟨rfl,PS.imp (zjN (zdO hN hv hd hcd)) fun D σ H ⟨r,G,si,q⟩ => ?_⟩
  obtain ⟨d,e,q⟩ := ze2 (zbn si rfl q)
  obtain ⟨a,h1,h2,h3⟩ := si.ow i d e hm
  exact ⟨_,h1,q _ G H si.grown (.inl ⟨a,rfl,h3,h2⟩)⟩
noncomputable def ifF (m : List Md) (p : FQ) (s1 s2 : FS) : FS := fun r => onE m r (p r) fun c => if c = true then s1 r else s2 r
theorem s_if (hc : SQ X g m c p) (h1 : SSs X g ro mb m sts s1 m') (h2 : SSs X g ro mb m sts' s2 m') : SS X g ro mb m (.If c sts sts' pos) (ifF m p s1 s2) m' := by
  refine ⟨h1.1,PS.imp (zpO hc h1.2 h2.2) fun D σ H ⟨r,G,si,q⟩ => ⟨r,G,si,zag (zbn si h1.1 q) fun c q G' H' w => ?_⟩⟩
  cases c with
  | true => rw [if_pos rfl] at q ⊢; exact ⟨r,G',si.grow w,oTo.gle q w.ge⟩
  | false => rw [if_neg Bool.false_ne_true] at q ⊢; exact ⟨r,G',si.grow w,oTo.gle q w.ge⟩
end
end DL
end
section
namespace DL
open PySem PySem.Spec PyProof.Rows L2
noncomputable abbrev FT := D→Rho→Option Rho
noncomputable abbrev FTs := List D→Rho→Option Rho
noncomputable def tG (X : Cx) (g : GE) (m m' : List Md) (ft : FT) : TG := fun v σ H Q => ∃ r G d,SI X g m r G σ H∧RG X.K G v d∧∃ r',ft d r = some r'∧∀ σ',SI X g m' r' G σ' H→Q σ' H
noncomputable def tGs (X : Cx) (g : GE) (m m' : List Md) (ft : FTs) : TGs := fun vs σ H Q => ∃ r G ds,SI X g m r G σ H∧RGs X.K G vs ds∧∃ r',ft ds r = some r'∧∀ σ',SI X g m' r' G σ' H→Q σ' H
theorem PG.imp {X : Cx} {e : Expr} {t t' : TG} (h : PG X e t) (i : ∀ v σ H Q,t' v σ H Q→t v σ H Q) : PG X e t' := fun pins s σ H v u Q I r q => h pins s σ H v u Q I r (i v σ H Q q)
theorem PGs.imp {X : Cx} {e : List Expr} {t t' : TGs} (h : PGs X e t) (i : ∀ v σ H Q,t' v σ H Q→t v σ H Q) : PGs X e t' := fun pins s σ H v u Q I r q => h pins s σ H v u Q I r (i v σ H Q q)
noncomputable def SG (X : Cx) (g : GE) (m : List Md) (tg : Expr) (ft : FT) (m' : List Md) : Prop := m'.length = m.length∧PG X tg (tG X g m m' ft)
structure SGs (X : Cx) (g : GE) (m : List Md) (ts : List Expr) (n : Nat) (ft : FTs) (m' : List Md) : Prop where
  ml : m'.length = m.length
  ln : ∀ ds r r',ft ds r = some r'→ds.length = n
  pg : PGs X ts (tGs X g m m' ft)
noncomputable def ftN (i : Nat) : FT := fun d r => some (r.set i (some d))
noncomputable def ftT (ft : FTs) : FT := fun d r => match d with
  | .tup ds => ft ds r
  | _ => none
noncomputable def zg4 : FTs := fun ds r => match ds with
  | [] => some r
  | _ => none
noncomputable def zbt (ft : FT) (fts : FTs) : FTs := fun ds r => match ds with
  | [] => none
  | d::ds => (ft d r).bind fun r' => fts ds r'
section
variable {X : Cx} {g : GE} {m m' m1 : List Md} {tg : Expr} {ts : List Expr} {ft : FT} {fts : FTs} {pos : Pos} {n : Nat}
theorem zaB (i : Nat) {x : Str} (hN : X.N.Nodup) (hi : X.N[i]? = some x) (hx : Loc X.env.scope x) (hf : X.fn x = true∨X.env.scope.names.lookup x = some .local := by first | exact .inl rfl | exact .inr rfl | assumption) :
    SG X g m (.Name x pos) (ftN i) (m.set i .sh) :=
  ⟨by simp,PG.imp (znT hN hi hx hf) fun v σ H Q ⟨r,G,d,si,rv,r',e,k⟩ => by cases e; exact k _ (si.set i rv)⟩
theorem zoB : SGs X g m [] 0 zg4 m := by
  refine ⟨rfl,fun ds r r' e => ?_,PGs.imp znS fun v σ H Q ⟨r,G,ds,si,rv,r',e,k⟩ => ?_⟩
  · cases ds with
    | nil => rfl
    | cons _ _ => cases e
  · cases rv with
    | nil => cases e; exact ⟨rfl,k σ si⟩
    | cons _ _ => cases e
theorem zeI (h1 : SG X g m tg ft m1) (h2 : SGs X g m1 ts n fts m') (hs : (assignEach (tg::ts) X.env).map (·.2) = assign tg X.env::(assignEach ts X.env).map (·.2) := by rfl) : SGs X g m (tg::ts) (n + 1) (zbt ft fts) m' := by
  refine ⟨h2.ml.trans h1.1,fun ds r r' e => ?_,PGs.imp (zlE h1.2 h2.pg hs) fun v σ H Q ⟨r,G,ds,si,rv,r',e,k⟩ => ?_⟩
  · cases ds with
    | nil => cases e
    | cons d ds =>
      have e' : ((ft d r).bind fun r' => fts ds r') = some r' := e
      cases q : ft d r with
      | none => rw [q] at e'; cases e'
      | some r1 =>
        rw [q] at e'
        have := h2.ln ds r1 r' e'
        simp [this]
  · cases rv with
    | nil => cases e
    | @cons v0 d vs ds rv rs =>
      have e' : ((ft d r).bind fun r' => fts ds r') = some r' := e
      cases q : ft d r with
      | none => rw [q] at e'; cases e'
      | some r1 =>
        rw [q] at e'
        exact ⟨_,_,rfl,r,G,d,si,rv,r1,q,fun σ' si' => ⟨r1,G,ds,si',rs,r',e',k⟩⟩
theorem zoA {k : Nat} (hc : X.calm = true) (h : SGs X g m ts n fts m') (hn : (assignEach ts X.env).length = n := by rfl) (hst : (assignEach ts X.env).findIdx? (·.1) = none := by rfl) : SG X g m (.Tuple ts k pos) (ftT fts) m' := by
  refine ⟨h.ml,PG.imp (zpP hc h.pg hn hst) fun v σ H Q ⟨r,G,d,si,rv,r',e,k⟩ => ?_⟩
  cases d with
  | tup ds =>
    obtain ⟨a,xs,rfl,s,rs⟩ := rv.tup si.gok
    exact ⟨a,xs,rfl,s,(Paired.length rs).trans (h.ln ds r r' e),r,G,ds,si,rs,r',e,k⟩
  | _ => cases e
end
structure Yields (K : PySem.W.Frag) (J : It) (ds : List D) (G0 : GH) : Prop where
  go : ∀ G H (i : Nat),Gle G0 G→GOk K G H→i < ds.length→J.go i H
  yld : ∀ G H (i : Nat) x H' d,Gle G0 G→GOk K G H→J.yld i H x H'→ds[i]? = some d→∃ G',Grow K G H G' H'∧RG K G' x d
  stop : ∀ G H,Gle G0 G→GOk K G H→J.stop ds.length H
noncomputable abbrev FI := Rho→Res (List D)
noncomputable def tI (X : Cx) (g : GE) (m : List Md) (f : FI) : TI := fun σ H R => ∃ r G,SI X g m r G σ H∧fin (f r) (fun ds => ∀ J G' H',Grow X.K G H G' H'→Yields X.K J ds G'→R J H') (XW X σ G H)
noncomputable def SIt (X : Cx) (g : GE) (m : List Md) (tg iter : Expr) (f : FI) : Prop := PI X tg iter (tI X g m f)
theorem PI.imp {X : Cx} {tg e : Expr} {t t' : TI} (h : PI X tg e t) (i : ∀ σ H Q,t' σ H Q→t σ H Q) : PI X tg e t' := fun pins s σ H R I q => h pins s σ H R I (i σ H R q)
theorem zhs {K : PySem.W.Frag} {a : Addr} {ds : List D} {G0 : GH} (h0 : RG K G0 (.ref a) (.lst ds)) : Yields K (Itl K a) ds G0 := by
  have at_ : ∀ G H,Gle G0 G→GOk K G H→∃ xs,SqL K H a xs∧RGs K G xs ds := fun G H w gk => by
    obtain ⟨b,xs,e,s,r⟩ := (h0.mono w).lst gk
    cases e
    exact ⟨xs,s,r⟩
  refine ⟨fun G H i w gk hi => ?_,fun G H i x H' d w gk y e => ?_,fun G H w gk => ?_⟩
  · obtain ⟨xs,s,r⟩ := at_ G H w gk
    have hl := Paired.length r
    exact ⟨xs,xs[i],s,List.getElem?_eq_getElem (by omega)⟩
  · obtain ⟨xs,s,r⟩ := at_ G H w gk
    obtain ⟨rfl,y⟩ := y
    obtain ⟨v,e1,rv⟩ := Paired.get r e
    have := y xs s
    rw [e1] at this; cases this
    exact ⟨G,Grow.refl gk,rv⟩
  · obtain ⟨xs,s,r⟩ := at_ G H w gk
    exact ⟨xs,s,Nat.le_of_eq (Paired.length r)⟩
theorem zji {K : PySem.W.Frag} {a : Addr} {ds : List D} {G0 : GH} (h0 : RG K G0 (.ref a) (.tup ds)) : Yields K (Itt K a) ds G0 := by
  have at_ : ∀ G H,Gle G0 G→GOk K G H→∃ xs,SqT K H a xs∧RGs K G xs ds := fun G H w gk => by
    obtain ⟨b,xs,e,s,r⟩ := (h0.mono w).tup gk
    cases e
    exact ⟨xs,s,r⟩
  refine ⟨fun G H i w gk hi => ?_,fun G H i x H' d w gk y e => ?_,fun G H w gk => ?_⟩
  · obtain ⟨xs,s,r⟩ := at_ G H w gk
    have hl := Paired.length r
    exact ⟨xs,xs[i],s,List.getElem?_eq_getElem (by omega)⟩
  · obtain ⟨xs,s,r⟩ := at_ G H w gk
    obtain ⟨rfl,y⟩ := y
    obtain ⟨v,e1,rv⟩ := Paired.get r e
    have := y xs s
    rw [e1] at this; cases this
    exact ⟨G,Grow.refl gk,rv⟩
  · obtain ⟨xs,s,r⟩ := at_ G H w gk
    exact ⟨xs,s,Nat.le_of_eq (Paired.length r)⟩
noncomputable def rngD (lo : Int) (n : Nat) : List D := (List.range n).map fun (i : Nat) => D.int (lo + (i : Int))
theorem zoP {K : PySem.W.Frag} {lo : Int} {n : Nat} {G0 : GH} : Yields K (Itr lo n) (rngD lo n) G0 := by
  have hl : (rngD lo n).length = n := by simp [rngD]
  refine ⟨fun G H i w gk hi => (by rw [hl] at hi; exact hi),fun G H i x H' d w gk y e => ?_,fun G H w gk => (by rw [hl]; exact Nat.le_refl _)⟩
  obtain ⟨rfl,rfl⟩ := y
  have hi : i < n := by
    have := (List.getElem?_eq_some_iff.mp e).1
    rw [hl] at this; exact this
  unfold rngD at e
  rw [List.getElem?_map,List.getElem?_range hi] at e
  cases e
  exact ⟨G,Grow.refl gk,.scl (.int _)⟩
noncomputable def zbq : D→Option (List D)
  | .lst ds => some ds
  | .tup ds => some ds
  | _ => none
section
variable {X : Cx} {g : GE} {m m' m1 mb : List Md} {tg e a b c iter : Expr} {f fa fb : FE} {p : FQ} {pos pos' : Pos} {ro : Bool} {fl : Rho → Res (List D)} {sts : List Stmt} {s1 : FS}
noncomputable def fSeq (k : D→Option (List D)) (f : FE) : FI := fun r => (f r).bind fun d => opt (k d)
theorem zjP {l : Expr} {tl : TE} (hl : PE X l tl) : PI X tg l (fun σ H R => tl σ H fun x H1 => (∃ a,x = .ref a∧(∃ xs,SqL X.K H1 a xs)∧R (Itl X.K a) H1)∨∃ a,x = .ref a∧(∃ xs,SqT X.K H1 a xs)∧R (Itt X.K a) H1) := by
  intro pins s σ H R I h
  refine thn (hl pins s σ H _ I h) fun v s1 ⟨x,H1,I1,r1,q1⟩ => ?_
  rcases q1 with ⟨a,e,⟨xs,hq⟩,q⟩ | ⟨a,e,⟨xs,hq⟩,q⟩
  · subst e
    cases r1
    obtain ⟨its,rv,p,hz⟩ := I1.list hq
    refine wpAny_pyIter_list p.isList ?_
    refine ⟨s1.heap.objs.size,[s1.heap.objs.size],_,_,H1,rfl,I1.kept (t' := s1.toks) fun b o e => Heap.get?_push_of_some _ e,zjl a _,⟨_,Heap.get?_push_size _ rfl,rfl,rfl⟩,fun b hb => ?_,q⟩
    have e : b = s1.heap.objs.size := by simpa using hb
    subst e
    exact I1.fpOk (Nat.le_refl _) (I1.hok.fresh (Nat.le_refl _))
  · subst e
    cases r1
    obtain ⟨its,rv,p,hz⟩ := I1.tuple hq
    refine wpAny_pyIter_tuple (show s1.heap.IsTuple a its.toArray from p) ?_
    refine ⟨s1.heap.objs.size,[s1.heap.objs.size],_,_,H1,rfl,I1.kept (t' := s1.toks) fun b o e => Heap.get?_push_of_some _ e,ziJ a _,⟨_,Heap.get?_push_size _ rfl,rfl,rfl⟩,fun b hb => ?_,q⟩
    have e : b = s1.heap.objs.size := by simpa using hb
    subst e
    exact I1.fpOk (Nat.le_refl _) (I1.hok.fresh (Nat.le_refl _))
theorem zqF (h : SE X g m e f) : SIt X g m tg e (fSeq zbq f) := by
  refine PI.imp (zjP h) fun σ H R ⟨r,G,si,q⟩ => ⟨r,G,si,zag (zah q) fun d q v G' H' w rv => ?_⟩
  obtain ⟨ds,e,q⟩ := zaL q
  cases d with
  | lst ds' =>
    cases e
    obtain ⟨a,xs,rfl,s,rs⟩ := rv.lst w.ok
    exact .inl ⟨a,rfl,⟨xs,s⟩,q _ G' H' w (zhs rv)⟩
  | tup ds' =>
    cases e
    obtain ⟨a,xs,rfl,s,rs⟩ := rv.tup w.ok
    exact .inr ⟨a,rfl,⟨xs,s⟩,q _ G' H' w (zji rv)⟩
  | _ => cases e
structure YieldsC (K : PySem.W.Frag) (J : It) (ds : List D) (G0 : GH) (H0 : Hp) : Prop where
  go : ∀ G H (i : Nat),Grow K G0 H0 G H→i < ds.length→J.go i H
  yld : ∀ G H (i : Nat) x H' d,Grow K G0 H0 G H→J.yld i H x H'→ds[i]? = some d→∃ G',Grow K G H G' H'∧RG K G' x d
  stop : ∀ G H,Grow K G0 H0 G H→J.stop ds.length H
theorem Yields.toC {K : PySem.W.Frag} {J : It} {ds : List D} {G0 : GH} {H0 : Hp} (y : Yields K J ds G0) : YieldsC K J ds G0 H0 :=
  ⟨fun G H i w hi => y.go G H i w.ge w.ok hi,fun G H i x H' d w q e => y.yld G H i x H' d w.ge w.ok q e,fun G H w => y.stop G H w.ge w.ok⟩
noncomputable def tIC (X : Cx) (g : GE) (m : List Md) (f : FI) : TI := fun σ H R => ∃ r G,SI X g m r G σ H∧fin (f r) (fun ds => ∀ J G' H',Grow X.K G H G' H'→YieldsC X.K J ds G' H'→R J H') (XW X σ G H)
noncomputable def SItC (X : Cx) (g : GE) (m : List Md) (tg iter : Expr) (f : FI) : Prop := PI X tg iter (tIC X g m f)
theorem SIt.toC {fi : FI} (h : SIt X g m tg iter fi) : SItC X g m tg iter fi := PI.imp h fun σ H R ⟨r,G,si,q⟩ => ⟨r,G,si,zag q fun ds k J G' H' w y => k J G' H' w y.toC⟩
theorem zoQ {K : PySem.W.Frag} {a : Addr} {ds : List D} {G0 : GH} {H0 : Hp} (o : Own K G0 H0 a (.lst ds)) : YieldsC K (Itl K a) ds G0 H0 := by
  have at_ : ∀ G H,Grow K G0 H0 G H→∃ xs,SqL K H a xs∧RGs K G xs ds := fun G H w => by
    cases (o.mono w).ob with
    | lst r s => exact ⟨_,SqL.of r,s⟩
  refine ⟨fun G H i w hi => ?_,fun G H i x H' d w y e => ?_,fun G H w => ?_⟩
  · obtain ⟨xs,s,r⟩ := at_ G H w
    have hl := Paired.length r
    exact ⟨xs,xs[i],s,List.getElem?_eq_getElem (by omega)⟩
  · obtain ⟨xs,s,r⟩ := at_ G H w
    obtain ⟨rfl,y⟩ := y
    obtain ⟨v,e1,rv⟩ := Paired.get r e
    have := y xs s
    rw [e1] at this; cases this
    exact ⟨G,Grow.refl w.ok,rv⟩
  · obtain ⟨xs,s,r⟩ := at_ G H w
    exact ⟨xs,s,Nat.le_of_eq (Paired.length r)⟩
theorem zcJ (h : SB X g m e f) : SItC X g m tg e (fSeq zbq f) := by
  refine PI.imp (zjP h) fun σ H R ⟨r,G,si,q⟩ => ⟨r,G,si,zag (zah q) fun d q v G' H' w rv => ?_⟩
  obtain ⟨ds,e,q⟩ := zaL q
  cases d with
  | lst ds' =>
    cases e
    rcases rv with rv | ⟨a,rfl,o⟩
    · obtain ⟨a,xs,rfl,s,rs⟩ := rv.lst w.ok
      exact .inl ⟨a,rfl,⟨xs,s⟩,q _ G' H' w (zhs rv).toC⟩
    · cases o.ob with
      | lst r s => exact .inl ⟨a,rfl,⟨_,SqL.of r⟩,q _ G' H' w (zoQ o)⟩
  | tup ds' =>
    cases e
    rcases rv with rv | ⟨a,rfl,o⟩
    · obtain ⟨a,xs,rfl,s,rs⟩ := rv.tup w.ok
      exact .inr ⟨a,rfl,⟨xs,s⟩,q _ G' H' w (zji rv).toC⟩
    · cases o.ob
  | _ => cases e
noncomputable def rng1 : List D→Option (List D)
  | [.int j] => if -(2 ^ 62)≤j∧j < 2 ^ 62 then some (rngD 0 j.toNat) else none
  | _ => none
noncomputable def fRng (k : List D→Option (List D)) (fl : Rho→Res (List D)) : FI := fun r => (fl r).bind fun ds => opt (k ds)
theorem zb5 {pn : Pos} (hg : Gl X "range") (hm : X.mg "range" = none) (ha : SAB X g m [a] fl) (hs : starEach [a] X.env = [(false,eval a X.env)] := by rfl) : SIt X g m tg (.Call (.Name "range" pn) [a] [] pos) (fRng rng1 fl) := by
  refine PI.imp (zjQ hg hm ha hs) fun σ H R ⟨r,G,si,q⟩ => ⟨r,G,si,zag (zah q) fun ds q vs G' H' w rs => ?_⟩
  obtain ⟨zs,e,q⟩ := zaL q
  unfold rng1 at e
  split at e
  · split at e
    · rename_i j hj
      cases e
      cases rs with
      | cons r1 t => cases t; exact ⟨j,by rw [r1.int w.ok],hj.1,hj.2,q _ G' H' w zoP⟩
    · cases e
  · cases e
noncomputable def forF (ft : FT) (body : FS) : List D→FS
  | [],r => .nx r
  | d::ds,r => match ft d r with
    | none => .stuck
    | some r1 => match body r1 with
      | .nx r' => forF ft body ds r'
      | .ct r' => forF ft body ds r'
      | .bk r' => .nx r'
      | o => o
noncomputable def zcF (m : List Md) (fi : FI) (ft : FT) (body : FS) : FS := fun r => onE m r (fi r) fun ds => forF ft body ds r
theorem znz (hp : PassesOwn (model X.prog X.w) X.A X.env X.xe) (hc : X.calm = true) {ft : FT} {fi : FI} (hi : SIt X g m tg iter fi) (hg : SG X g m tg ft m) (hb : SSs X g ro m m sts s1 m)
    (hs : ∀ x,foldedSetIterable iter X.env x = pure x := by intro _; rfl) : SS X g ro mb m (.For tg iter sts [] pos) (zcF m fi ft s1) m := by
  refine ⟨rfl,PS.imp (zgS hp hc hi hg.2 hb.2 hs) fun D σ H ⟨r,G,si,q⟩ => ⟨r,G,si,zag (zbn si rfl q) fun ds q J G0 H0 w0 Y => ?_⟩⟩
  refine ⟨fun i n σ H => ∃ r G,SI X g m r G σ H∧Gle G0 G∧i≤ds.length∧n = ds.length - i∧oTo X g ro m mb G D (forF ft s1 (ds.drop i) r),⟨ds.length,r,G0,si.grow w0,Gle.refl G0,Nat.zero_le _,rfl,oTo.gle q w0.ge⟩,?_⟩
  rintro i n σ1 H1 ⟨r1,G1,si1,le1,hi,rfl,q1⟩
  by_cases hlt : i < ds.length
  · have hd : ds.drop i = ds[i]::ds.drop (i + 1) := List.drop_eq_getElem_cons hlt
    rw [hd] at q1
    unfold forF at q1
    refine .inr ⟨Y.go G1 H1 i le1 si1.gok hlt,fun σ' H' => ∃ r G,SI X g m r G σ' H'∧Gle G0 G∧oTo X g ro m mb G D (forF ft s1 (ds.drop (i + 1)) r),fun σ' H' ⟨r',G',si',le',q'⟩ => ⟨ds.length - (i + 1),by omega,r',G',si',le',hlt,rfl,q'⟩,fun x H' y => ?_⟩
    obtain ⟨G',w',rv⟩ := Y.yld G1 H1 i x H' ds[i] le1 si1.gok y (List.getElem?_eq_getElem hlt)
    have le' : Gle G0 G' := le1.trans w'.ge
    cases eft : ft ds[i] r1 with
    | none => simp only [eft] at q1; exact q1.elim
    | some r2 =>
      simp only [eft] at q1
      refine ⟨r1,G',ds[i],si1.grow w',rv,r2,eft,fun σ2 si2 => ⟨r2,G',si2,?_⟩⟩
      cases eb : s1 r2 with
      | nx r' => simp only [eb] at q1; exact fun σ3 G3 H3 le3 si3 => ⟨r',G3,si3,le'.trans le3,oTo.gle q1 (Gle.trans w'.ge le3)⟩
      | ct r' => simp only [eb] at q1; exact fun σ3 G3 H3 le3 si3 => ⟨r',G3,si3,le'.trans le3,oTo.gle q1 (Gle.trans w'.ge le3)⟩
      | bk r' => simp only [eb] at q1; exact fun σ3 G3 H3 le3 si3 => q1 σ3 G3 H3 (Gle.trans w'.ge le3) si3
      | rt d => simp only [eb] at q1; exact q1
      | exc x r' => simp only [eb] at q1; exact fun pins e s' σ3 G3 H3 le3 => q1 pins e s' σ3 G3 H3 (Gle.trans w'.ge le3)
      | stuck => simp only [eb] at q1; exact q1
  · have e : i = ds.length := by omega
    subst e
    rw [List.drop_length] at q1
    exact .inl ⟨Y.stop G1 H1 le1 si1.gok,q1 σ1 G1 H1 (Gle.refl _) si1⟩
noncomputable def zbW (m : List Md) : List Md := m.map fun x => if x = Md.sh then Md.sh else Md.bw
noncomputable def ziX (m : List Md) (r : Rho) (st : L2.St) (G : GH) (H : Hp) : GE := ⟨G,H,fun i => if m[i]? = some Md.ow∨m[i]? = some Md.bw then some ((st[i]?).join,(r[i]?).join) else none⟩
theorem zdl {m : List Md} {i : Nat} {x : Md} (h : m[i]? = some x) : (zbW m)[i]? = some (if x = Md.sh then Md.sh else Md.bw) := by
  unfold zbW; rw [List.getElem?_map,h]; rfl
theorem zlU {m : List Md} {i : Nat} (h : (zbW m)[i]? = some Md.sh) : m[i]? = some Md.sh := by
  cases q : m[i]? with
  | none => unfold zbW at h; rw [List.getElem?_map,q] at h; cases h
  | some x =>
    rw [zdl q] at h
    cases x <;> first | rfl | (simp at h)
theorem ziv {m : List Md} {i : Nat} (h : (zbW m)[i]? = some Md.ow) : False := by
  cases q : m[i]? with
  | none => unfold zbW at h; rw [List.getElem?_map,q] at h; cases h
  | some x =>
    rw [zdl q] at h
    cases x <;> simp at h
theorem lockM_bw {m : List Md} {i : Nat} (h : (zbW m)[i]? = some Md.bw) : m[i]? = some Md.ow∨m[i]? = some Md.bw := by
  cases q : m[i]? with
  | none => unfold zbW at h; rw [List.getElem?_map,q] at h; cases h
  | some x =>
    rw [zdl q] at h
    cases x with
    | sh => simp at h
    | ow => exact .inl rfl
    | bw => exact .inr rfl
theorem SI.lock {r : Rho} {G : GH} {st : L2.St} {H : Hp} (s : SI X g m r G st H) : SI X (ziX m r st G H) (zbW m) r G st H where
  gok := s.gok
  old := fun _ _ e => e
  ge := fun _ _ e => e
  gf := fun _ _ => rfl
  lm := by unfold zbW; rw [List.length_map]; exact s.lm
  lr := s.lr
  sh := fun i d h hm => s.sh i d h (zlU hm)
  ow := fun i d h hm => (ziv hm).elim
  bw := fun i d h hm => by
    rcases lockM_bw hm with z | z
    · obtain ⟨a,h1,h2,_⟩ := s.ow i d h z
      exact ⟨_,h1,.inr ⟨a,rfl,h2,h2.ob.isS⟩⟩
    · obtain ⟨v,h1,h2⟩ := s.bw i d h z
      refine ⟨v,h1,?_⟩
      rcases h2 with h2 | ⟨a,e,h2,_⟩
      · exact .inl h2
      · exact .inr ⟨a,e,h2,h2.ob.isS⟩
  dis := fun i j a d e _ _ _ hm => (ziv hm).elim
  lk := fun i o h hm => by
    have h' : (if m[i]? = some Md.ow∨m[i]? = some Md.bw then some ((st[i]?).join,(r[i]?).join) else none) = some o := h
    rw [if_pos (lockM_bw hm)] at h'
    cases h'
    have hi : i < st.length := by
      have := (List.getElem?_eq_some_iff.mp hm).1
      unfold zbW at this
      rw [List.length_map,s.lm] at this; exact this
    refine ⟨?_,fun d hd => by rw [hd]; rfl⟩
    rw [List.getElem?_eq_getElem hi]; rfl
theorem SI.unlock {r r' : Rho} {G G' : GH} {st st' : L2.St} {H H' : Hp} (s : SI X g m r G st H) (s' : SI X (ziX m r st G H) (zbW m) r' G' st' H') : SI X g m r' G' st' H' := by
  have w : Grow X.K G H G' H' := s'.grown
  have hlk : ∀ (i : Nat),(m[i]? = some Md.ow∨m[i]? = some Md.bw)→st'[i]? = some (st[i]?).join∧∀ d,r'[i]? = some (some d)→r[i]? = some (some d) := fun i hi => by
    have hm : (zbW m)[i]? = some Md.bw := by
      rcases hi with z | z <;> rw [zdl z] <;> simp
    obtain ⟨h1,h2⟩ := s'.lk i ((st[i]?).join,(r[i]?).join) (if_pos hi) hm
    refine ⟨h1,fun d hd => ?_⟩
    have := h2 d hd
    cases q : r[i]? with
    | none => rw [q] at this; cases this
    | some o => rw [q] at this; rw [show o = some d from this]
  have hst : ∀ (i : Nat) v,(m[i]? = some Md.ow∨m[i]? = some Md.bw)→st[i]? = some (some v)→st'[i]? = some (some v) := fun i v hi h => by
    rw [(hlk i hi).1,h]; rfl
  refine ⟨s'.gok,fun a o e => s'.old a o (s.old a o e),fun a d e => s'.ge a d (s.ge a d e),fun a h => ?_,?_,s'.lr,fun i d h hm => ?_,fun i d h hm => ?_,fun i d h hm => ?_,fun i j a d e hij h1 h2 m1 m2 q1 q2 => ?_,fun i o hi hm => ?_⟩
  · have h1 : H a≠none := by
      cases e : g.h0 a with
      | none => exact absurd e h
      | some o => rw [s.old _ _ e]; simp
    rw [w.gf a h1,s.gf a h]
  · have := s'.lm
    unfold zbW at this
    rw [List.length_map] at this; exact this
  · exact s'.sh i d h (by rw [zdl hm]; simp)
  · obtain ⟨a,h1,h2,h3⟩ := s.ow i d ((hlk i (.inl hm)).2 d h) hm
    exact ⟨a,hst i _ (.inl hm) h1,h2.mono w,h3⟩
  · obtain ⟨v,h1,h2⟩ := s.bw i d ((hlk i (.inr hm)).2 d h) hm
    exact ⟨v,hst i _ (.inr hm) h1,h2.grow w⟩
  · have e1 := (hlk i (.inl m1)).2 d h1
    have e2 := (hlk j (.inl m2)).2 e h2
    obtain ⟨b,z1,_,_⟩ := s.ow i d e1 m1
    obtain ⟨c,z2,_,_⟩ := s.ow j e e2 m2
    have y1 := hst i _ (.inl m1) z1
    have y2 := hst j _ (.inl m2) z2
    rw [q1] at y1
    rw [q2] at y2
    cases y1
    cases y2
    exact s.dis i j a d e hij e1 e2 m1 m2 z1 z2
  · obtain ⟨h1,h2⟩ := s.lk i o hi hm
    refine ⟨?_,fun d hd => h2 d ((hlk i (.inr hm)).2 d hd)⟩
    rw [(hlk i (.inr hm)).1,h1]; rfl
theorem zfN (hp : PassesOwn (model X.prog X.w) X.A X.env X.xe) (hc : X.calm = true) {ft : FT} {fi : FI} (hi : SItC X g m tg iter fi) (hg : ∀ g',SG X g' (zbW m) tg ft (zbW m)) (hb : ∀ g',SSs X g' ro (zbW m) (zbW m) sts s1 (zbW m))
    (hs : ∀ x,foldedSetIterable iter X.env x = pure x := by intro _; rfl) : SS X g ro mb m (.For tg iter sts [] pos) (zcF m fi ft s1) m := by
  have hgA : PG X tg (fun v σ H Q => ∃ g',tG X g' (zbW m) (zbW m) ft v σ H Q) := fun pins s σ H v u Q I r ⟨g',q⟩ => (hg g').2 pins s σ H v u Q I r q
  have hbA : PSs X sts (fun D σ H => ∃ g',tS X g' ro (zbW m) (zbW m) (zbW m) s1 D σ H) := fun pins s σ H D I ⟨g',q⟩ => (hb g').2 pins s σ H D I q
  refine ⟨rfl,PS.imp (zgS hp hc hi hgA hbA hs) fun D σ H ⟨r,G,si,q⟩ => ⟨r,G,si,zag (zbn si rfl q) fun ds q J G0 H0 w0 Y => ?_⟩⟩
  have si0 := si.grow w0
  refine ⟨fun i n σ1 H1 => ∃ r1 G1,SI X (ziX m r σ G0 H0) (zbW m) r1 G1 σ1 H1∧i≤ds.length∧n = ds.length - i∧oTo X g ro m mb G1 D (forF ft s1 (ds.drop i) r1),⟨ds.length,r,G0,si0.lock,Nat.zero_le _,rfl,oTo.gle q w0.ge⟩,?_⟩
  rintro i n σ1 H1 ⟨r1,G1,si1,hi,rfl,q1⟩
  have wg : Grow X.K G0 H0 G1 H1 := si1.grown
  by_cases hlt : i < ds.length
  · have hd : ds.drop i = ds[i]::ds.drop (i + 1) := List.drop_eq_getElem_cons hlt
    rw [hd] at q1
    unfold forF at q1
    refine .inr ⟨Y.go G1 H1 i wg hlt,fun σ' H' => ∃ r' G',SI X (ziX m r σ G0 H0) (zbW m) r' G' σ' H'∧oTo X g ro m mb G' D (forF ft s1 (ds.drop (i + 1)) r'),fun σ' H' ⟨r',G',si',q'⟩ => ⟨ds.length - (i + 1),by omega,r',G',si',hlt,rfl,q'⟩,fun x H' y => ?_⟩
    obtain ⟨G',w',rv⟩ := Y.yld G1 H1 i x H' ds[i] wg y (List.getElem?_eq_getElem hlt)
    cases eft : ft ds[i] r1 with
    | none => simp only [eft] at q1; exact q1.elim
    | some r2 =>
      simp only [eft] at q1
      refine ⟨ziX m r σ G0 H0,r1,G',ds[i],si1.grow w',rv,r2,eft,fun σ2 si2 => ⟨ziX m r σ G0 H0,r2,G',si2,?_⟩⟩
      cases eb : s1 r2 with
      | nx r' => simp only [eb] at q1; exact fun σ3 G3 H3 le3 si3 => ⟨r',G3,si3,oTo.gle q1 (Gle.trans w'.ge le3)⟩
      | ct r' => simp only [eb] at q1; exact fun σ3 G3 H3 le3 si3 => ⟨r',G3,si3,oTo.gle q1 (Gle.trans w'.ge le3)⟩
      | bk r' => simp only [eb] at q1; exact fun σ3 G3 H3 le3 si3 => q1 σ3 G3 H3 (Gle.trans w'.ge le3) (si0.unlock si3)
      | rt d =>
        simp only [eb] at q1
        intro v G2 H2 wr rv2
        refine q1 v G2 H2 (si0.grown.trans wr) ?_
        cases ro with
        | false => exact rv2
        | true =>
          rcases rv2 with ⟨a,e1,e2,e3⟩ | z
          · exact .inl ⟨a,e1,si0.grown.back e2,e3⟩
          · exact .inr z
      | exc x r' => exact fun pins e s' σ3 G3 H3 le3 _ _ ex => (show False from ex).elim
      | stuck => simp only [eb] at q1; exact q1
  · have e : i = ds.length := by omega
    subst e
    rw [List.drop_length] at q1
    exact .inl ⟨Y.stop G1 H1 wg,q1 σ1 G1 H1 (Gle.refl _) (si0.unlock si1)⟩
noncomputable def zbr (m : List Md) (p : FQ) (body : FS) : Nat→FS
  | 0,_ => .stuck
  | n + 1,r => onE m r (p r) fun c => if c = true then (match body r with
      | .nx r' => zbr m p body n r'
      | .ct r' => zbr m p body n r'
      | .bk r' => .nx r'
      | o => o) else .nx r
theorem zhA (n : Nat) (hp : PassesOwn (model X.prog X.w) X.A X.env X.xe) (hc : SQ X g m c p) (hb : SSs X g ro m m sts s1 m) : SS X g ro mb m (.While c sts [] pos) (zbr m p s1 n) m := by
  refine ⟨rfl,PS.imp (zlA hp hc hb.2) fun D σ H ⟨r,G,si,q⟩ => ?_⟩
  refine ⟨fun n σ H => ∃ r G,SI X g m r G σ H∧oTo X g ro m mb G D (zbr m p s1 n r),⟨n,r,G,si,q⟩,?_⟩
  rintro n σ1 H1 ⟨r1,G1,si1,q1⟩
  cases n with
  | zero => exact q1.elim
  | succ n =>
    unfold zbr at q1
    refine ⟨r1,G1,si1,zag (zbn si1 rfl q1) fun c q2 G2 H2 w2 => ?_⟩
    cases c with
    | false => rw [if_neg Bool.false_ne_true] at q2 ⊢; exact q2 σ1 G2 H2 w2.ge (si1.grow w2)
    | true =>
      rw [if_pos rfl] at q2 ⊢
      refine ⟨fun σ' H' => ∃ r G,SI X g m r G σ' H'∧oTo X g ro m mb G D (zbr m p s1 n r),fun σ' H' h => ⟨n,Nat.lt_succ_self _,h⟩,r1,G2,si1.grow w2,?_⟩
      cases eb : s1 r1 with
      | nx r' => simp only [eb] at q2; exact fun σ3 G3 H3 le3 si3 => ⟨r',G3,si3,oTo.gle q2 (Gle.trans w2.ge le3)⟩
      | ct r' => simp only [eb] at q2; exact fun σ3 G3 H3 le3 si3 => ⟨r',G3,si3,oTo.gle q2 (Gle.trans w2.ge le3)⟩
      | bk r' => simp only [eb] at q2; exact fun σ3 G3 H3 le3 si3 => q2 σ3 G3 H3 (Gle.trans w2.ge le3) si3
      | rt d => simp only [eb] at q2; exact q2
      | exc x r' => simp only [eb] at q2; exact fun pins e s' σ3 G3 H3 le3 => q2 pins e s' σ3 G3 H3 (Gle.trans w2.ge le3)
      | stuck => simp only [eb] at q2; exact q2
end
noncomputable def noX : Res D→Res D
  | .ok d => .ok d
  | _ => .stuck
@[simp] theorem noX_ok (d : D) : noX (.ok d) = .ok d := rfl
inductive ArgsOk (K : PySem.W.Frag) (G : GH) (H : Hp) : List Md→List V→List D→Prop where
  | nil : ArgsOk K G H [] [] []
  | sh {v : V} {d : D} {ms : List Md} {vs : List V} {ds : List D} : RG K G v d→ArgsOk K G H ms vs ds→ArgsOk K G H (.sh::ms) (v::vs) (d::ds)
  | bw {v : V} {d : D} {ms : List Md} {vs : List V} {ds : List D} : RB K G H v d→ArgsOk K G H ms vs ds→ArgsOk K G H (.bw::ms) (v::vs) (d::ds)
section
variable {K : PySem.W.Frag} {G G' : GH} {H H' : Hp}
theorem ArgsOk.len {ms : List Md} {vs : List V} {ds : List D} (h : ArgsOk K G H ms vs ds) : vs.length = ms.length∧ds.length = ms.length := by
  induction h with
  | nil => exact ⟨rfl,rfl⟩
  | sh h t ih => exact ⟨congrArg (· + 1) ih.1,congrArg (· + 1) ih.2⟩
  | bw h t ih => exact ⟨congrArg (· + 1) ih.1,congrArg (· + 1) ih.2⟩
theorem ArgsOk.app {dvs : List V} {dds : List D} (hs : Paired Scl dvs dds) : ∀ {ms : List Md} {vs : List V} {ds : List D},ArgsOk K G H ms vs ds→ArgsOk K G H (ms++List.replicate dds.length .sh) (vs++dvs) (ds++dds)
  | _,_,_,.nil => by
    induction hs with
    | nil => exact .nil
    | cons h t ih => exact .sh (.scl h) ih
  | _,_,_,.sh h t => .sh h (t.app hs)
  | _,_,_,.bw h t => .bw h (t.app hs)
theorem ArgsOk.get : ∀ {ms : List Md} {vs : List V} {ds : List D} {i : Nat} {d : D},ArgsOk K G H ms vs ds→ds[i]? = some d→∃ v,vs[i]? = some v∧((ms[i]? = some .sh∧RG K G v d)∨(ms[i]? = some .bw∧RB K G H v d))
  | _,_,_,_,_,.nil,e => by simp at e
  | _,_,_,0,_,.sh h t,e => by simp at e; subst e; exact ⟨_,rfl,.inl ⟨rfl,h⟩⟩
  | _,_,_,0,_,.bw h t,e => by simp at e; subst e; exact ⟨_,rfl,.inr ⟨rfl,h⟩⟩
  | _,_,_,i + 1,d,.sh h t,e => by
    obtain ⟨v,h1,h2⟩ := t.get (i := i) (d := d) (by simpa using e)
    exact ⟨v,by simpa using h1,by simpa using h2⟩
  | _,_,_,i + 1,d,.bw h t,e => by
    obtain ⟨v,h1,h2⟩ := t.get (i := i) (d := d) (by simpa using e)
    exact ⟨v,by simpa using h1,by simpa using h2⟩
end
noncomputable def spM (K : PySem.W.Frag) (ro : Bool) (ms : List Md) (F : List D→Res D) : Sp := fun vs H Q _ => ∃ G ds,GOk K G H∧ArgsOk K G H ms vs ds∧fin (F ds) (fun d => ∀ v G' H',Grow K G H G' H'→RV ro K H G' H' v d→Q v H') fun _ => False
noncomputable def outR (ro : Bool) : Out→Res D
  | .nx _ => if ro = true then .stuck else .ok .non
  | .rt d => .ok d
  | .exc x _ => .exc x
  | _ => .stuck
noncomputable def zap (n : Nat) (ds : List D) : Rho := ds.map some++List.replicate (n - ds.length) none
noncomputable def zex (n : Nat) (ms : List Md) : List Md := ms++List.replicate (n - ms.length) .sh
section
variable {P : Program} {w : World} {K : PySem.W.Frag} {mg : Str → Option Value} {base : Heap}
theorem zic {X : Cx} {N : List Str} {ms : List Md} {vs : List V} {ds : List D} {G : GH} {H : Hp} (gk : GOk X.K G H) (rs : ArgsOk X.K G H ms vs ds) (hn : ms.length≤N.length) : SI X ⟨G,H,fun _ => none⟩ (zex N.length ms) (zap N.length ds) G (L2.start N vs) H := by
  obtain ⟨l1,l2⟩ := rs.len
  have e1 : (L2.start N vs).length = N.length := by unfold L2.start; rw [List.length_append,List.length_map,List.length_replicate]; omega
  have e2 : (zap N.length ds).length = N.length := by unfold zap; rw [List.length_append,List.length_map,List.length_replicate]; omega
  have e3 : (zex N.length ms).length = N.length := by unfold zex; rw [List.length_append,List.length_replicate]; omega
  have at_ : ∀ (i : Nat) d,(zap N.length ds)[i]? = some (some d)→i < ms.length∧(zex N.length ms)[i]? = ms[i]?∧∃ v,(L2.start N vs)[i]? = some (some v)∧((ms[i]? = some .sh∧RG X.K G v d)∨(ms[i]? = some .bw∧RB X.K G H v d)) := fun i d h => by
    unfold zap at h
    by_cases hi : i < ds.length
    · rw [List.getElem?_append_left (by simpa using hi),List.getElem?_map] at h
      have hd : ds[i]? = some d := by
        cases z : ds[i]? with
        | none => rw [z] at h; cases h
        | some d' => rw [z] at h; cases h; rfl
      obtain ⟨v,hv,rv⟩ := rs.get hd
      refine ⟨by omega,?_,v,?_,rv⟩
      · unfold zex
        rw [List.getElem?_append_left (by omega)]
      · unfold L2.start
        rw [List.getElem?_append_left (by rw [List.length_map]; omega),List.getElem?_map,hv]
        rfl
    · rw [List.getElem?_append_right (by simpa using hi),List.getElem?_replicate] at h
      split at h <;> cases h
  refine ⟨gk,fun _ _ e => e,fun _ _ e => e,fun _ _ => rfl,by rw [e3,e1],by rw [e1,e2],fun i d h hm => ?_,fun i d h hm => ?_,fun i d h hm => ?_,fun i j a d e _ h _ hm => ?_,fun i o h => nomatch h⟩
  · obtain ⟨_,hq,v,h1,h2⟩ := at_ i d h
    rw [hq] at hm
    rcases h2 with ⟨_,h2⟩ | ⟨h3,h2⟩
    · exact ⟨v,h1,h2⟩
    · rw [hm] at h3; cases h3
  · obtain ⟨_,hq,v,h1,h2⟩ := at_ i d h
    rw [hq] at hm
    rcases h2 with ⟨h3,h2⟩ | ⟨h3,h2⟩ <;> rw [hm] at h3 <;> cases h3
  · obtain ⟨_,hq,v,h1,h2⟩ := at_ i d h
    rw [hq] at hm
    rcases h2 with ⟨h3,h2⟩ | ⟨h3,h2⟩
    · rw [hm] at h3; cases h3
    · refine ⟨v,h1,?_⟩
      rcases h2 with h2 | ⟨a,rfl,h2⟩
      · exact .inl h2
      · exact .inr ⟨a,rfl,h2,h2.ob.isS⟩
  · obtain ⟨_,hq,v,h1,h2⟩ := at_ i d h
    rw [hq] at hm
    rcases h2 with ⟨h3,h2⟩ | ⟨h3,h2⟩ <;> rw [hm] at h3 <;> cases h3
theorem zmj {X : Cx} {ro : Bool} {fs : FS} {m' : List Md} {G : GH} {H : Hp} {r : Rho} {Q : VK} (q : fin (outR ro (fs r)) (fun d => ∀ v G' H',Grow X.K G H G' H'→RV ro X.K H G' H' v d→Q v H') fun _ => False) :
    oTo X ⟨G,H,fun _ => none⟩ ro m' [] G { nx := fun _ H' => Q .non H',rt := Q } (fs r) := by
  cases e : fs r with
  | nx r' =>
    rw [e] at q
    cases ro with
    | false => exact fun σ' G' H' _ si => q .non G' H' si.grown (.scl .non)
    | true => exact q.elim
  | rt d => rw [e] at q; exact fun v G' H' wg rv => q v G' H' wg rv
  | bk r' => rw [e] at q; exact q.elim
  | ct r' => rw [e] at q; exact q.elim
  | exc x r' => rw [e] at q; exact q.elim
  | stuck => rw [e] at q; exact q
theorem zm3 {x qual : Str} {st : Stmt} {f : Addr} {fd : FuncData} {N ps : List Str} {k : Nat} {ro : Bool} {ms : List Md} {fs : FS} {m' : List Md} (F : Fun K x qual st f fd) (S : FnScope N ps (zac st)) (hms : ms.length = ps.length)
    (hbody : ∀ (cdv : Value) (A : Around) (outer : List Env) (s : Shared) (H : Hp) (g : GE) (E : XK),Room k (A.deeper (envOfC qual (zac st) s.heap.objs.size f cdv)) →
      SSs (cxOf CX0 P w K mg base N qual (zac st) f cdv A outer s H E).nox g ro [] (zex N.length ms) (zbM st) fs m') :
    FnOk P w K mg base CX0 (k + 1) f fd ps (spM K ro ms fun ds => outR ro (fs (zap N.length ds))) := by
  refine F.ok S (fun vs H Q E ⟨G,ds,gk,rs,q⟩ => rs.len.1.trans hms) fun cdv A outer s H vs Q E hr h => ?_
  obtain ⟨G,ds,gk,rs,q⟩ := h
  have hpl : ps.length≤N.length := by have := congrArg List.length S.pre; rw [List.length_take] at this; omega
  exact ⟨_,(hbody cdv A outer s H ⟨G,H,fun _ => none⟩ E hr).2,zap N.length ds,G,zic gk rs (by omega),zmj q⟩
end
section
variable {X : Cx} {g : GE} {m : List Md} {e : Expr} {f : FE} {es : List Expr} {fl : Rho → Res (List D)} {k : Nat} {fa : Addr} {fd : FuncData} {ps : List Str} {F : List D → Res D} {dvs : List V} {ds : List Value} {dds : List D} {x : Str} {p pos : Pos} {ms : List Md}
noncomputable def tLM (X : Cx) (g : GE) (m : List Md) (ms : List Md) (f : Rho→Res (List D)) : TA := fun σ H Q => ∃ r G,SI X g m r G σ H∧fin (f r) (fun ds => ∀ vs G' H',Grow X.K G H G' H'→ArgsOk X.K G' H' ms vs ds→Q vs H') (XW X σ G H)
noncomputable def SAM (X : Cx) (g : GE) (m : List Md) (es : List Expr) (ms : List Md) (f : Rho→Res (List D)) : Prop := PA X es (tLM X g m ms f)
theorem zaI : SAM X g m [] [] lNil := PA.imp zfP fun σ H Q ⟨r,G,si,k⟩ => k [] G H (Grow.refl si.gok) .nil
theorem m_sh (ha : SE X g m e f) (hr : SAM X g m es ms fl) (hs : starEach (e::es) X.env = (false,eval e X.env)::starEach es X.env := by rfl) : SAM X g m (e::es) (.sh::ms) (zab f fl) := by
  refine PA.imp (zcT ha hr hs) fun σ H Q ⟨r,G,si,k⟩ => ⟨r,G,si,zag (zah k) fun d k1 v G1 H1 w1 r1 => ⟨r,G1,si.grow w1,?_⟩⟩
  exact zbb (zah k1) w1 fun ds z vs G2 H2 w2 r2 => z (v::vs) G2 H2 (w1.trans w2) (.sh (r1.mono w2.ge) r2)
theorem m_bw (ha : SB X g m e f) (hr : SAM X g m es ms fl) (hs : starEach (e::es) X.env = (false,eval e X.env)::starEach es X.env := by rfl) : SAM X g m (e::es) (.bw::ms) (zab f fl) := by
  refine PA.imp (zcT ha hr hs) fun σ H Q ⟨r,G,si,k⟩ => ⟨r,G,si,zag (zah k) fun d k1 v G1 H1 w1 r1 => ⟨r,G1,si.grow w1,?_⟩⟩
  exact zbb (zah k1) w1 fun ds z vs G2 H2 w2 r2 => z (v::vs) G2 H2 (w1.trans w2) (.bw (r1.mono w2) r2)
noncomputable def zaq (fl : Rho→Res (List D)) (dds : List D) (F : List D→Res D) : FE := fun r => (fl r).bind fun ds => noX (F (ds++dds))
theorem zhk {ro : Bool} {vs : List V} {zs : List D} {G : GH} {H : Hp} {Q : VK} (gk : GOk X.K G H) (rs : ArgsOk X.K G H ms vs zs) (hsc : Paired Scl dvs dds) (q : fin (noX (F (zs++dds))) (fun d => ∀ v G' H',Grow X.K G H G' H'→RV ro X.K H G' H' v d→Q v H') fun _ => False) :
    spM X.K ro (ms++List.replicate dds.length .sh) F (vs++dvs) H Q E0 := by
  refine ⟨G,zs++dds,gk,rs.app hsc,?_⟩
  cases e : F (zs++dds) with
  | ok d => rw [e] at q; exact q
  | exc x => rw [e] at q; exact q.elim
  | stuck => rw [e] at q; exact q.elim
theorem zg7 {α : Type} {r : Res α} {q : α→Prop} {x : D→Prop} (h : fin r q x) (hr : ∀ e,r≠.exc e) : fin r q fun _ => False := by
  cases r with
  | ok a => exact h
  | exc e => exact absurd rfl (hr e)
  | stuck => exact h
theorem zmS (r : Res D) (e : D) : noX r≠.exc e := by cases r <;> simp [noX]
theorem zpq (G1 : FnOk X.prog X.w X.K X.mg X.base CX0 k fa fd ps (spM X.K false (ms++List.replicate dds.length .sh) F)) (hr : Room k X.A) (hg : Gl X x) (hm : X.mg x = some (.ref fa)) (hk : PySem.W.keepIn X.K (.ref fa) = true) (hb : zfK X.K fd ps ds) (hd : Vals dvs ds) (hsc : Paired Scl dvs dds)
    (ha : SAM X g m (e::es) ms fl) (hdb : (x == ("__debug__" : Str)) = false := by decide) (he : starEach (e::es) X.env = (false,eval e X.env)::starEach es X.env := by rfl) (hpl : (backTo pos (starEach es X.env)).any (·.1) = false := by rfl) :
    SE X g m (.Call (.Name x p) (e::es) [] pos) (zaq fl dds F) := by
  refine PE.imp (zhH G1 hr hg hm hk hb hd znY ha hdb he hpl) fun σ H Q ⟨r,G,si,q⟩ => ⟨r,G,si,?_⟩
  cases ez : fl r with
  | ok zs =>
    unfold zaq at q
    rw [ez] at q
    intro vs G' H' w' rs
    exact zhk w'.ok rs hsc (zag (zg7 q (zmS _)) fun d k v G2 H2 w2 rv => k v G2 H2 (w'.trans w2) rv)
  | exc x => unfold zaq at q; rw [ez] at q; exact q
  | stuck => unfold zaq at q; rw [ez] at q; exact q
noncomputable def ownF (f : FE) : FE := fun r => (f r).bind fun d => match d with
  | .non => .stuck
  | d => .ok d
theorem zqb (G1 : FnOk X.prog X.w X.K X.mg X.base CX0 k fa fd ps (spM X.K true (ms++List.replicate dds.length .sh) F)) (hr : Room k X.A) (hg : Gl X x) (hm : X.mg x = some (.ref fa)) (hk : PySem.W.keepIn X.K (.ref fa) = true) (hb : zfK X.K fd ps ds) (hd : Vals dvs ds) (hsc : Paired Scl dvs dds)
    (ha : SAM X g m (e::es) ms fl) (hdb : (x == ("__debug__" : Str)) = false := by decide) (he : starEach (e::es) X.env = (false,eval e X.env)::starEach es X.env := by rfl) (hpl : (backTo pos (starEach es X.env)).any (·.1) = false := by rfl) :
    SO X g m (.Call (.Name x p) (e::es) [] pos) (ownF (zaq fl dds F)) := by
  refine PE.imp (zhH G1 hr hg hm hk hb hd znY ha hdb he hpl) fun σ H Q ⟨r,G,si,q⟩ => ⟨r,G,si,?_⟩
  cases ez : fl r with
  | ok zs =>
    have q := zah q
    unfold zaq at q
    rw [ez] at q
    intro vs G' H' w' rs
    refine zhk w'.ok rs hsc (zag (zg7 q (zmS _)) fun d k v G2 H2 w2 rv => ?_)
    rcases rv with ⟨a,rfl,hn,ho⟩ | ⟨rfl,rfl⟩
    · cases d with
      | non => exact k.elim
      | _ => exact k a G2 H2 (w'.trans w2) (w'.back hn) ho
    · exact k.elim
  | exc x => have q := zah q; unfold zaq at q; rw [ez] at q; exact q
  | stuck => have q := zah q; unfold zaq at q; rw [ez] at q; exact q
end
end DL
end
section
namespace DL
open PySem PySem.Spec PyProof.Rows L2
theorem zme {env : Env} : ∀ (l : List (Str × NameKind)) (cs : List (Str × Addr)),(∀ x∈l,x.2 = .free→∃ c,env.cells.lookup x.1 = some c)→(∀ x c,cs.lookup x = some c→env.cells.lookup x = some c) →
    ∃ cl,(forIn l cs (fun (x : Str × NameKind) (cs : List (Str × Addr)) => if (x.2 == NameKind.free) = true then (do let a ← cellOf env x.1; pure (ForInStep.yield ((x.1,a)::cs))) else pure (ForInStep.yield cs)) : Sem (List (Str × Addr))) = pure cl ∧
      (∀ x c,cl.lookup x = some c→env.cells.lookup x = some c)∧(∀ x,(x,NameKind.free)∈l→∃ c,cl.lookup x = some c)∧(∀ x c,cs.lookup x = some c→∃ c',cl.lookup x = some c') := by
  intro l
  induction l with
  | nil => intro cs _ h; exact ⟨cs,rfl,h,fun x hx => (by cases hx),fun x c h => ⟨c,h⟩⟩
  | cons y l ih =>
    intro cs hf hc
    obtain ⟨n,k⟩ := y
    by_cases hk : k = .free
    · subst hk
      obtain ⟨c,ec⟩ := hf (n,.free) List.mem_cons_self rfl
      have e1 : cellOf env n = pure c := by unfold cellOf; rw [ec]
      have hc' : ∀ x c',((n,c)::cs).lookup x = some c'→env.cells.lookup x = some c' := fun x c' h => by
        rw [List.lookup_cons] at h
        cases q : x == n with
        | true => rw [q] at h; cases h; rw [eq_of_beq q]; exact ec
        | false => rw [q] at h; exact hc x c' h
      obtain ⟨cl,e2,h1,h2,h3⟩ := ih ((n,c)::cs) (fun x hx => hf x (List.mem_cons_of_mem _ hx)) hc'
      refine ⟨cl,?_,h1,fun x hx => ?_,fun x c' h => ?_⟩
      · rw [← e2]
        rw [List.forIn_cons]
        show (cellOf env n >>= fun a => pure (ForInStep.yield ((n,a)::cs))) >>= _ = _
        rw [e1]
        rfl
      · rcases List.mem_cons.mp hx with z | z
        · cases z; exact h3 n c (by rw [List.lookup_cons]; simp)
        · exact h2 x z
      · cases q : x == n with
        | true => exact h3 x c (by rw [List.lookup_cons,q])
        | false => exact h3 x c' (by rw [List.lookup_cons,q]; exact h)
    · obtain ⟨cl,e2,h1,h2,h3⟩ := ih cs (fun x hx => hf x (List.mem_cons_of_mem _ hx)) hc
      have hb : (k == NameKind.free) = false := by simpa using hk
      refine ⟨cl,?_,h1,fun x hx => ?_,h3⟩
      · rw [← e2,List.forIn_cons]
        simp only [hb,Bool.false_eq_true,if_false]
        rfl
      · rcases List.mem_cons.mp hx with z | z
        · cases z; exact absurd rfl hk
        · exact h2 x z
theorem zi8 {scope : Scope} {env : Env} (hf : ∀ x∈scope.names,x.2 = .free→∃ c,env.cells.lookup x.1 = some c) :
    ∃ cl,closureFor scope env = pure cl∧(∀ x c,cl.lookup x = some c→env.cells.lookup x = some c)∧(∀ x,(x,NameKind.free)∈scope.names→∃ c,cl.lookup x = some c) := by
  obtain ⟨cl,e,h1,h2,_⟩ := zme scope.names [] hf (fun x c h => by cases h)
  refine ⟨cl,?_,h1,h2⟩
  have e0 : closureFor scope env = ((forIn scope.names ([] : List (Str × Addr)) (fun (x : Str × NameKind) (cs : List (Str × Addr)) => if (x.2 == NameKind.free) = true then (do let a ← cellOf env x.1; pure (ForInStep.yield ((x.1,a)::cs))) else pure (ForInStep.yield cs)) : Sem (List (Str × Addr))) >>= fun cs => pure cs) := rfl
  rw [e0,e]
  rfl
theorem zdP {f : Str→NameKind→NameKind} : ∀ (l : List (Str × NameKind)) (x : Str),(l.map fun y => (y.1,f y.1 y.2)).lookup x = (l.lookup x).map (f x)
  | [],x => rfl
  | (n,k)::l,x => by
    rw [List.map_cons,List.lookup_cons,List.lookup_cons]
    cases q : x == n with
    | true => simp [eq_of_beq q]
    | false => exact zdP l x
noncomputable def relK (env : Env) (n : Str) (k : NameKind) : NameKind := if (k == .free && env.scope.kind == .function && env.kindOf n == some .cell) = true then .cell else k
theorem zdN (scope : Scope) (env : Env) (x : Str) : (relabel scope env).names.lookup x = (scope.names.lookup x).map (relK env x) := by
  rw [← zdP]
  unfold relabel
  congr 1
  apply List.map_congr_left
  intro y _
  obtain ⟨n,k⟩ := y
  show (if (k == NameKind.free && env.scope.kind == .function && env.kindOf n == some .cell) = true then (n,NameKind.cell) else (n,k)) = (n,relK env n k)
  unfold relK
  split <;> rfl
structure CompSc (X : Cx) (scope : Scope) (N' : List Str) (nl : Nat) (cap : List Nat) : Prop where
  kind : scope.kind = .function
  nocell : ∀ y∈scope.names,y.2≠.cell
  names : ∀ y∈scope.names,y.2 = .local→scope.names.lookup y.1 = some .local
  freeK : ∀ y∈scope.names,y.2 = .free→X.env.kindOf y.1 = some .cell∨X.env.kindOf y.1 = some .free
  len : N'.length = nl + cap.length
  capN : ∀ j,j < cap.length→∃ x,N'[nl + j]? = some x∧X.N[cap.getD j 0]? = some x∧scope.names.lookup x = some .free
noncomputable def cxC (X : Cx) (s₀ : Shared) (H₀ : Hp) (N' : List Str) (scope : Scope) (cl : List (Str × Addr)) (C : Addr) (fp : List Addr) : Cx where
  prog := X.prog
  w := X.w
  K := X.K
  mg := X.mg
  base := X.base
  A := X.A
  N := N'
  s₀ := s₀
  H₀ := H₀
  env := compEnvC scope cl C X.env
  outer := X.stack
  stack := X.stack
  ex := fp
  fn := fun _ => false
  calm := X.calm
  pn := []
  xe := fun _ _ => False
section
variable {X : Cx} {pins : List (Addr × Obj)} {σ : L2.St} {H : Hp} {s : Shared} {scope : Scope} {N' : List Str} {nl : Nat} {cap : List Nat} {cl : List (Str × Addr)} {C : Addr} {fp : List Addr}
theorem zm9 (I : Inv X pins σ H s) (sc : CompSc X scope N' nl cap) (h1 : ∀ x c,cl.lookup x = some c→X.env.cells.lookup x = some c) (h2 : ∀ x,(x,NameKind.free)∈scope.names→∃ c,cl.lookup x = some c)
    (hf : ∀ b∈fp,FpOk X pins H b∧b < s.heap.objs.size) (hC : s.heap.objs.size≤C) : (cxC X s H N' scope cl C fp).Ok where
  mod := I.ok.mod
  kind := sc.kind
  glob := I.ok.glob
  blt := I.ok.blt
  above := hC
  inj := fun x y c a b => I.ok.inj x y c (h1 x c a) (h1 y c b)
  has := fun x hk => by
    have hk' : (scope.names.lookup x).map (relK X.env x) = some .cell∨(scope.names.lookup x).map (relK X.env x) = some .free := by
      rw [← zdN]; exact hk
    cases e : scope.names.lookup x with
    | none => rw [e] at hk'; rcases hk' with z | z <;> cases z
    | some k =>
      have hm := PySem.mem_of_lookup e
      have kf : k = .free := by
        rw [e] at hk'
        have hk2 : relK X.env x k = .cell∨relK X.env x k = .free := by
          rcases hk' with z | z
          · exact .inl (Option.some.inj z)
          · exact .inr (Option.some.inj z)
        unfold relK at hk2
        split at hk2
        · rename_i hc
          simp only [Bool.and_eq_true,beq_iff_eq] at hc
          exact hc.1.1
        · rcases hk2 with z | z
          · exact absurd z (sc.nocell _ hm)
          · exact z
      subst kf
      exact h2 x hm
  cab := fun x c h => by cases h
  hd := I.ok.hd
  frames := I.ok.frames
  stk := .inl rfl
  exf := fun b hb => ⟨Nat.ne_of_lt (Nat.lt_of_lt_of_le (hf b hb).2 hC),fun x c e => (hf b hb).1.2.2.2.2.1 x c (h1 x c e)⟩
  bs := I.bs
  bsz := Nat.le_trans I.ok.bsz I.sz
  noex := fun b o e hb => by
    obtain ⟨_,_,_,hx,_⟩ := (hf b hb).1
    rcases hx with z | z
    · exact I.ok.noex b o e z
    · exact absurd (Nat.lt_of_lt_of_le (Heap.lt_size e) (Nat.le_trans I.ok.bsz z)) (Nat.lt_irrefl _)
  exfs := fun b hb hfs => by
    obtain ⟨_,q1,q2,_⟩ := (hf b hb).1
    rcases List.mem_cons.mp (I.stkSub b hfs) with z | z
    · exact q1 z
    · exact q2 z
  funs := I.stack
  frf := I.stkFree
end
noncomputable def zcm (ft : FT) (q : FQ) (fe : FE) (r0 : Rho) : List D→Res (List D)
  | [] => .ok []
  | d::ds => (opt (ft d r0)).bind fun r1 => (q r1).bind fun c => if c = true then (fe r1).bind fun v => (zcm ft q fe r0 ds).bind fun vs => .ok (v::vs) else zcm ft q fe r0 ds
noncomputable def capR (nl : Nat) (cap : List Nat) (r : Rho) : Rho := List.replicate nl none++cap.map fun i => r.getD i none
noncomputable def capM (nl : Nat) (cap : List Nat) (m : List Md) : List Md := List.replicate nl Md.sh++cap.map fun i => if m.getD i Md.sh = Md.sh then Md.sh else Md.bw
noncomputable def capS (nl : Nat) (cap : List Nat) (st : L2.St) : L2.St := List.replicate nl none++cap.map fun i => st.getD i none
theorem zfs {α : Type} {nl : Nat} {cap : List Nat} {u : α} {h : Nat→α} {i : Nat} (hi : nl≤i) : (List.replicate nl u++cap.map h)[i]? = (cap[i - nl]?).map h := by
  rw [List.getElem?_append_right (by simpa using hi),List.length_replicate,List.getElem?_map]
section
variable {X : Cx} {pins : List (Addr × Obj)} {σ : L2.St} {H H' : Hp} {s : Shared} {scope : Scope} {N' : List Str} {nl : Nat} {cap : List Nat} {cl : List (Str × Addr)} {C : Addr} {fp : List Addr} {g : GE} {G G' : GH} {m : List Md} {r : Rho}
theorem zq1 (si : SI X g m r G σ H) (w : Grow X.K G H G' H') : SI (cxC X s H N' scope cl C fp) ⟨G,H,fun _ => none⟩ (capM nl cap m) (capR nl cap r) G' (capS nl cap σ) H' := by
  have lens : (capM nl cap m).length = nl + cap.length := by simp [capM]
  have lens2 : (capR nl cap r).length = nl + cap.length := by simp [capR]
  have lens3 : (capS nl cap σ).length = nl + cap.length := by simp [capS]
  have rget : ∀ (i : Nat) d,(capR nl cap r)[i]? = some (some d)→nl≤i∧∃ j,cap[i - nl]? = some j∧r[j]? = some (some d) := fun i d h => by
    by_cases hi : i < nl
    · unfold capR at h
      rw [List.getElem?_append_left (by simpa using hi),List.getElem?_replicate] at h
      split at h <;> cases h
    · refine ⟨by omega,?_⟩
      unfold capR at h
      rw [zfs (by omega)] at h
      cases e : cap[i - nl]? with
      | none => rw [e] at h; cases h
      | some j =>
        rw [e] at h
        refine ⟨j,rfl,?_⟩
        have h' : r.getD j none = some d := Option.some.inj h
        rw [List.getD_eq_getElem?_getD] at h'
        cases e2 : r[j]? with
        | none => rw [e2] at h'; cases h'
        | some o => rw [e2] at h'; rw [show o = some d from h']
  have mget : ∀ (i j : Nat) md,nl≤i→cap[i - nl]? = some j→(capM nl cap m)[i]? = some md→md = if m.getD j Md.sh = Md.sh then Md.sh else Md.bw := fun i j md hi hj h => by
    unfold capM at h
    rw [zfs hi,hj] at h
    exact (Option.some.inj h).symm
  have sget : ∀ (i j : Nat) v,nl≤i→cap[i - nl]? = some j→σ[j]? = some (some v)→(capS nl cap σ)[i]? = some (some v) := fun i j v hi hj h => by
    unfold capS
    rw [zfs hi,hj]
    show some (σ.getD j none) = _
    rw [List.getD_eq_getElem?_getD,h]
    rfl
  have mj : ∀ (j : Nat) d,r[j]? = some (some d)→m[j]? = some (m.getD j Md.sh) := fun j d h => by
    have hl : j < m.length := by
      have := (List.getElem?_eq_some_iff.mp h).1
      rw [si.lr,← si.lm] at this; exact this
    rw [List.getD_eq_getElem?_getD,List.getElem?_eq_getElem hl]
    rfl
  refine ⟨w.ok,w.he,w.ge,w.gf,by rw [lens,lens3],by rw [lens2,lens3],fun i d h hm => ?_,fun i d h hm => ?_,fun i d h hm => ?_,fun i j a d e _ h _ hm => ?_,fun i o h => nomatch h⟩
  · obtain ⟨hi,j,hj,hr⟩ := rget i d h
    have e := mget i j _ hi hj hm
    have hsh : m.getD j Md.sh = Md.sh := by
      by_cases z : m.getD j Md.sh = Md.sh
      · exact z
      · rw [if_neg z] at e; cases e
    obtain ⟨v,h1,h2⟩ := si.sh j d hr (by rw [mj j d hr,hsh])
    exact ⟨v,sget i j v hi hj h1,h2.mono w.ge⟩
  · obtain ⟨hi,j,hj,hr⟩ := rget i d h
    have e := mget i j _ hi hj hm
    split at e <;> cases e
  · obtain ⟨hi,j,hj,hr⟩ := rget i d h
    have e := mget i j _ hi hj hm
    have hsh : m.getD j Md.sh≠Md.sh := by
      intro z
      rw [if_pos z] at e; cases e
    have hmj := mj j d hr
    cases q : m.getD j Md.sh with
    | sh => exact absurd q hsh
    | ow =>
      rw [q] at hmj
      obtain ⟨a,h1,h2,_⟩ := si.ow j d hr hmj
      exact ⟨_,sget i j _ hi hj h1,.inr ⟨a,rfl,h2.mono w,h2.ob.isS⟩⟩
    | bw =>
      rw [q] at hmj
      obtain ⟨v,h1,h2⟩ := si.bw j d hr hmj
      refine ⟨v,sget i j _ hi hj h1,?_⟩
      rcases h2 with h2 | ⟨a,rfl,h2,_⟩
      · exact .inl (h2.mono w.ge)
      · exact .inr ⟨a,rfl,h2.mono w,h2.ob.isS⟩
  · obtain ⟨hi,j',hj,hr⟩ := rget i d h
    have e := mget i j' _ hi hj hm
    split at e <;> cases e
theorem znb (I : Inv X pins σ H s) (ok : (cxC X s H N' scope cl C fp).Ok) (sc : CompSc X scope N' nl cap) (h1 : ∀ x c,cl.lookup x = some c→X.env.cells.lookup x = some c) (h2 : ∀ x,(x,NameKind.free)∈scope.names→∃ c,cl.lookup x = some c)
    (hN : X.N.Nodup) {s4 : Shared} {H4 : Hp} {mc : Str→Option Value} (hos : s4.os = s.os) (hb : AllBare s4.gens) (kp : ∀ b o,s.heap.get? b = some o→s4.heap.get? b = some o) (hns : s4.heap.Ns C mc) (hC : s.heap.objs.size≤C) (hHC : H4 C = none)
    (hH : ∀ b,H b = none→b < s.heap.objs.size→H4 b = none) (un : Un (frs X.stack) fp H H4 s.heap s4.heap) (hok : HOk X.prog X.w H4 s4.heap) : Inv (cxC X s H N' scope cl C fp) [] (capS nl cap σ) H4 s4 := by
  refine ⟨ok,hos,hb,un,⟨mc,hns,fun i x v e1 e2 e3 => ?_⟩,fun x c e => ?_,hHC,fun x c e => ?_,fun p hp => absurd (show p∈([] : List (Addr × Obj)) from hp) (by simp),hok,?_⟩
  · have hi : nl≤i := by
      by_cases z : i < nl
      · unfold capS at e2
        rw [List.getElem?_append_left (by simpa using z),List.getElem?_replicate] at e2
        split at e2 <;> cases e2
      · omega
    unfold capS at e2
    rw [zfs hi] at e2
    cases ej : cap[i - nl]? with
    | none => rw [ej] at e2; cases e2
    | some j =>
      rw [ej] at e2
      have hj : i - nl < cap.length := (List.getElem?_eq_some_iff.mp ej).1
      obtain ⟨x',q1,q2,q3⟩ := sc.capN (i - nl) hj
      have ed : cap.getD (i - nl) 0 = j := by rw [List.getD_eq_getElem?_getD,ej]; rfl
      rw [ed] at q2
      have ei : nl + (i - nl) = i := by omega
      rw [ei] at q1
      have e1' : N'[i]? = some x := e1
      rw [q1] at e1'
      have ex : x' = x := Option.some.inj e1'
      subst ex
      have hv : σ[j]? = some (some v) := by
        have z : σ.getD j none = some v := Option.some.inj e2
        rw [List.getD_eq_getElem?_getD] at z
        cases q : σ[j]? with
        | none => rw [q] at z; cases z
        | some o => rw [q] at z; rw [show o = some v from z]
      have hfree := PySem.mem_of_lookup q3
      have kX := sc.freeK _ hfree rfl
      obtain ⟨mx,hnx,hl⟩ := I.loc
      obtain ⟨u,ru,lk⟩ := hl j x' v q2 hv (.inr kX)
      refine ⟨u,ru,.inr ?_⟩
      obtain ⟨c,ec⟩ := h2 x' hfree
      have hkk : Env.kindOf (cxC X s H N' scope cl C fp).env x' = some .cell∨Env.kindOf (cxC X s H N' scope cl C fp).env x' = some .free := by
        have z : (relabel scope X.env).names.lookup x' = some (relK X.env x' .free) := by rw [zdN,q3]; rfl
        show (relabel scope X.env).names.lookup x' = _∨(relabel scope X.env).names.lookup x' = _
        rw [z]
        unfold relK
        split
        · exact .inl rfl
        · exact .inr rfl
      refine ⟨hkk,c,ec,?_⟩
      rcases lk with ⟨k,_⟩ | ⟨_,c',ec',hcell⟩
      · rcases kX with z | z <;> rw [k] at z <;> cases z
      · rw [h1 x' c ec] at ec'
        cases ec'
        obtain ⟨o,ho,hd⟩ := hcell
        exact ⟨o,kp c o ho,hd⟩
  · obtain ⟨v,o,ho,hd⟩ := I.cell x c (h1 x c e)
    exact ⟨v,o,kp c o ho,hd⟩
  · obtain ⟨v,o,ho,hd⟩ := I.cell x c (h1 x c e)
    exact hH c (I.freeC x c (h1 x c e)) (Heap.lt_size ho)
  · show (capS nl cap σ).length = N'.length
    rw [sc.len]
    simp [capS]
end
end DL
end
section
namespace DL
open PySem PySem.Spec PyProof.Rows L2
section
variable {prog : Program} {w : World} {A : Around} {R : Result → Shared → Prop} {s : Shared}
theorem zkT {elt target iter : Expr} {ifs : List Expr} {scope : Scope} {pos : Pos} {it acc : Value} {env : Env} (I : Nat→Shared→Prop)
    (turn : ∀ n s,I n s→wpAny (model prog w) A (pyNext it) (fun r s1 => match r with
      | none => R (.ok .next) s1
      | some v => wpAny (model prog w) A (letOwnedTupleGo target it v) (fun _ s1' => wpAny (model prog w) A (assign target env v) (fun _ s2 =>
          wpAny (model prog w) A (forIn ifs true fun c r => if r = true then do let ok ← isTrue c env (eval c env); pure (ForInStep.yield ok) else pure (ForInStep.yield r)) (fun ok s3 =>
            if ok = true then wpAny (model prog w) A (eval elt env) (fun x s4 =>
              wpAny (model prog w) A (call (.builtin "list.append") [acc,x]) (fun _ s5 => ∃ m,m < n∧I m s5) (notedBy (model prog w) A env fun e s' => R (.error e) s') s4) (notedBy (model prog w) A env fun e s' => R (.error e) s') s3
            else ∃ m,m < n∧I m s3) (notedBy (model prog w) A env fun e s' => R (.error e) s') s2) (notedBy (model prog w) A env fun e s' => R (.error e) s') s1')
          (notedBy (model prog w) A env fun e s' => R (.error e) s') s1) (notedBy (model prog w) A env fun e s' => R (.error e) s') s)
    (n : Nat) (h : I n s) : codeAny (model prog w) A (.compLoop (.ListComp elt [⟨target,iter,ifs,0⟩] scope pos) 0 it acc env) R s := by
  refine codeAny_loop rfl I (fun n s hI => ?_) n h
  show wpAny _ A ((compTurn (.ListComp elt [⟨target,iter,ifs,0⟩] scope pos) 0 it acc env).onRaise (fun x => do noteFrame x env; theTreesLotGoes x)) _ _ s
  refine wpAny_noted ?_
  rw [compTurn_list]
  refine wpAny_bind (wpAny_standAt (wpAny_bind (wpAny_mono (turn n s hI) (fun r s1 h1 => ?_) fun _ _ h' => h')))
  cases r with
  | none => exact wpAny_pure h1
  | some v =>
    refine wpAny_bind (wpAny_mono h1 (fun _ s1' h1' => ?_) fun _ _ h' => h')
    refine wpAny_bind (wpAny_mono h1' (fun _ s2 h2 => wpAny_bind (wpAny_mono h2 (fun ok s3 h3 => ?_) fun _ _ h' => h')) fun _ _ h' => h')
    cases ok with
    | false => exact wpAny_pure ⟨rfl,h3⟩
    | true =>
      exact wpAny_bind (wpAny_bind (wpAny_mono h3 (fun x s4 h4 => wpAny_bind (wpAny_mono h4 (fun _ s5 h5 => wpAny_pure (wpAny_pure ⟨rfl,h5⟩)) fun _ _ h' => h')) fun _ _ h' => h'))
end
noncomputable def SQs (X : Cx) (g : GE) (m : List Md) (ifs : List Expr) (f : FQ) : Prop := ∀ (pins : List (Addr × Obj)) (s : Shared) (σ : L2.St) (H : Hp) (Q : Bool→Hp→Prop),Inv X pins σ H s→tQ X g m f σ H Q →
  wpAny (model X.prog X.w) X.A (forIn ifs true fun c r => if r = true then do let ok ← isTrue c X.env (eval c X.env); pure (ForInStep.yield ok) else pure (ForInStep.yield r)) (TP X pins σ Q) X.xe s
section
variable {X : Cx} {g : GE} {m : List Md} {c : Expr} {p : FQ}
theorem zdj : SQs X g m [] fun _ => .ok true := fun pins s σ H Q I ⟨r,G,si,q⟩ => wpAny_tests_nil ⟨H,I,q G H (Grow.refl si.gok)⟩
theorem zmB (h : SQ X g m c p) : SQs X g m [c] p := fun pins s σ H Q I q => wpAny_tests_one (h pins s σ H Q I q)
end
noncomputable def FtOk (ft : FT) (nl : Nat) : Prop := ∀ d r r1,ft d r = some r1→r1.length = r.length∧∀ i,nl≤i→r1[i]? = r[i]?
theorem zcK {i nl : Nat} (h : i < nl) : FtOk (ftN i) nl := fun d r r1 e => by
  cases e
  exact ⟨by simp,fun j hj => by rw [List.getElem?_set_ne (by omega)]⟩
section
variable {X : Cx} {pins : List (Addr × Obj)} {σ : L2.St} {H2 : Hp} {s2 : Shared} {scope : Scope} {N' : List Str} {nl : Nat} {cap : List Nat} {cl : List (Str × Addr)} {fp : List Addr} {g : GE} {G2 : GH} {m : List Md} {r : Rho} {elt tg iter : Expr} {ifs : List Expr} {pos : Pos}
  {J : It} {it : Addr} {tn : Nat→Heap→Prop} {ds vs : List D} {ft : FT} {q : FQ} {fe : FE} {E : Value→Shared→Prop}
theorem zkU (i : Nat) : (capM nl cap m)[i]?≠some Md.ow := fun h => by
  by_cases hi : i < nl
  · unfold capM at h
    rw [List.getElem?_append_left (by simpa using hi),List.getElem?_replicate] at h
    split at h <;> cases h
  · unfold capM at h
    rw [zfs (by omega)] at h
    cases e : cap[i - nl]? with
    | none => rw [e] at h; cases h
    | some j =>
      rw [e] at h
      have h' : (if m.getD j Md.sh = Md.sh then Md.sh else Md.bw) = Md.ow := Option.some.inj h
      split at h' <;> cases h'
theorem zhh {i : Nat} (hi : i < nl) (d : D) : (capR nl cap r)[i]?≠some (some d) := fun h => by
  unfold capR at h
  rw [List.getElem?_append_left (by simpa using hi),List.getElem?_replicate] at h
  split at h <;> cases h
theorem zhe (hN : X.N.Nodup) (hcalm : X.calm = true) (sc : CompSc X scope N' nl cap) (h1 : ∀ x c,cl.lookup x = some c→X.env.cells.lookup x = some c) (h2 : ∀ x,(x,NameKind.free)∈scope.names→∃ c,cl.lookup x = some c)
    (I2 : Inv X pins σ H2 s2) (si : SI X g m r G2 σ H2) (T : Turn X.prog X.w X.K tg J fp it tn) (st : tn 0 s2.heap) (hf : ∀ b∈fp,FpOk X pins H2 b) (Y : YieldsC X.K J ds G2 H2) (hsz : ds.length≤sizeLine)
    (hg : ∀ C,SG (cxC X s2 H2 N' scope cl C fp) ⟨G2,H2,fun _ => none⟩ (capM nl cap m) tg ft (capM nl cap m)) (hft : FtOk ft nl) (hq : ∀ C,SQs (cxC X s2 H2 N' scope cl C fp) ⟨G2,H2,fun _ => none⟩ (capM nl cap m) ifs q) (he : ∀ C,SE (cxC X s2 H2 N' scope cl C fp) ⟨G2,H2,fun _ => none⟩ (capM nl cap m) elt fe)
    (hres : zcm ft q fe (capR nl cap r) ds = .ok vs) {RR : Value→Addr→Result→Shared→Prop}
    (hRR : ∀ (p C : Addr) (s' : Shared) (H' : Hp) (G' : GH),Inv X pins σ H' s'→(∃ mm,s'.heap.Ns C mm)→H' C = none→C≠X.env.locals→X.s₀.heap.objs.size≤C→(∀ x c,X.env.cells.lookup x = some c→c≠C)→(∀ z∈X.pn++pins,z.1≠C) →
      Grow X.K G2 H2 G' H'→H2 p = none→Own X.K G' H' p (.lst vs)→RR (.ref p) C (.ok .next) s') :
    wpAny (model X.prog X.w) X.A (newList []) (fun acc s3 => wpAny (model X.prog X.w) X.A (newFunctionEnv scope X.env.globals cl [] X.env.qual none .none (some X.env)) (fun cenv s4 =>
      codeAny (model X.prog X.w) X.A (.compStart (.ListComp elt [⟨tg,iter,ifs,0⟩] scope pos) 0 (.ref it) acc { cenv with scope := relabel scope X.env }) (RR acc cenv.locals) s4) E s3) E s2 := by
  refine wpAny_newObj_type (wpAny_newFunctionEnv sc.nocell (by intro y hy; simp at hy) (fun h₁ hns₁ hsb₁ => ?_) sc.kind)
  dsimp only at hns₁ hsb₁ ⊢
  generalize hH2 : s2.heap.push { cls := .type "list",dict := none,data := .seq ([] : List Value).toArray } = HH at hns₁ hsb₁ ⊢
  have hC : HH.objs.size = s2.heap.objs.size + 1 := by rw [← hH2,Heap.size_push]
  have hDC : s2.heap.objs.size≠HH.objs.size := by rw [hC]; exact Nat.ne_of_lt (Nat.lt_succ_self _)
  have hCle : s2.heap.objs.size≤HH.objs.size := by rw [hC]; exact Nat.le_succ _
  have below : ∀ b,b < s2.heap.objs.size→b≠HH.objs.size∧b≠s2.heap.objs.size := fun b hb => ⟨by rw [hC]; exact Nat.ne_of_lt (Nat.lt_succ_of_lt hb),Nat.ne_of_lt hb⟩
  have old : ∀ b o,s2.heap.get? b = some o→h₁.get? b = some o := fun b o e => hsb₁.extBut b o (below b (Heap.lt_size e)).1 (Heap.get?_push_of_some _ (hH2 ▸ Heap.get?_push_of_some _ e))
  have hacc : h₁.get? s2.heap.objs.size = some { cls := .type "list",dict := none,data := .seq ([] : List Value).toArray } := hsb₁.extBut _ _ hDC (Heap.get?_push_of_some _ (hH2 ▸ Heap.get?_push_size _ rfl))
  have hp2 : H2 s2.heap.objs.size = none := I2.hok.fresh (Nat.le_refl _)
  have hflt : ∀ b∈fp,FpOk X pins H2 b∧b < s2.heap.objs.size := fun b hb => ⟨hf b hb,by
    obtain ⟨o,e,_⟩ := T.obj 0 s2.heap st b hb
    exact Heap.lt_size e⟩
  have ok := zm9 (fp := fp) I2 sc h1 h2 hflt hCle
  generalize hXX : cxC X s2 H2 N' scope cl HH.objs.size fp = XX at ok
  have hG2p : G2 s2.heap.objs.size = none := si.gok.isN hp2
  have w0 : Grow X.K G2 H2 G2 (upd H2 s2.heap.objs.size (.lst [])) := Grow.new si.gok hp2 _
  have hok4 : HOk X.prog X.w (upd H2 s2.heap.objs.size (.lst [])) h₁ := I2.hok.laid old (Nat.le_refl _) ⟨Nat.zero_le _,[],0,.nil,hacc⟩
  have IC : Inv XX [] (capS nl cap σ) (upd H2 s2.heap.objs.size (.lst [])) { s2 with heap := h₁,toks := s2.toks + ([] : List (Str × Value)).length } := by
    subst hXX
    refine znb I2 ok sc h1 h2 hN rfl I2.bare old hns₁ hCle ?_ (fun b hb hlt => ?_) (Un.laid old (Nat.le_refl _) hp2) hok4
    · rw [zan (Ne.symm hDC)]; exact I2.hok.fresh hCle
    · rw [zan (below b hlt).2]; exact hb
  have SC : SI XX ⟨G2,H2,fun _ => none⟩ (capM nl cap m) (capR nl cap r) G2 (capS nl cap σ) (upd H2 s2.heap.objs.size (.lst [])) := by
    subst hXX
    exact zq1 si w0
  have hst₁ : tn 0 h₁ := T.keep _ _ _ st fun b _ o e => old b o e
  have hfX : ∀ (H' : Hp),(∀ b∈fp,H' b = none)→∀ b∈fp,FpOk XX [] H' b := fun H' hn b hb => by
    clear IC SC
    subst hXX
    obtain ⟨z0,z1,z2,z3,z4,z5⟩ := hf b hb
    refine ⟨hn b hb,?_,?_,?_,?_,?_⟩
    · exact (below b (hflt b hb).2).1
    · intro hfs
      rcases List.mem_cons.mp (I2.stkSub b hfs) with z | z
      · exact z1 z
      · exact z2 z
    · exact .inl hb
    · exact fun x c e => z4 x c (h1 x c e)
    · intro p hp; exact absurd (show p∈([] : List (Addr × Obj)) from hp) (by simp)
  have eA : XX.A = X.A := Eq.rec (motive := fun z _ => z.A = X.A) rfl hXX
  have eP : XX.prog = X.prog := Eq.rec (motive := fun z _ => z.prog = X.prog) rfl hXX
  have eW : XX.w = X.w := Eq.rec (motive := fun z _ => z.w = X.w) rfl hXX
  have eK : XX.K = X.K := Eq.rec (motive := fun z _ => z.K = X.K) rfl hXX
  have eX : XX.xe = fun _ _ => False := Eq.rec (motive := fun z _ => z.xe = fun _ _ => False) rfl hXX
  have eE : XX.env = compEnvC scope cl HH.objs.size X.env := Eq.rec (motive := fun z _ => z.env = compEnvC scope cl HH.objs.size X.env) rfl hXX
  have eC : XX.calm = true := Eq.rec (motive := fun z _ => z.calm = true) hcalm hXX
  have eH : XX.H₀ = H2 := Eq.rec (motive := fun z _ => z.H₀ = H2) rfl hXX
  have hg' : PG XX tg (tG XX ⟨G2,H2,fun _ => none⟩ (capM nl cap m) (capM nl cap m) ft) := Eq.rec (motive := fun z _ => PG z tg (tG z ⟨G2,H2,fun _ => none⟩ (capM nl cap m) (capM nl cap m) ft)) (hg _).2 hXX
  have hq' : SQs XX ⟨G2,H2,fun _ => none⟩ (capM nl cap m) ifs q := Eq.rec (motive := fun z _ => SQs z ⟨G2,H2,fun _ => none⟩ (capM nl cap m) ifs q) (hq _) hXX
  have he' : SE XX ⟨G2,H2,fun _ => none⟩ (capM nl cap m) elt fe := Eq.rec (motive := fun z _ => SE z ⟨G2,H2,fun _ => none⟩ (capM nl cap m) elt fe) (he _) hXX
  have fin' : ∀ {H' : Hp} {s' : Shared} {σ' : L2.St} {G' : GH} {ws : List V},Inv XX [] σ' H' s'→Grow X.K G2 H2 G' H'→H' s2.heap.objs.size = some (.lst ws)→G' s2.heap.objs.size = none→RGs X.K G' ws vs→RR (.ref s2.heap.objs.size) HH.objs.size (.ok .next) s' := fun {H' s' σ' G' ws} J1 wg hpp hgp rs => by
    clear IC SC hfX hg' hq' he' eA eP eW eK eX eE eC eH
    subst hXX
    have un := J1.base
    refine hRR _ _ s' H' G' ?_ (let ⟨mm,hn,_⟩ := J1.loc; ⟨mm,hn⟩) J1.free (Nat.ne_of_gt (Nat.lt_of_lt_of_le I2.lt hCle)) (Nat.le_trans I2.sz hCle) (fun x c e z => ?_) (fun z hz e => ?_) wg hp2 ⟨hgp,.lst hpp rs⟩
    · refine I2.call' J1.os un J1.hok J1.bare fun b hb => ?_
      obtain ⟨z0,z1,z2,z3,z4,z5⟩ := hf b hb
      exact ⟨z3,z1,z4,z5⟩
    · obtain ⟨v,o,ho,_⟩ := I2.cell x c e
      exact absurd (Nat.lt_of_lt_of_le (Heap.lt_size ho) hCle) (by rw [z]; exact Nat.lt_irrefl _)
    · have := (I2.pin z hz).1
      exact absurd (Nat.lt_of_lt_of_le (Heap.lt_size this) hCle) (by rw [e]; exact Nat.lt_irrefl _)
  have loop : codeAny (model X.prog X.w) X.A (.compLoop (.ListComp elt [⟨tg,iter,ifs,0⟩] scope pos) 0 (.ref it) (.ref s2.heap.objs.size) (compEnvC scope cl HH.objs.size X.env)) (RR (.ref s2.heap.objs.size) HH.objs.size)
      { s2 with heap := h₁,toks := s2.toks + ([] : List (Str × Value)).length } := by
    refine zkT (fun n s' => ∃ (i : Nat) (σ' : L2.St) (H' : Hp) (G' : GH) (ws : List V) (done rest : List D),Inv XX [] σ' H' s'∧SI XX ⟨G2,H2,fun _ => none⟩ (capM nl cap m) (capR nl cap r) G' σ' H'∧tn i s'.heap∧(∀ b∈fp,H' b = none)∧Grow X.K G2 H2 G' H' ∧
        H' s2.heap.objs.size = some (.lst ws)∧G' s2.heap.objs.size = none∧RGs X.K G' ws done∧zcm ft q fe (capR nl cap r) (ds.drop i) = .ok rest∧vs = done++rest∧done.length≤i∧i≤ds.length∧n = ds.length - i) ?_ ds.length
      ⟨0,_,_,G2,[],[],vs,IC,SC,hst₁,fun b hb => ?_,w0,zao,hG2p,.nil,hres,rfl,Nat.le_refl _,Nat.zero_le _,rfl⟩
    rotate_left
    · rw [zan (below b (hflt b hb).2).2]; exact (hf b hb).1
    rintro n s3 ⟨i,σ3,H3,G3,ws,done,rest,I3,S3,st3,fr3,w3,hp3,hg3,rs3,hr3,hv3,hd3,hi3,rfl⟩
    have weaken : ∀ {α : Type} {t : Sem α} {Q : α→Shared→Prop} {s' : Shared} {E' : Value→Shared→Prop},wpAny (model XX.prog XX.w) XX.A t Q XX.xe s'→wpAny (model X.prog X.w) X.A t Q E' s' := fun h => by
      rw [eP,eW,eA,eX] at h
      exact wpAny_mono h (fun _ _ z => z) fun _ _ z => z.elim
    by_cases hlt : i < ds.length
    · have hd : ds.drop i = ds[i]::ds.drop (i + 1) := List.drop_eq_getElem_cons hlt
      rw [hd] at hr3
      unfold zcm at hr3
      have it3 := T.item XX eP eW eK eC i [] s3 σ3 H3 (notedBy (model X.prog X.w) X.A (compEnvC scope cl HH.objs.size X.env) fun e s' => RR (.ref s2.heap.objs.size) HH.objs.size (.error e) s') I3 (hfX H3 fr3) st3 (Y.go G3 H3 i w3 hlt)
      rw [eA] at it3
      refine thn it3 fun rr s4 ⟨u,hr,h4⟩ => ?_
      subst hr
      refine thn h4 fun _ s5 ⟨x,H5,I5,r5,y5,st5,fr5⟩ => ?_
      obtain ⟨G5,w5,rv5⟩ := Y.yld G3 H3 i x H5 ds[i] w3 y5 (List.getElem?_eq_getElem hlt)
      have w25 := w3.trans w5
      cases eft : ft ds[i] (capR nl cap r) with
      | none => rw [eft] at hr3; cases hr3
      | some r1 =>
        rw [eft] at hr3
        simp only [opt_some,bind_ok] at hr3
        have I5' := I5.pinned (hfX H5 fr5) (T.obj _ _ st5)
        have S5 : SI XX ⟨G2,H2,fun _ => none⟩ (capM nl cap m) (capR nl cap r) G5 σ3 H5 := S3.grow (by rw [eK]; exact w5)
        have rv5' : RG XX.K G5 x ds[i] := by rw [eK]; exact rv5
        have as5 := hg' _ s5 σ3 H5 x u (fun σ6 H6 => H6 = H5∧SI XX ⟨G2,H2,fun _ => none⟩ (capM nl cap m) r1 G5 σ6 H5) I5' r5 ⟨capR nl cap r,G5,ds[i],S5,rv5',r1,eft,fun σ6 si6 => ⟨rfl,si6⟩⟩
        rw [eE] at as5
        refine thn (weaken as5) fun _ s6 ⟨σ6,H6,I6,e6,S6⟩ => ?_
        subst e6
        obtain ⟨fl1,fl2⟩ := hft _ _ _ eft
        cases eq1 : q r1 with
        | stuck => rw [eq1] at hr3; cases hr3
        | exc xx => rw [eq1] at hr3; cases hr3
        | ok b1 =>
          rw [eq1] at hr3
          simp only [bind_ok] at hr3
          have te6 := hq' _ s6 σ6 H6 (fun b H7 => b = b1∧∃ G7,Grow X.K G5 H6 G7 H7) I6 ⟨r1,G5,S6,by rw [eq1]; exact fun G7 H7 w7 => ⟨rfl,G7,by rw [eK] at w7; exact w7⟩⟩
          rw [eE] at te6
          refine thn (weaken te6) fun b s7 ⟨H7,I7,eb,G7,w7⟩ => ?_
          subst eb
          have S7 : SI XX ⟨G2,H2,fun _ => none⟩ (capM nl cap m) r1 G7 σ6 H7 := S6.grow (by rw [eK]; exact w7)
          have w27 := w25.trans w7
          have hp7 : H7 s2.heap.objs.size = some (.lst ws) := w7.he _ _ (w5.he _ _ hp3)
          have hg7 : G7 s2.heap.objs.size = none := by
            rw [w7.gf _ (by rw [w5.he _ _ hp3]; simp),w5.gf _ (by rw [hp3]; simp)]; exact hg3
          have back : ∀ {σ8 : L2.St} {H8 : Hp} {G8 : GH} {s8 : Shared},Inv XX ([]++zfO fp s5.heap) σ8 H8 s8→Inv XX [] σ8 H8 s8∧tn (i + 1) s8.heap∧∀ b∈fp,H8 b = none := fun {σ8 H8 G8 s8} I8 => by
            refine ⟨I8.unpinned,T.keep _ _ _ st5 fun b hb o e => (I8.pin (b,o) (List.mem_append_right _ (List.mem_append_right _ (zcd hb e)))).1,fun b hb => ?_⟩
            obtain ⟨o,e,_⟩ := T.obj _ _ st5 b hb
            exact (I8.pin (b,o) (List.mem_append_right _ (List.mem_append_right _ (zcd hb e)))).2.1
          have less : ∀ {σ8 : L2.St} {H8 : Hp} {G8 : GH},SI XX ⟨G2,H2,fun _ => none⟩ (capM nl cap m) r1 G8 σ8 H8→SI XX ⟨G2,H2,fun _ => none⟩ (capM nl cap m) (capR nl cap r) G8 σ8 H8 := fun h => h.less fl1.symm fun j d hj => by
            by_cases hjn : j < nl
            · exact absurd hj (zhh hjn d)
            · rw [fl2 j (by omega)]; exact hj
          cases b with
          | false =>
            rw [if_neg Bool.false_ne_true] at hr3 ⊢
            obtain ⟨I7',t7,f7⟩ := back (G8 := G7) I7
            exact ⟨ds.length - (i + 1),by omega,i + 1,σ6,H7,G7,ws,done,rest,I7',less S7,t7,f7,w27,hp7,hg7,rs3.mono (Gle.trans w5.ge w7.ge),hr3,hv3,by omega,hlt,rfl⟩
          | true =>
            rw [if_pos rfl] at hr3 ⊢
            cases ee1 : fe r1 with
            | stuck => rw [ee1] at hr3; cases hr3
            | exc xx => rw [ee1] at hr3; cases hr3
            | ok d1 =>
              rw [ee1] at hr3
              simp only [bind_ok] at hr3
              cases er : zcm ft q fe (capR nl cap r) (ds.drop (i + 1)) with
              | stuck => rw [er] at hr3; cases hr3
              | exc xx => rw [er] at hr3; cases hr3
              | ok rest' =>
                rw [er] at hr3
                simp only [bind_ok] at hr3
                cases hr3
                have el7 := he' _ s7 σ6 H7 (fun v H8 => ∃ G8,Grow X.K G7 H7 G8 H8∧RG X.K G8 v d1) I7 ⟨r1,G7,S7,by rw [ee1]; exact fun v G8 H8 w8 rv => ⟨G8,by rw [eK] at w8; exact w8,by rw [eK] at rv; exact rv⟩⟩
                rw [eE] at el7
                refine thn (weaken el7) fun u8 s8 ⟨v8,H8,I8,r8,G8,w8,rv8⟩ => ?_
                have hp8 : H8 s2.heap.objs.size = some (.lst ws) := w8.he _ _ hp7
                have hg8 : G8 s2.heap.objs.size = none := by rw [w8.gf _ (by rw [hp7]; simp)]; exact hg7
                have S8 : SI XX ⟨G2,H2,fun _ => none⟩ (capM nl cap m) r1 G8 σ6 H8 := S7.grow (by rw [eK]; exact w8)
                have hlen := Paired.length rs3
                have ap8 := zed (X := XX) _ s8 σ6 H8 (.ref s2.heap.objs.size) [v8] (.ref s2.heap.objs.size) [u8] (fun v H9 => H9 = upd H8 s2.heap.objs.size (.lst (ws++[v8]))) I8 rfl (.cons r8 .nil) ⟨_,ws,v8,rfl,rfl,hp8,by omega,rfl⟩
                refine thn (weaken ap8) fun u9 s9 ⟨v9,H9,I9,r9,e9⟩ => ?_
                subst e9
                obtain ⟨I9',t9,f9⟩ := back (G8 := G8) I9
                have rsn : RGs X.K G8 (ws++[v8]) (done++[d1]) := Paired.snoc (rs3.mono (Gle.trans (Gle.trans w5.ge w7.ge) w8.ge)) rv8
                have w28 := w27.trans w8
                refine ⟨ds.length - (i + 1),by omega,i + 1,σ6,_,G8,ws++[v8],done++[d1],rest',I9',less (S8.other hg8 hp2 zkU _),t9,f9,?_,zao,hg8,rsn,er,by rw [hv3,List.append_assoc]; rfl,by rw [List.length_append,List.length_singleton]; omega,hlt,rfl⟩
                refine ⟨fun b e hb => (w28.ok b e hb).mono (fun _ _ z => z) fun o z => ?_,fun b o hb => ?_,w28.ge,w28.gf⟩
                · rw [zan (by rintro rfl; rw [hg8] at hb; cases hb)]; exact z
                · rw [zan (by rintro rfl; rw [hp2] at hb; cases hb)]; exact w28.he b o hb
    · have e : i = ds.length := by omega
      subst e
      rw [List.drop_length] at hr3
      cases hr3
      rw [List.append_nil] at hv3
      subst hv3
      have dn := T.done XX eP eW eK eC ds.length [] s3 σ3 H3 (notedBy (model X.prog X.w) X.A (compEnvC scope cl HH.objs.size X.env) fun e s' => RR (.ref s2.heap.objs.size) HH.objs.size (.error e) s') I3 (hfX H3 fr3) st3 (Y.stop G3 H3 w3)
      rw [eA] at dn
      refine thn dn fun rr s4 ⟨hr,I4⟩ => ?_
      subst hr
      exact fin' I4 w3 hp3 hg3 rs3
  exact codeAny_compStart_list loop (T.self X.A 0 _ _ _ hst₁ loop)
end
end DL
end
section
namespace DL
open PySem PySem.Spec PyProof.Rows L2
noncomputable def noXL : Res (List D)→Res (List D)
  | .ok d => .ok d
  | _ => .stuck
@[simp] theorem noXL_ok (d : List D) : noXL (.ok d) = .ok d := rfl
noncomputable def zbp (nl : Nat) (cap : List Nat) (fi : FI) (ft : FT) (q : FQ) (fe : FE) : FE := fun r => (fi r).bind fun ds => (opt (sz ds)).bind fun ds => (noXL (zcm ft q fe (capR nl cap r) ds)).bind fun vs => .ok (.lst vs)
section
variable {X : Cx} {g : GE} {m mb : List Md} {scope : Scope} {N' : List Str} {nl : Nat} {cap : List Nat} {elt tg iter : Expr} {ifs : List Expr} {pos pos' spos : Pos} {fi : FI} {ft : FT} {q : FQ} {fe : FE} {ro : Bool}
theorem zl9 {r : Rho} {d : D} (h : zbp nl cap fi ft q fe r = .ok d) : ∃ ds vs,fi r = .ok ds∧ds.length≤sizeLine∧zcm ft q fe (capR nl cap r) ds = .ok vs∧d = .lst vs := by
  unfold zbp at h
  cases e1 : fi r with
  | ok ds =>
    rw [e1,bind_ok] at h
    cases e2 : sz ds with
    | none => rw [e2] at h; cases h
    | some ds' =>
      obtain ⟨rfl,hl⟩ := zlf e2
      rw [e2,opt_some,bind_ok] at h
      cases e3 : zcm ft q fe (capR nl cap r) ds' with
      | ok vs => rw [e3,noXL_ok,bind_ok] at h; cases h; exact ⟨ds',vs,rfl,hl,e3,rfl⟩
      | exc x => rw [e3] at h; cases h
      | stuck => rw [e3] at h; cases h
  | exc x => rw [e1] at h; cases h
  | stuck => rw [e1] at h; cases h
theorem zg9 {r : Rho} {P : D→Prop} {x : D→Prop} (h : fin (zbp nl cap fi ft q fe r) P x) : fin (fi r) (fun ds => ∃ vs,ds.length≤sizeLine∧zcm ft q fe (capR nl cap r) ds = .ok vs∧P (.lst vs)) x := by
  unfold zbp at h
  refine zag (zah h) fun ds h1 => ?_
  obtain ⟨ds',e2,h2⟩ := zaL (zah h1)
  obtain ⟨rfl,hl⟩ := zlf e2
  cases e3 : zcm ft q fe (capR nl cap r) ds' with
  | ok vs => rw [e3] at h2; exact ⟨vs,hl,rfl,h2⟩
  | exc x => rw [e3] at h2; exact h2.elim
  | stuck => rw [e3] at h2; exact h2.elim
theorem CompSc.clo {pins : List (Addr × Obj)} {σ : L2.St} {H : Hp} {s : Shared} (sc : CompSc X scope N' nl cap) (ok : X.Ok) : ∃ cl,closureFor scope X.env = pure cl∧(∀ x c,cl.lookup x = some c→X.env.cells.lookup x = some c)∧(∀ x,(x,NameKind.free)∈scope.names→∃ c,cl.lookup x = some c) :=
  zi8 fun y hy hf => ok.has y.1 (sc.freeK y hy hf)
theorem zdk (hN : X.N.Nodup) (hcalm : X.calm = true) (sc : CompSc X scope N' nl cap) (hi : SItC X g m tg iter fi) (hg : ∀ s0 H0 cl C fp g',SG (cxC X s0 H0 N' scope cl C fp) g' (capM nl cap m) tg ft (capM nl cap m)) (hft : FtOk ft nl)
    (hq : ∀ s0 H0 cl C fp g',SQs (cxC X s0 H0 N' scope cl C fp) g' (capM nl cap m) ifs q) (he : ∀ s0 H0 cl C fp g',SE (cxC X s0 H0 N' scope cl C fp) g' (capM nl cap m) elt fe)
    (hs : ∀ x,foldedSetIterable iter X.env x = pure x := by intro _; rfl) : SO X g m (.ListComp elt [⟨tg,iter,ifs,0⟩] scope pos) (zbp nl cap fi ft q fe) := by
  intro pins s σ H Q I h
  obtain ⟨r,G,si,k⟩ := h
  obtain ⟨cl,hcl,h1,h2⟩ := sc.clo (pins := pins) (σ := σ) (H := H) (s := s) I.ok
  have k1 := zg9 k
  rw [eval_ListComp]
  refine wpAny_comprehension_free (use := none) rfl hs hcl sc.kind sc.names (thn (hi pins s σ H (fun J H' => ∃ G' ds vs,Grow X.K G H G' H'∧YieldsC X.K J ds G' H'∧ds.length≤sizeLine∧zcm ft q fe (capR nl cap r) ds = .ok vs ∧
    (∀ a G' H',Grow X.K G H G' H'→H a = none→Own X.K G' H' a (.lst vs)→Q (.ref a) H')) I ⟨r,G,si,zag k1 fun ds ⟨vs,z1,z2,z3⟩ J G' H' w y => ⟨G',ds,vs,w,y,z1,z2,z3⟩⟩) fun v s1 hv => thn hv fun itv s2 hv2 => ?_)
  obtain ⟨it,fp,tn,J,H2,rfl,I2,T,st,hf,G2,ds,vs,w2,Y,hsz,hres,hQ⟩ := hv2
  refine zhe (RR := fun acc C => compPost (model X.prog X.w) X.A X.xe none (EP X pins σ Q) acc C) hN hcalm sc h1 h2 I2 (si.grow w2) T st hf Y hsz (fun C => hg _ _ _ _ _ _) hft (fun C => hq _ _ _ _ _ _) (fun C => he _ _ _ _ _ _) hres ?_
  intro p C s' H' G' I' hns hC1 hC2 hC3 hC4 hC5 w' hp ho
  obtain ⟨mm,hn⟩ := hns
  refine ⟨mm,hn,fun h' hsb => ⟨.ref p,H',?_,rfl,hQ p G' H' (w2.trans w') (w2.back hp) ho⟩⟩
  exact I'.turned (it := C) (t' := s'.toks) (fun b o hb e => hsb.extBut b o hb e) hC1 hC2.symm.symm (.inr hC3) hC4 hC5
theorem zjx (i : Nat) {y : Str} (hN : X.N.Nodup) (hcalm : X.calm = true) (hy : X.N[i]? = some y) (hyl : X.env.scope.names.lookup y = some .local) (sc : CompSc X scope N' nl cap) (hi : SItC X g m tg iter fi) (hg : ∀ s0 H0 cl C fp g',SG (cxC X s0 H0 N' scope cl C fp) g' (capM nl cap m) tg ft (capM nl cap m)) (hft : FtOk ft nl)
    (hq : ∀ s0 H0 cl C fp g',SQs (cxC X s0 H0 N' scope cl C fp) g' (capM nl cap m) ifs q) (he : ∀ s0 H0 cl C fp g',SE (cxC X s0 H0 N' scope cl C fp) g' (capM nl cap m) elt fe)
    (hsw : swapsWith (.ListComp elt [⟨tg,iter,ifs,0⟩] scope pos) (some (.Name y pos')) spos.line X.env = pure true := by rfl) (hs : ∀ x,foldedSetIterable iter X.env x = pure x := by intro _; rfl) :
    SS X g ro mb m (.Assign [.Name y pos'] (.ListComp elt [⟨tg,iter,ifs,0⟩] scope pos) spos) (setF m i (zbp nl cap fi ft q fe)) (m.set i .ow) := by
  refine ⟨by simp,?_⟩
  intro pins s σ H D0 I h
  obtain ⟨r,G,si,k⟩ := h
  obtain ⟨cl,hcl,h1,h2⟩ := sc.clo (pins := pins) (σ := σ) (H := H) (s := s) I.ok
  have k1 := zg9 (zbn si (m' := m.set i .ow) (by simp) k)
  rw [exec_Assign_Name_used _ _ _ _ hsw]
  refine wpAny_bind (wpAny_standAt (wpAny_bind ?_))
  show wpAny _ X.A (do let _ ← comprehension (.ListComp elt [⟨tg,iter,ifs,0⟩] scope pos) scope X.env _ (newList []) false (eval iter X.env) (some (assign (.Name y pos') X.env))) _ _ s
  refine wpAny_bind (wpAny_mono (wpAny_comprehension_free (use := some (assign (.Name y pos') X.env)) (Q := fun _ s' => SP X pins D0 .next s') rfl hs hcl sc.kind sc.names (thn (hi pins s σ H (fun J H' => ∃ G' ds vs,Grow X.K G H G' H'∧YieldsC X.K J ds G' H'∧ds.length≤sizeLine∧zcm ft q fe (capR nl cap r) ds = .ok vs ∧
    (∀ σ' G' H',Gle G G'→SI X g (m.set i .ow) (r.set i (some (.lst vs))) G' σ' H'→D0.nx σ' H')) I ⟨r,G,si,zag k1 fun ds ⟨vs,z1,z2,z3⟩ J G' H' w y => ⟨G',ds,vs,w,y,z1,z2,z3⟩⟩) fun v s1 hv => thn hv fun itv s2 hv2 => ?_)) (fun _ s' hq => wpAny_pure (wpAny_pure hq)) fun _ _ e => e)
  obtain ⟨it,fp,tn,J,H2,rfl,I2,T,st,hf,G2,ds,vs,w2,Y,hsz,hres,hQ⟩ := hv2
  refine zhe (RR := fun acc C => compPost (model X.prog X.w) X.A X.xe (some (assign (.Name y pos') X.env)) (fun _ s' => SP X pins D0 .next s') acc C) hN hcalm sc h1 h2 I2 (si.grow w2) T st hf Y hsz (fun C => hg _ _ _ _ _ _) hft (fun C => hq _ _ _ _ _ _) (fun C => he _ _ _ _ _ _) hres ?_
  intro p C s' H' G' I' hns hC1 hC2 hC3 hC4 hC5 w' hp ho
  obtain ⟨mm,hn⟩ := hns
  show wpAny _ X.A (assign (.Name y pos') X.env (.ref p)) _ _ s'
  refine wpAny_assign_Name (ze9 I' hN hy (.inl hyl) (v := .ref p) rfl (fun s'' I'' ⟨a,hsb,ha⟩ => ?_) (.inr hyl))
  have hCa : C≠a := by
    rcases ha with z | z
    · rw [z]; exact hC2
    · exact (hC4 y a z).symm
  refine ⟨mm,hn.sameBut hsb hCa,fun h' hsb' => ?_⟩
  refine ⟨_,H',I''.turned (it := C) (t' := s''.toks) (fun b o hb e => hsb'.extBut b o hb e) hC1 hC2 (.inr hC3) hC4 hC5,?_⟩
  exact hQ _ G' H' (w2.trans w').ge (si.setN (w2.trans w') i (w2.back hp) ho)
end
end DL
end
section
namespace DL
open PySem PySem.Spec PyProof.Rows L2
noncomputable def MutD (K : PySem.W.Frag) (r : V→List V→Hp→VK→Prop) (mk : D→List D→Option D) : Prop := ∀ (G : GH) (H : Hp) (a : Addr) (d : D) (vs : List V) (ds : List D) (d' : D) (Q : VK),GOk K G H→Own K G H a d→RGs K G vs ds→mk d ds = some d' →
  (∀ o',OwnO K G (upd H a o') a d'→Q .non (upd H a o'))→r (.ref a) vs H Q
noncomputable def tyB (T : String) : D→Bool
  | .lst _ => T == "list"
  | .dic _ => T == "dict"
  | _ => false
noncomputable def mutF (T : String) (m : List Md) (i : Nat) (fl : Rho→Res (List D)) (mk : D→List D→Option D) : FS := fun r => match r[i]? with
  | some (some d) => if tyB T d = true then onE m r (fl r) fun ds => (match mk d ds with
    | some d' => .nx (r.set i (some d'))
    | none => .stuck) else .stuck
  | _ => .stuck
theorem zoW {K : PySem.W.Frag} {G : GH} {H : Hp} {a : Addr} {d : D} {T : String} (o : Own K G H a d) (t : tyB T d = true) : tyV K T (.ref a) H := by
  cases o.ob with
  | lst r s => exact .inl ⟨eq_of_beq t,_,SqL.of r⟩
  | dic r s => exact .inr (.inr (.inl ⟨eq_of_beq t,.inl ⟨_,.inl r⟩⟩))
section
variable {X : Cx} {g : GE} {m mb : List Md} {e a b o : Expr} {es : List Expr} {f fa fb : FE} {fl : Rho → Res (List D)} {pos pos' apos cpos : Pos} {ro : Bool} {x name : Str} {T id : String} {R : V → List V → Hp → VK → Prop} {mk : D → List D → Option D}
theorem zlQ (i : Nat) (hm : m[i]? = some .ow) (hk : MutD X.K R mk) {D0 : Ends} {σ : L2.St} {H : Hp} (h : tS X g ro m m mb (mutF T m i fl mk) D0 σ H) :
    ∃ v,σ[i]? = some (some v)∧tyV X.K T v H∧tL X g m fl σ H fun xs H2 => R v xs H2 fun _ H1 => D0.nx σ H1 := by
  obtain ⟨r,G,si,k⟩ := h
  unfold mutF at k
  cases er : r[i]? with
  | none => simp only [er] at k; exact (show False from k).elim
  | some oo =>
    cases oo with
    | none => simp only [er] at k; exact (show False from k).elim
    | some d =>
      simp only [er] at k
      by_cases ht : tyB T d = true
      · rw [if_pos ht] at k
        obtain ⟨a,h1,h2,h3⟩ := si.mut hm er
        refine ⟨_,h1,zoW h2 ht,r,G,si,zag (zbn si rfl k) fun ds k2 vs G' H' w rs => ?_⟩
        cases em : mk d ds with
        | none => simp only [em] at k2; exact (show False from k2).elim
        | some d' =>
          simp only [em] at k2
          obtain ⟨a',h1',h2',h3'⟩ := (si.grow w).mut hm er
          rw [h1] at h1'; cases h1'
          exact hk G' H' a d vs ds d' _ w.ok h2' rs em fun o' ob => k2 σ G' _ w.ge (h3' o' d' ob)
      · rw [if_neg ht] at k; exact (show False from k).elim
theorem zlm (i : Nat) (hm : m[i]? = some .ow) (pa : PlainAttrs T) (slot : Slot T name id) (hty : typeOf (.builtin id) = pure (.type "method_descriptor")) (hmt : MtR X id R) (hk : MutD X.K R mk) (hN : X.N[i]? = some x) (hv : Vis X.env.scope x) (ha : SA X g m (e::es) fl)
    (hd : (x == ("__debug__" : Str)) = false := by decide) (hcd : (x == ("__classdict__" : Str)) = false := by decide)
    (hbase : attributeBase (.Name x pos') name X.env (eval (.Name x pos') X.env) = eval (.Name x pos') X.env := by rfl)
    (hfew : ((backTo cpos (starEach (e::es) X.env)).all (fun x => ! x.1) && (backToKw cpos (keywordEach [] X.env)).all (fun x => x.1.isSome) && decide ((e::es).length + ([] : List Keyword).length + (if ([] : List Keyword).isEmpty then 0 else 1) < 30)) = true := by rfl)
    (hline : (apos.endLine == cpos.line) = true := by rfl) (hst : starEach (e::es) X.env = (false,eval e X.env)::starEach es X.env := by rfl) (hplain : (backTo cpos (starEach es X.env)).any (·.1) = false := by rfl) :
    SS X g ro mb m (.Expr (.Call (.Attribute (.Name x pos') name apos) (e::es) [] cpos) pos) (mutF T m i fl mk) m :=
  ⟨rfl,PS.imp (zhG (zpW pa slot hty hmt (zdO hN hv hd hcd) ha hbase hfew hline hst hplain)) fun D0 σ H h => zlQ i hm hk h⟩
noncomputable def appD : D→List D→Option D
  | .lst ds,[d] => if ds.length < sizeLine then some (.lst (ds++[d])) else none
  | _,_ => none
theorem znc {K : PySem.W.Frag} : MutD K zjM appD := by
  intro G H a d vs ds d' Q gk ow rs e q
  unfold appD at e
  split at e
  · split at e
    · rename_i hl
      cases e
      cases ow.ob with
      | lst r s =>
        cases rs with
        | cons r1 t =>
          cases t
          have := Paired.length s
          exact ⟨a,_,_,rfl,rfl,r,by omega,q _ (.lst zao (Paired.snoc s r1))⟩
    · cases e
  · cases e
noncomputable def zow (x : Int) (n : Nat) : Nat := if x < 0 then (x + (n : Int)).toNat else min x.toNat n
noncomputable def insL {α : Type} (xs : List α) (x : Int) (y : α) : List α := xs.take (zow x xs.length)++y::xs.drop (zow x xs.length)
noncomputable def zjK : V→List V→Hp→VK→Prop := fun x vs H Q => ∃ l xs i y,x = .ref l∧vs = [.int i,y]∧H l = some (.lst xs)∧-(2 ^ 63)≤i∧i < 2 ^ 63∧xs.length < sizeLine∧Q .non (upd H l (.lst (insL xs i y)))
theorem zj6 : MtR X "list.insert" zjK := by
  intro pins s σ H x vs v us Q I rx rv h
  obtain ⟨l,xs,i,y,rfl,rfl,hH,h1,h2,hz,q⟩ := h
  cases rx
  obtain ⟨u,w',rfl,⟨t,rfl⟩,ry⟩ := zoT rv
  obtain ⟨z,its,n,r,hl,e⟩ := I.lstM hH
  have hfit : ¬(! Builtin.List.listFitsIndex i) = true := by rw [fitsIndex_both h1 h2]; exact Bool.false_ne_true
  refine call_meets PySem.F.slot_list_insert ⟨_,e,rfl⟩ PySem.F.entry_list_insert (PySem.F.args_list_insert_3 _ _ _) (AutoListH.list_insert_list_int_val_1 l its.toArray n i t w' hfit (by rw [List.size_toArray]; omega)) ⟨e,?_⟩
  refine ⟨.non,_,I.lset (its' := insL its i w') hH e ?_ ?_ ?_,rfl,q⟩
  · show ((its.toArray.extract 0 (if i < 0 then (i + ((its.toArray.size : Nat) : Int)).toNat else min i.toNat its.toArray.size)).push w'++its.toArray.extract (if i < 0 then (i + ((its.toArray.size : Nat) : Int)).toNat else min i.toNat its.toArray.size)) = (insL its i w').toArray
    rw [List.size_toArray]
    unfold insL zow
    generalize (if i < 0 then (i + ((its.length : Nat) : Int)).toNat else min i.toNat its.length) = k
    apply Array.ext'
    simp
    exact List.take_of_length_le (by rw [List.length_drop]; exact Nat.le_refl _)
  · unfold insL
    rw [hl]
    exact Vals.append (r.take _) (.cons ry (r.drop _))
  · unfold insL
    rw [List.length_append,List.length_cons,List.length_take,List.length_drop]
    omega
noncomputable def insD : D→List D→Option D
  | .lst ds,[.int i,d] => if ds.length < sizeLine∧-(2 ^ 63)≤i∧i < 2 ^ 63 then some (.lst (insL ds i d)) else none
  | _,_ => none
theorem zqB {α β : Type} {F : α→β→Prop} {l : List α} {r : List β} {x : α} {y : β} (h : Paired F l r) (i : Int) (hxy : F x y) : Paired F (insL l i x) (insL r i y) := by
  unfold insL
  rw [Paired.length h]
  exact Paired.app (Paired.tk _ h) (.cons hxy (Paired.dr _ h))
theorem zqA {K : PySem.W.Frag} : MutD K zjK insD := by
  intro G H a d vs ds d' Q gk ow rs e q
  unfold insD at e
  split at e
  · split at e
    · rename_i hl
      cases e
      cases ow.ob with
      | lst r s =>
        cases rs with
        | cons r1 t =>
          cases t with
          | cons r2 t =>
            cases t
            have := Paired.length s
            exact ⟨a,_,_,_,rfl,by rw [r1.int gk],r,hl.2.1,hl.2.2,by omega,q _ (.lst zao (zqB s _ r2))⟩
    · cases e
  · cases e
end
noncomputable def zbY : D→Bool
  | .non => true
  | .bl _ => true
  | .int _ => true
  | .str _ => true
  | _ => false
noncomputable def toV : D→V
  | .non => .non
  | .bl b => .bl b
  | .int i => .int i
  | .str x => .str x
  | _ => .non
noncomputable def eqs (a b : D) : Bool := eqV (toV a) (toV b)
@[simp] theorem eqs_int (a b : Int) : eqs (.int a) (.int b) = (a == b) := rfl
@[simp] theorem eqs_str (a b : Str) : eqs (.str a) (.str b) = (a == b) := rfl
@[simp] theorem eqs_non_int (b : Int) : eqs .non (.int b) = false := rfl
@[simp] theorem eqs_int_non (b : Int) : eqs (.int b) .non = false := rfl
section
variable {K : PySem.W.Frag} {G : GH} {H : Hp} {v : V} {d : D}
theorem RB.flat (h : RB K G H v d) (gk : GOk K G H) (hf : zbY d = true) : v = toV d∧zdW v = true := by
  cases d with
  | non => rw [h.non gk]; exact ⟨rfl,rfl⟩
  | bl b => rw [h.bl gk]; exact ⟨rfl,rfl⟩
  | int i => rw [h.int gk]; exact ⟨rfl,rfl⟩
  | str x => rw [h.str gk]; exact ⟨rfl,rfl⟩
  | _ => cases hf
theorem zqP {xs : List V} {ds : List D} (h : RGs K G xs ds) (gk : GOk K G H) (hf : ds.all zbY = true) : xs = ds.map toV∧xs.all zdW = true := by
  induction h with
  | nil => exact ⟨rfl,rfl⟩
  | cons r t ih =>
    rw [List.all_cons,Bool.and_eq_true] at hf
    obtain ⟨e1,e2⟩ := RB.flat (H := H) r.rb gk hf.1
    obtain ⟨e3,e4⟩ := ih hf.2
    exact ⟨by rw [List.map_cons,← e3,← e1],by rw [List.all_cons,e2,e4]; rfl⟩
end
noncomputable def keyD : D→Option Key
  | .int i => some (.inl i)
  | .str x => some (.inr x)
  | _ => none
noncomputable def hasK (kvs : List (Key × D)) (k : Key) : Bool := kvs.any fun kv => decide (kv.1 = k)
noncomputable def getK (kvs : List (Key × D)) (k : Key) : Option D := (kvs.find? fun kv => decide (kv.1 = k)).map (·.2)
noncomputable def inB (x c : D) : Option Bool := match c with
  | .lst ds => if zbY x = true∧ds.all zbY = true then some (ds.any fun y => eqs y x) else none
  | .tup ds => if zbY x = true∧ds.all zbY = true then some (ds.any fun y => eqs y x) else none
  | .dic kvs => (keyD x).map (hasK kvs)
  | .str y => match x with
    | .str z => some (!(Builtin.Str.occurrences y z 0 y.length 1).isEmpty)
    | _ => none
  | _ => none
noncomputable def inD (x c : D) : Option D := (inB x c).map .bl
noncomputable def ninD (x c : D) : Option D := (inB x c).map fun b => .bl (! b)
theorem zm4 {K : PySem.W.Frag} {G : GH} {k : Key} {ps : List (Key × V)} {kvs : List (Key × D)} (h : RKs K G ps kvs) (d : D) (e : getK kvs k = some d) : ∃ v,valV ps k = some v∧RG K G v d := by
  induction h with
  | nil => cases e
  | @cons p q ps kvs r t ih =>
    obtain ⟨k1,v1⟩ := p
    obtain ⟨k2,d2⟩ := q
    obtain ⟨e1,r1⟩ := r
    have e1' : k1 = k2 := e1
    subst e1'
    by_cases hk : k1 = k
    · subst hk
      have : d2 = d := by simpa [getK,List.find?_cons] using e
      subst this
      exact ⟨v1,zeX rfl,r1⟩
    · have e' : getK kvs k = some d := by simpa [getK,List.find?_cons,hk] using e
      obtain ⟨v,h1,h2⟩ := ih e'
      exact ⟨v,by rw [zd3 hk]; exact h1,h2⟩
theorem zkA {K : PySem.W.Frag} {G : GH} {k : Key} {ps : List (Key × V)} {kvs : List (Key × D)} (h : RKs K G ps kvs) (e : getK kvs k = none) : valV ps k = none := by
  induction h with
  | nil => rfl
  | @cons p q ps kvs r t ih =>
    obtain ⟨k1,v1⟩ := p
    obtain ⟨k2,d2⟩ := q
    obtain ⟨e1,r1⟩ := r
    have e1' : k1 = k2 := e1
    subst e1'
    by_cases hk : k1 = k
    · subst hk; simp [getK,List.find?_cons] at e
    · have e' : getK kvs k = none := by simpa [getK,List.find?_cons,hk] using e
      rw [zd3 hk]; exact ih e'
theorem zqH (kvs : List (Key × D)) (k : Key) : hasK kvs k = (getK kvs k).isSome := by
  induction kvs with
  | nil => rfl
  | cons p r ih =>
    by_cases e : p.1 = k
    · simp [hasK,getK,List.find?_cons,e]
    · have h1 : hasK (p::r) k = hasK r k := by simp [hasK,e]
      have h2 : getK (p::r) k = getK r k := by simp [getK,List.find?_cons,e]
      rw [h1,h2,ih]
theorem zkl {K : PySem.W.Frag} {G : GH} {H : Hp} {v : V} {d : D} {k : Key} (gk : GOk K G H) (h : RB K G H v d) (e : keyD d = some k) : v = kV k := by
  cases d with
  | int i => cases e; exact h.int gk
  | str x => cases e; exact h.str gk
  | _ => cases e
section
variable {X : Cx} {g : GE} {m mb : List Md} {e a b o c : Expr} {f fa fb fc : FE} {pos pos' : Pos}
noncomputable def rInD (neg : Bool) : R2 := fun y x H Q => ∃ a o,x = .ref a∧DGet H a y o∧Q (.bl (if neg then ! o.isSome else o.isSome)) H
theorem zp7 (hu : X.A.units + 1 < cLine) : OpR X (compareOp .In) (rInD false) := by
  intro pins s σ H y x u v Q I ry rx h
  obtain ⟨a,oo,rfl,hg,q⟩ := h
  cases rx
  exact d_in hu I hg ry fun s' I' => ⟨.bl _,H,I',rfl,q⟩
theorem zn2 (hu : X.A.units + 1 < cLine) : OpR X (compareOp .NotIn) (rInD true) := by
  intro pins s σ H y x u v Q I ry rx h
  obtain ⟨a,oo,rfl,hg,q⟩ := h
  cases rx
  exact zoI hu I hg ry fun s' I' => ⟨.bl _,H,I',rfl,q⟩
noncomputable def rInA (K : PySem.W.Frag) (neg : Bool) : R2 := fun x y H Q => rIn K neg x y H Q∨rInD neg x y H Q∨∃ i j,x = .str i∧y = .str j∧Q (.bl (if neg then !(!(Builtin.Str.occurrences j i 0 j.length 1).isEmpty) else !(Builtin.Str.occurrences j i 0 j.length 1).isEmpty)) H
theorem zmG (hu : X.A.units + 1 < cLine) : OpR X (compareOp .In) (rInA X.K false) := OpR.or zjW (OpR.or (zp7 hu) zjV)
theorem zn3 (hu : X.A.units + 1 < cLine) : OpR X (compareOp .NotIn) (rInA X.K true) := OpR.or zgU (OpR.or (zn2 hu) zgT)
theorem zku {K : PySem.W.Frag} (neg : Bool) : OpD K (rInA K neg) (fun x c => (inB x c).map fun b => .bl (if neg then ! b else b)) := by
  intro G H v1 v2 d1 d2 d Q gk r1 r2 e q
  have seq : ∀ {xs : List V} {ds : List D} {p : Addr},RGs K G xs ds→v2 = .ref p→(SqL K H p xs∨SqT K H p xs)→zbY d1 = true→ds.all zbY = true→d = .bl (if neg then !(ds.any fun y => eqs y d1) else ds.any fun y => eqs y d1)→rInA K neg v1 v2 H Q := fun {xs ds p} rs e2 hs hf hfs ed => by
    obtain ⟨e1,f1⟩ := RB.flat r1 gk hf
    obtain ⟨e3,f3⟩ := zqP rs gk hfs
    refine .inl ⟨p,xs,e2,hs,f1,f3,q _ G H (Grow.refl gk) ?_⟩
    have : inV v1 xs = ds.any fun y => eqs y d1 := by
      unfold inV
      rw [e3,List.any_map,e1]
      rfl
    rw [this,ed]
    exact .scl (.bl _)
  cases d2 with
  | lst ds =>
    by_cases hc : zbY d1 = true∧ds.all zbY = true
    · simp only [inB,if_pos hc,Option.map_some] at e
      obtain ⟨p,xs,e2,hs,rs⟩ := r2.lst gk
      exact seq rs e2 (.inl hs) hc.1 hc.2 (Option.some.inj e).symm
    · simp only [inB,if_neg hc,Option.map_none] at e
      cases e
  | tup ds =>
    by_cases hc : zbY d1 = true∧ds.all zbY = true
    · simp only [inB,if_pos hc,Option.map_some] at e
      obtain ⟨p,xs,e2,hs,rs⟩ := r2.tup gk
      exact seq rs e2 (.inr hs) hc.1 hc.2 (Option.some.inj e).symm
    · simp only [inB,if_neg hc,Option.map_none] at e
      cases e
  | dic kvs =>
    simp only [inB] at e
    cases ek : keyD d1 with
    | none => rw [ek] at e; cases e
    | some k =>
      rw [ek] at e
      cases e
      obtain ⟨p,ps,rfl,hs,rs⟩ := r2.dic gk
      refine .inr (.inl ⟨p,valV ps k,rfl,by rw [zkl gk r1 ek]; exact .inl ⟨ps,k,hs,rfl,rfl⟩,q _ G H (Grow.refl gk) ?_⟩)
      have : (valV ps k).isSome = hasK kvs k := by
        rw [zqH]
        cases eg : getK kvs k with
        | none => rw [zkA rs eg]; rfl
        | some d => obtain ⟨v,h1,_⟩ := zm4 rs d eg; rw [h1]; rfl
      rw [this]
      exact .scl (.bl _)
  | str y =>
    cases d1 with
    | str z => cases e; exact .inr (.inr ⟨z,y,r1.str gk,r2.str gk,q _ G H (Grow.refl gk) (.scl (.bl _))⟩)
    | _ => cases e
  | _ => cases e
theorem zqC {K : PySem.W.Frag} : OpD K (rInA K false) inD := by
  have h := zku (K := K) false
  have e : (fun x c => (inB x c).map fun b => D.bl (if false = true then ! b else b)) = inD := by
    funext x c; unfold inD; cases inB x c <;> rfl
  rw [e] at h; exact h
theorem zqc {K : PySem.W.Frag} : OpD K (rInA K true) ninD := by
  have h := zku (K := K) true
  have e : (fun x c => (inB x c).map fun b => D.bl (if true = true then ! b else b)) = ninD := by
    funext x c; unfold ninD; cases inB x c <;> rfl
  rw [e] at h; exact h
theorem s_in (hu : X.A.units + 1 < cLine) (ha : SB X g m a fa) (hb : SB X g m b fb) (hm : behindInMarks .In b = false := by rfl) : SE X g m (.Compare a [.In] [b] pos) (f2 fa fb inD) := zlo (zmG hu) zqC ha hb hm
theorem q_in (hu : X.A.units + 1 < cLine) (ha : SB X g m a fa) (hb : SB X g m b fb) (hm : behindInMarks .In b = false := by rfl) : SQ X g m (.Compare a [.In] [b] pos) (zaP (f2 fa fb inD)) := zhE (zmG hu) zqC ha hb hm
theorem zrA (hu : X.A.units + 1 < cLine) (ha : SB X g m a fa) (hb : SB X g m b fb) (hm : behindInMarks .NotIn b = false := by rfl) : SQ X g m (.Compare a [.NotIn] [b] pos) (zaP (f2 fa fb ninD)) := zhE (zn3 hu) zqc ha hb hm
noncomputable def isD : D→D→Option D
  | .non,.non => some (.bl true)
  | _,.non => some (.bl false)
  | _,_ => none
noncomputable def isnD : D→D→Option D
  | .non,.non => some (.bl false)
  | _,.non => some (.bl true)
  | _,_ => none
theorem RB.isnon {K : PySem.W.Frag} {G : GH} {H : Hp} {v : V} {d : D} (gk : GOk K G H) (h : RB K G H v d) : (v = .non↔d = .non) := by
  constructor
  · intro e
    subst e
    rcases h with h | ⟨a,e,_⟩
    · cases h with
      | scl s => cases s; rfl
    · cases e
  · intro e
    subst e
    exact h.non gk
theorem zrR {K : PySem.W.Frag} : OpD K (fun x y H Q => y = .non∧Q (.bl (decide (x = .non))) H) isD := by
  intro G H v1 v2 d1 d2 d Q gk r1 r2 e q
  have hn := r1.isnon gk
  cases d2 with
  | non =>
    refine ⟨r2.non gk,q _ G H (Grow.refl gk) ?_⟩
    cases d1 with
    | non => cases e; rw [decide_eq_true (hn.mpr rfl)]; exact .scl (.bl _)
    | _ => cases e; rw [decide_eq_false (fun z => by have := hn.mp z; cases this)]; exact .scl (.bl _)
  | _ => cases d1 <;> cases e
theorem q_is (ha : SB X g m a fa) (hb : SB X g m b fb) : SQ X g m (.Compare a [.Is] [b] pos) (zaP (f2 fa fb isD)) := zhE zp6 zrR ha hb (zeH _)
end
end DL
end
section
namespace DL
open PySem PySem.Spec PyProof.Rows L2
section
variable {X : Cx} {g : GE} {m mb : List Md} {e a b o c : Expr} {f fa fb fc : FE} {pos pos' p1 p2 : Pos} {ro : Bool} {x : Str}
noncomputable def rIxD : R2 := fun x y H Q => ∃ a v,x = .ref a∧DGet H a y (some v)∧Q v H
theorem zqx (hu : X.A.units + 1 < cLine) : IxR X rIxD := by
  intro value slice pins s σ H x y v u Q I rx ry h hs
  obtain ⟨a,w,rfl,hg,q⟩ := h
  cases rx
  exact tail_any (zhW I hg) PySem.F.slot_dict_getitem.lookup (zkM hu I hg ry fun w' s' I' rw' => ⟨w,H,I',rw',q⟩) hs
noncomputable def ixA : D→D→Option D
  | .dic kvs,k => (keyD k).bind (getK kvs)
  | c,k => ixD c k
theorem zqy {K : PySem.W.Frag} : OpD K (fun x y H Q => rIxD x y H Q∨rIx K x y H Q) ixA := by
  intro G H v1 v2 d1 d2 d Q gk r1 r2 e q
  cases d1 with
  | dic kvs =>
    obtain ⟨a,ps,rfl,hs,rs⟩ := r1.dic gk
    have e' : (keyD d2).bind (getK kvs) = some d := e
    cases ek : keyD d2 with
    | none => rw [ek] at e'; cases e'
    | some k =>
      rw [ek] at e'
      obtain ⟨v,h1,h2⟩ := zm4 rs d e'
      refine .inl ⟨a,v,rfl,?_,q v G H (Grow.refl gk) h2⟩
      rw [zkl gk r2 ek,← h1]
      exact .inl ⟨ps,k,hs,rfl,rfl⟩
  | lst ds => exact .inr (zot G H v1 v2 _ d2 d Q gk r1 r2 e q)
  | tup ds => exact .inr (zot G H v1 v2 _ d2 d Q gk r1 r2 e q)
  | str ds => exact .inr (zot G H v1 v2 _ d2 d Q gk r1 r2 e q)
  | _ => cases e
theorem zav (hu : X.A.units + 1 < cLine) (ha : SB X g m a fa) (hb : SB X g m b fb) (hs : zgu b := by intro _ _; rfl) : SE X g m (.Subscript a b pos) (f2 fa fb ixA) := znx zqy (znU (IxR.or (zqx hu) zqv) ha hb hs)
theorem zj3 : SO X g m (.Dict [] [] pos) fun _ => .ok (.dic []) :=
  PE.imp zlG fun σ H Q ⟨r,G,si,q⟩ p hp => q p G _ (Grow.new si.gok hp _) hp ⟨si.gok.isN hp,.dic zao .nil⟩
noncomputable def putD (kvs : List (Key × D)) (k : Key) (d : D) : List (Key × D) := if (kvs.any fun kv => decide (kv.1 = k)) = true then kvs.map fun kv => if kv.1 = k then (kv.1,d) else kv else kvs++[(k,d)]
theorem zml {K : PySem.W.Frag} {G : GH} {k : Key} {ps : List (Key × V)} {kvs : List (Key × D)} (h : RKs K G ps kvs) : (ps.any fun kv => decide (kv.1 = k)) = kvs.any fun kv => decide (kv.1 = k) := by
  induction h with
  | nil => rfl
  | cons r t ih => rw [List.any_cons,List.any_cons,ih,r.1]
theorem zrD {K : PySem.W.Frag} {G : GH} {ps : List (Key × V)} {kvs : List (Key × D)} {k : Key} {v : V} {d : D} (r : RKs K G ps kvs) (h : RG K G v d) : RKs K G (putK ps k v) (putD kvs k d) := by
  unfold putK putD
  rw [zml r]
  by_cases hc : (kvs.any fun kv => decide (kv.1 = k)) = true
  · rw [if_pos hc,if_pos hc]
    clear hc
    induction r with
    | nil => exact .nil
    | @cons p q ps kvs r t ih =>
      refine .cons ?_ ih
      obtain ⟨p1,p2⟩ := p
      obtain ⟨q1,q2⟩ := q
      have e : p1 = q1 := r.1
      subst e
      by_cases hk : p1 = k
      · simp only [hk,if_true,true_and]; exact h
      · simp only [hk,if_false,true_and]; exact r.2
  · rw [if_neg hc,if_neg hc]
    exact Paired.snoc r ⟨rfl,h⟩
noncomputable def stoD : D→D→D→Option D
  | .lst ds,.int k,v => (ixN ds.length k).map fun j => .lst (ds.set j v)
  | .dic kvs,k,v => (keyD k).bind fun k => if kvs.length < sizeLine then some (.dic (putD kvs k v)) else none
  | _,_,_ => none
noncomputable def zpF : V→V→V→Hp→(Hp→Prop)→Prop := fun o i v H Q => ∃ p H',o = .ref p∧DPut H p i v H'∧Q H'
theorem znu (hu : X.A.units + 1 < cLine) : PSet X zpF := by
  intro pins s σ H o i v ov iv u Q I ro ri rv h
  obtain ⟨p,H',rfl,hp,q⟩ := h
  cases ro
  exact zkL hu I hp ri rv fun s' I' => ⟨H',I',q⟩
theorem PSet.or {t t' : TSet} (h : PSet X t) (h' : PSet X t') : PSet X (fun o i v H Q => t o i v H Q∨t' o i v H Q) := by
  intro pins s σ H o i v ov iv u Q I ro ri rv q
  rcases q with q | q
  · exact h pins s σ H o i v ov iv u Q I ro ri rv q
  · exact h' pins s σ H o i v ov iv u Q I ro ri rv q
theorem zo8 {K : PySem.W.Frag} {G : GH} {H : Hp} {a : Addr} {d k v d' : D} {kv vv : V} {Q : Hp→Prop} (gk : GOk K G H) (ow : Own K G H a d) (rk : RB K G H kv k) (rv : RG K G vv v) (e : stoD d k v = some d') (q : ∀ o',OwnO K G (upd H a o') a d'→Q (upd H a o')) :
    zpE (.ref a) kv vv H Q∨zpF (.ref a) kv vv H Q := by
  cases ow.ob with
  | @lst xs ds r s =>
    cases k with
    | int k =>
      have e' : (ixN ds.length k).map (fun j => D.lst (ds.set j v)) = some d' := e
      cases ej : ixN ds.length k with
      | none => rw [ej] at e'; cases e'
      | some j =>
        rw [ej] at e'
        cases e'
        exact .inl ⟨a,xs,k,j,rfl,rk.int gk,r,by rw [Paired.length s]; exact ej,q _ (.lst zao (Paired.st rv j s))⟩
    | _ => cases e
  | @dic ps kvs r s =>
    have e' : (keyD k).bind (fun k => if kvs.length < sizeLine then some (D.dic (putD kvs k v)) else none) = some d' := e
    cases ek : keyD k with
    | none => rw [ek] at e'; cases e'
    | some k' =>
      rw [ek] at e'
      have e2 : (if kvs.length < sizeLine then some (D.dic (putD kvs k' v)) else none) = some d' := e'
      by_cases hl : kvs.length < sizeLine
      · rw [if_pos hl] at e2
        cases e2
        have := Paired.length s
        refine .inr ⟨a,_,rfl,?_,q _ (.dic zao (zrD s rv))⟩
        rw [zkl gk rk ek]
        exact DPut.k r (by omega)
      · rw [if_neg hl] at e2; cases e2
noncomputable def putF (m : List Md) (i : Nat) (fk fv : FE) : FS := fun r => onE m r (fv r) fun v => match r[i]? with
  | some (some d) => onE m r (fk r) fun k => (match stoD d k v with
    | some d' => .nx (r.set i (some d'))
    | none => .stuck)
  | _ => .stuck
theorem zlk (i : Nat) (hu : X.A.units + 1 < cLine) (hm : m[i]? = some .ow) (hN : X.N[i]? = some x) (hv : Vis X.env.scope x) (hk : SB X g m b fb) (he : SE X g m e f)
    (hd : (x == ("__debug__" : Str)) = false := by decide) (hcd : (x == ("__classdict__" : Str)) = false := by decide)
    (ha : ∀ v,assign (.Subscript (.Name x p1) b p2) X.env v = (do
      let ov ← holding [v] (eval (.Name x p1) X.env)
      let iv ← holding [v,ov] (eval b X.env)
      standAt p2
      holding [v,ov,iv] (setItem ov iv v)
      release [v,ov,iv] []) := by intro _; rfl)
    (hs : swapsWithSole [.Subscript (.Name x p1) b p2] e pos.line X.env = pure false := by rfl) (hw : swappedStores [.Subscript (.Name x p1) b p2] e X.env = pure none := by rfl)
    (h1 : (assignEach [.Subscript (.Name x p1) b p2] X.env).map (·.2) = [assign (.Subscript (.Name x p1) b p2) X.env] := by rfl) :
    SS X g ro mb m (.Assign [.Subscript (.Name x p1) b p2] e pos) (putF m i fb f) m := by
  refine ⟨rfl,PS.imp (zmC he (zmD (zdO hN hv hd hcd) hk (PSet.or zii (znu hu)) ha) hs hw h1) fun D0 σ H ⟨r,G,si,k⟩ => ⟨r,G,si,?_⟩⟩
  refine zag (zbn si rfl k) fun v k1 vv G1 H1 w1 rv => ?_
  cases er : r[i]? with
  | none => simp only [er] at k1; exact (show False from k1).elim
  | some oo =>
    cases oo with
    | none => simp only [er] at k1; exact (show False from k1).elim
    | some d =>
      simp only [er] at k1
      obtain ⟨a,h1,h2,h3⟩ := (si.grow w1).mut hm er
      refine ⟨_,h1,r,G1,si.grow w1,?_⟩
      refine zag (zbn (m := m) (si.grow w1) rfl (oTo.gle k1 w1.ge)) fun kk k2 kv G2 H2 w2 rk => ?_
      cases es : stoD d kk v with
      | none => simp only [es] at k2; exact (show False from k2).elim
      | some d' =>
        simp only [es] at k2
        obtain ⟨a',h1',h2',h3'⟩ := ((si.grow w1).grow w2).mut hm er
        rw [h1] at h1'; cases h1'
        exact zo8 w2.ok h2' rk (rv.mono w2.ge) es fun o' ob => k2 σ G2 _ w2.ge (h3' o' d' ob)
end
mutual
noncomputable def toPy : D→PyData
  | .non => .none
  | .bl b => .bool b
  | .int i => .int i
  | .str x => .str x
  | .tup ds => .tuple (zcf ds)
  | .lst ds => .list (zcf ds)
  | .dic _ => .none
  | .obj _ _ => .none
noncomputable def zcf : List D→List PyData
  | [] => []
  | d::ds => toPy d::zcf ds
end
noncomputable def Shp : Nat→D→Prop
  | _,.non => True
  | _,.bl _ => True
  | _,.int _ => True
  | _,.str x => PyData.strOk x = true
  | 0,.tup _ => False
  | 0,.lst _ => False
  | k + 1,.tup ds => ∀ d∈ds,Shp k d
  | k + 1,.lst ds => ∀ d∈ds,Shp k d
  | _,.dic _ => False
  | _,.obj _ _ => False
theorem zf7 {k : Nat} {ds : List D} : Shp (k + 1) (.lst ds)↔∀ d∈ds,Shp k d := by simp only [Shp]
theorem zen {k : Nat} {ds : List D} : Shp (k + 1) (.tup ds)↔∀ d∈ds,Shp k d := by simp only [Shp]
noncomputable def eqb (a b : D) : Bool := PyData.eqv (toPy a) (toPy b)
section
variable {X : Cx} {pins : List (Addr × Obj)} {σ : L2.St} {H : Hp} {s : Shared} {G : GH}
theorem zgR {k : Nat} (ih : ∀ (d : D) (v : V) (u : Value),Shp k d→RG X.K G v d→L2.RelV v u→∃ as,Reads s.heap u (toPy d) as) (ds : List D) (vs : List V) (us : List Value) (h : ∀ d∈ds,Shp k d) (r : RGs X.K G vs ds) (q : Vals vs us) : ∃ as,ReadsAll s.heap us (zcf ds) as := by
  induction r generalizing us with
  | nil => cases q; exact ⟨[],.nil⟩
  | cons r t ih' =>
    cases q with
    | cons r' t' =>
      obtain ⟨a1,h1⟩ := ih _ _ _ (h _ List.mem_cons_self) r r'
      obtain ⟨a2,h2⟩ := ih' _ (fun x hx => h x (List.mem_cons_of_mem _ hx)) t'
      exact ⟨a1++a2,.cons h1 h2⟩
theorem ze1 (I : Inv X pins σ H s) (gk : GOk X.K G H) : ∀ (k : Nat) (d : D) (v : V) (u : Value),Shp k d→RB X.K G H v d→L2.RelV v u→∃ as,Reads s.heap u (toPy d) as := by
  intro k
  induction k with
  | zero =>
    intro d v u hs r ru
    cases d with
    | non => rw [r.non gk] at ru; cases ru; exact ⟨_,.none⟩
    | bl b => rw [r.bl gk] at ru; cases ru; exact ⟨_,.bool b⟩
    | int i => rw [r.int gk] at ru; obtain ⟨t,rfl⟩ := ru; exact ⟨_,.int i t⟩
    | str x => rw [r.str gk] at ru; obtain ⟨t,rfl⟩ := ru; exact ⟨_,.str x t⟩
    | tup _ => unfold Shp at hs; exact hs.elim
    | lst _ => unfold Shp at hs; exact hs.elim
    | dic _ => unfold Shp at hs; exact hs.elim
    | obj _ _ => unfold Shp at hs; exact hs.elim
  | succ k ih =>
    intro d v u hs r ru
    cases d with
    | non => rw [r.non gk] at ru; cases ru; exact ⟨_,.none⟩
    | bl b => rw [r.bl gk] at ru; cases ru; exact ⟨_,.bool b⟩
    | int i => rw [r.int gk] at ru; obtain ⟨t,rfl⟩ := ru; exact ⟨_,.int i t⟩
    | str x => rw [r.str gk] at ru; obtain ⟨t,rfl⟩ := ru; exact ⟨_,.str x t⟩
    | tup ds =>
      obtain ⟨a,xs,rfl,sq,rs⟩ := r.tup gk
      cases ru
      obtain ⟨its,rv,pl,_⟩ := I.tuple sq
      obtain ⟨o,ho,hc,n,hd⟩ := pl
      obtain ⟨as,h⟩ := zgR (k := k) (fun d v u h1 h2 h3 => ih d v u h1 h2.rb h3) ds xs its (zen.mp hs) rs rv
      refine ⟨as,?_⟩
      unfold toPy
      exact .tuple ho hc hd (by simpa using h)
    | lst ds =>
      obtain ⟨a,xs,rfl,sq,rs⟩ := r.lst gk
      cases ru
      obtain ⟨its,rv,pl,_⟩ := I.list sq
      obtain ⟨o,ho,hc,n,hd⟩ := pl.isList
      obtain ⟨as,h⟩ := zgR (k := k) (fun d v u h1 h2 h3 => ih d v u h1 h2.rb h3) ds xs its (zf7.mp hs) rs rv
      refine ⟨a::as,?_⟩
      unfold toPy
      exact .list ho hc hd (by simpa using h)
    | dic _ => unfold Shp at hs; exact hs.elim
    | obj _ _ => unfold Shp at hs; exact hs.elim
theorem zhx {k : Nat} (ih : ∀ d,Shp k d→PyData.canLay0 (toPy d) = true∧PyData.depth (toPy d)≤k) : ∀ ds : List D,(∀ d∈ds,Shp k d)→PyData.canLayAll0 (zcf ds) = true∧PyData.depthAll (zcf ds)≤k
  | [],_ => by unfold zcf PyData.canLayAll0 PyData.depthAll; exact ⟨rfl,Nat.zero_le _⟩
  | d::ds,h => by
    obtain ⟨a1,a2⟩ := ih d (h d List.mem_cons_self)
    obtain ⟨b1,b2⟩ := zhx ih ds fun x hx => h x (List.mem_cons_of_mem _ hx)
    unfold zcf PyData.canLayAll0 PyData.depthAll
    rw [a1,b1]
    exact ⟨rfl,Nat.max_le.mpr ⟨a2,b2⟩⟩
theorem zpg : ∀ (k : Nat) (d : D),Shp k d→PyData.canLay0 (toPy d) = true∧PyData.depth (toPy d)≤k := by
  intro k
  induction k with
  | zero =>
    intro d hs
    cases d with
    | non => unfold toPy PyData.canLay0 PyData.depth; exact ⟨rfl,Nat.zero_le _⟩
    | bl b => unfold toPy PyData.canLay0 PyData.depth; exact ⟨rfl,Nat.zero_le _⟩
    | int i => unfold toPy PyData.canLay0 PyData.depth; exact ⟨rfl,Nat.zero_le _⟩
    | str x => unfold Shp at hs; unfold toPy PyData.canLay0 PyData.depth; exact ⟨hs,Nat.zero_le _⟩
    | tup _ => unfold Shp at hs; exact hs.elim
    | lst _ => unfold Shp at hs; exact hs.elim
    | dic _ => unfold Shp at hs; exact hs.elim
    | obj _ _ => unfold Shp at hs; exact hs.elim
  | succ k ih =>
    intro d hs
    cases d with
    | non => unfold toPy PyData.canLay0 PyData.depth; exact ⟨rfl,Nat.zero_le _⟩
    | bl b => unfold toPy PyData.canLay0 PyData.depth; exact ⟨rfl,Nat.zero_le _⟩
    | int i => unfold toPy PyData.canLay0 PyData.depth; exact ⟨rfl,Nat.zero_le _⟩
    | str x => unfold Shp at hs; unfold toPy PyData.canLay0 PyData.depth; exact ⟨hs,Nat.zero_le _⟩
    | tup ds =>
      obtain ⟨b1,b2⟩ := zhx ih ds (zen.mp hs)
      unfold toPy PyData.canLay0 PyData.depth
      exact ⟨b1,Nat.succ_le_succ b2⟩
    | lst ds =>
      obtain ⟨b1,b2⟩ := zhx ih ds (zf7.mp hs)
      unfold toPy PyData.canLay0 PyData.depth
      exact ⟨b1,Nat.succ_le_succ b2⟩
    | dic _ => unfold Shp at hs; exact hs.elim
    | obj _ _ => unfold Shp at hs; exact hs.elim
theorem zd7 {d : D} (h : Shp 60 d) : SeqAt.shaped (toPy d) = true := by
  obtain ⟨a,b⟩ := zpg 60 d h
  unfold SeqAt.shaped
  rw [a,decide_eq_true (Nat.le_trans b (by decide))]
  rfl
end
section
variable {X : Cx} {g : GE} {m mb : List Md} {e a b o c : Expr} {f fa fb fc : FE} {pos pos' : Pos}
noncomputable def ziL (a b : D) : Bool := zbY a && zbY b && scal (toV a) (toV b)
open Classical in
noncomputable def eqB (a b : D) : Option Bool := if ziL a b = true then some (eqs a b) else if Shp 60 a∧Shp 60 b then some (eqb a b) else none
noncomputable def eqD (a b : D) : Option D := (eqB a b).map .bl
noncomputable def neD (a b : D) : Option D := (eqB a b).map fun c => .bl (! c)
theorem zgo {a b : D} (h : ziL a b = false) (h1 : Shp 60 a) (h2 : Shp 60 b) : eqB a b = some (eqb a b) := by
  unfold eqB
  rw [if_neg (by rw [h]; exact Bool.false_ne_true),if_pos ⟨h1,h2⟩]
theorem zmb {a b : D} (h : ziL a b = true) : eqB a b = some (eqs a b) := by
  unfold eqB
  rw [if_pos h]
@[simp] theorem eqB_int (a b : Int) : eqB (.int a) (.int b) = some (a == b) := zmb rfl
theorem zij {a b : D} (h : scal (toV a) (toV b) = true) (fa : zbY a = true) (fb : zbY b = true) : decide (toV a = toV b) = eqs a b := by
  cases a <;> cases b <;> first
    | exact absurd (show false = true from fa) Bool.false_ne_true
    | exact absurd (show false = true from fb) Bool.false_ne_true
    | exact absurd (show false = true from h) Bool.false_ne_true
    | exact zhZ
    | exact zkJ
    | exact zhY
    | rfl
    | simp [toV,eqs,eqV]
noncomputable def zgd (K : PySem.W.Frag) (neg : Bool) : R2 := fun x y H Q => ∃ (G : GH) (d1 d2 : D),GOk K G H∧RB K G H x d1∧RB K G H y d2∧Shp 60 d1∧Shp 60 d2∧Q (.bl (if neg then ! eqb d1 d2 else eqb d1 d2)) H
theorem zgV (hu : X.A.units + 64 < cLine) : OpR X (compareOp .Eq) (zgd X.K false) := by
  intro pins s σ H x y v u Q I rx ry h
  obtain ⟨G,d1,d2,gk,r1,r2,s1,s2,q⟩ := h
  obtain ⟨as,h1⟩ := ze1 I gk 60 d1 x v s1 r1 rx
  obtain ⟨bs,h2⟩ := ze1 I gk 60 d2 y u s2 r2 ry
  exact SeqAt.compareEq_shaped h1 h2 (zd7 s1) (zd7 s2) hu ⟨.bl _,H,I,rfl,q⟩
theorem zjU (hu : X.A.units + 64 < cLine) : OpR X (compareOp .NotEq) (zgd X.K true) := by
  intro pins s σ H x y v u Q I rx ry h
  obtain ⟨G,d1,d2,gk,r1,r2,s1,s2,q⟩ := h
  obtain ⟨as,h1⟩ := ze1 I gk 60 d1 x v s1 r1 rx
  obtain ⟨bs,h2⟩ := ze1 I gk 60 d2 y u s2 r2 ry
  exact SeqAt.compareNe_shaped h1 h2 (zd7 s1) (zd7 s2) hu ⟨.bl _,H,I,rfl,q⟩
theorem eq_cases {a b : D} {c : Bool} (h : eqB a b = some c) : (ziL a b = true∧c = eqs a b)∨(Shp 60 a∧Shp 60 b∧c = eqb a b) := by
  unfold eqB at h
  split at h
  · rename_i hs; cases h; exact .inl ⟨hs,rfl⟩
  · split at h
    · rename_i hs; cases h; exact .inr ⟨hs.1,hs.2,rfl⟩
    · cases h
theorem zqU {K : PySem.W.Frag} : OpD K (fun x y H Q => rEq x y H Q∨zgd K false x y H Q) eqD := by
  intro G H v1 v2 d1 d2 d Q gk r1 r2 e q
  unfold eqD at e
  cases ec : eqB d1 d2 with
  | none => rw [ec] at e; cases e
  | some c =>
    rw [ec] at e
    cases e
    rcases eq_cases ec with ⟨hs,rfl⟩ | ⟨s1,s2,rfl⟩
    · unfold ziL at hs
      rw [Bool.and_eq_true,Bool.and_eq_true] at hs
      obtain ⟨e1,_⟩ := RB.flat r1 gk hs.1.1
      obtain ⟨e2,_⟩ := RB.flat r2 gk hs.1.2
      refine .inl ⟨by rw [e1,e2]; exact hs.2,?_⟩
      rw [e1,e2,zij hs.2 hs.1.1 hs.1.2]
      exact q _ G H (Grow.refl gk) (.scl (.bl _))
    · exact .inr ⟨G,d1,d2,gk,r1,r2,s1,s2,q _ G H (Grow.refl gk) (.scl (.bl _))⟩
theorem zrK {K : PySem.W.Frag} : OpD K (fun x y H Q => rNe x y H Q∨zgd K true x y H Q) neD := by
  intro G H v1 v2 d1 d2 d Q gk r1 r2 e q
  unfold neD at e
  cases ec : eqB d1 d2 with
  | none => rw [ec] at e; cases e
  | some c =>
    rw [ec] at e
    cases e
    rcases eq_cases ec with ⟨hs,rfl⟩ | ⟨s1,s2,rfl⟩
    · unfold ziL at hs
      rw [Bool.and_eq_true,Bool.and_eq_true] at hs
      obtain ⟨e1,_⟩ := RB.flat r1 gk hs.1.1
      obtain ⟨e2,_⟩ := RB.flat r2 gk hs.1.2
      refine .inl ⟨by rw [e1,e2]; exact hs.2,?_⟩
      rw [e1,e2,zij hs.2 hs.1.1 hs.1.2]
      exact q _ G H (Grow.refl gk) (.scl (.bl _))
    · exact .inr ⟨G,d1,d2,gk,r1,r2,s1,s2,q _ G H (Grow.refl gk) (.scl (.bl _))⟩
theorem s_eq (hu : X.A.units + 64 < cLine) (ha : SB X g m a fa) (hb : SB X g m b fb) : SE X g m (.Compare a [.Eq] [b] pos) (f2 fa fb eqD) := zlo (OpR.or zp9 (zgV hu)) zqU ha hb (zeH _)
theorem q_eq (hu : X.A.units + 64 < cLine) (ha : SB X g m a fa) (hb : SB X g m b fb) : SQ X g m (.Compare a [.Eq] [b] pos) (zaP (f2 fa fb eqD)) := zhE (OpR.or zp9 (zgV hu)) zqU ha hb (zeH _)
theorem q_ne (hu : X.A.units + 64 < cLine) (ha : SB X g m a fa) (hb : SB X g m b fb) : SQ X g m (.Compare a [.NotEq] [b] pos) (zaP (f2 fa fb neD)) := zhE (OpR.or zrG (zjU hu)) zrK ha hb (zeH _)
noncomputable def znM (K : PySem.W.Frag) : R2 := fun x y H Q => ∃ l b xs zs,x = .ref l∧y = .ref b∧SqL K H l xs∧SqL K H b zs∧xs.length + zs.length≤sizeLine∧∀ p,H p = none→Q (.ref p) (upd H p (.lst (xs++zs)))
theorem zjY : OpR X (binaryOp .Add) (znM X.K) := by
  intro pins s σ H x y v u Q I rx ry h
  obtain ⟨l,b,xs,zs,rfl,rfl,hH,hB,hz,q⟩ := h
  cases rx
  cases ry
  obtain ⟨its,r,pl,_⟩ := I.list hH
  obtain ⟨its2,r2,pl2,_⟩ := I.list hB
  have l1 := r.length
  have l2 := r2.length
  obtain ⟨⟨cls,dd,data,sl⟩,ho,hc,n,hd⟩ := pl.isList
  obtain ⟨⟨cls2,dd2,data2,sl2⟩,ho2,hc2,n2,hd2⟩ := pl2.isList
  simp only at hc hd hc2 hd2
  subst hc hd hc2 hd2
  have e : its.toArray++its2.toArray = (its++its2).toArray := by simp
  refine concat_meets ⟨_,ho,rfl⟩ ⟨_,ho2,rfl⟩ noFill_list_add seq_list_add PySem.F.slot_list_add PySem.F.entry_list_add (PySem.F.args_list_add_2 _ _) (list_addW _ _ its.toArray its2.toArray n n2 dd dd2 sl sl2 (by simp; omega)) ⟨ho,ho2,?_⟩
  rw [e]
  exact ⟨.ref _,_,I.lnew (t' := s.toks) (r.append r2) (by rw [List.length_append]; omega),rfl,q _ I.fresh⟩
noncomputable def addA : D→D→Option D
  | .int a,.int b => some (.int (a + b))
  | .str a,.str b => if a.length + b.length≤sizeLine then some (.str (a++b)) else none
  | .lst a,.lst b => if a.length + b.length≤sizeLine then some (.lst (a++b)) else none
  | .tup (x::a),.tup b => if (x::a).length + b.length≤sizeLine then some (.tup (x::a++b)) else none
  | _,_ => none
theorem zk3 {K : PySem.W.Frag} : OpD K (fun x y H Q => (∃ i j,x = .int i∧y = .int j∧Q (.int (i + j)) H)∨(∃ i j,x = .str i∧y = .str j∧i.length + j.length≤sizeLine∧Q (.str (i++j)) H)∨znM K x y H Q∨znL K x y H Q) addA := by
  intro G H v1 v2 d1 d2 d Q gk r1 r2 e q
  unfold addA at e
  split at e
  · cases e
    exact .inl ⟨_,_,r1.int gk,r2.int gk,q _ G H (Grow.refl gk) (.scl (.int _))⟩
  · split at e
    · rename_i hl
      cases e
      exact .inr (.inl ⟨_,_,r1.str gk,r2.str gk,hl,q _ G H (Grow.refl gk) (.scl (.str _))⟩)
    · cases e
  · split at e
    · rename_i hl
      cases e
      obtain ⟨a,xs,rfl,s1,t1⟩ := r1.lst gk
      obtain ⟨b,ys,rfl,s2,t2⟩ := r2.lst gk
      have l1 := Paired.length t1
      have l2 := Paired.length t2
      exact .inr (.inr (.inl ⟨a,b,xs,ys,rfl,rfl,s1,s2,by omega,fun p hp => q _ _ _ (Grow.newF gk hp (.lst (.inl zao) (Paired.app t1 t2))) (.ref zas)⟩))
    · cases e
  · split at e
    · rename_i x0 a0 b0 hl
      cases e
      rcases r1 with r1 | ⟨a',_,oo⟩
      · obtain ⟨a,xs,rfl,s1,t1⟩ := r1.tup gk
        obtain ⟨b,ys,rfl,s2,t2⟩ := r2.tup gk
        have l1 := Paired.length t1
        have l2 := Paired.length t2
        refine .inr (.inr (.inr ⟨a,b,xs,ys,rfl,rfl,s1,s2,?_,by omega,fun hy => ?_,fun _ p hp => q _ _ _ (Grow.newF gk hp (.tup (.inl zao) (Paired.app t1 t2))) (.ref zas)⟩))
        · rintro rfl
          cases t1
        · subst hy
          cases t2
          refine q _ G H (Grow.refl gk) ?_
          rw [List.append_nil]
          exact r1
      · cases oo.ob
    · cases e
  · cases e
theorem zdd (ha : SB X g m a fa) (hb : SB X g m b fb) : SE X g m (.BinOp a .Add b pos) (f2 fa fb addA) := zgb (OpR.or zmH (OpR.or zfQ (OpR.or zjY zjX))) zk3 ha hb
end
end DL
end
section
namespace DL
open PySem PySem.Spec PyProof.Rows L2
structure DefAt (K : PySem.W.Frag) (mg : Str→Option Value) (x : Str) (st : Stmt) : Prop where
  ex : ∃ f fd,mg x = some (.ref f)∧Fun K x x st f fd
structure Callee (P : Program) (w : World) (K : PySem.W.Frag) (mg : Str→Option Value) (base : Heap) (x : Str) (ps : List Str) (ds : List Value) (k : Nat) (ro : Bool) (ms : List Md) (F : List D→Res D) : Prop where
  ex : ∃ f fd,mg x = some (.ref f)∧PySem.W.keepIn K (.ref f) = true∧zfK K fd ps ds∧FnOk P w K mg base CX0 k f fd ps (spM K ro ms F)
section
variable {P : Program} {w : World} {K : PySem.W.Frag} {mg : Str → Option Value} {base : Heap}
theorem zaH {x : Str} {st : Stmt} {N ps : List Str} {k : Nat} {ro : Bool} {ms : List Md} {fs : FS} {m' : List Md} (A : DefAt K mg x st) (S : FnScope N ps (zac st)) (hms : ms.length = ps.length)
    (hb : ∀ (kV doc pm : Value) (an : Option Addr) (cdv ct : Value) (us : List Value),us.length = ps.length→bindArgs (PySem.W.fnOf x x (zcV st) (zbM st) (zac st) .none kV doc pm an cdv ct) ⟨us,[]⟩ = pure (ps.zip us))
    (hbody : ∀ (f : Addr) (cdv : Value) (A : Around) (outer : List Env) (s : Shared) (H : Hp) (g : GE) (E : XK),Room k (A.deeper (envOfC x (zac st) s.heap.objs.size f cdv)) →
      SSs (cxOf CX0 P w K mg base N x (zac st) f cdv A outer s H E).nox g ro [] (zex N.length ms) (zbM st) fs m') :
    Callee P w K mg base x ps [] (k + 1) ro ms fun ds => outR ro (fs (zap N.length ds)) := by
  obtain ⟨f,fd,h1,F⟩ := A.ex
  exact ⟨f,fd,h1,F.kp,F.binds hb,zm3 F S hms (hbody f)⟩
structure DefAtD (K : PySem.W.Frag) (mg : Str→Option Value) (x : Str) (st : Stmt) (dds : List Value) : Prop where
  ex : ∃ (f T : Addr) (o : Obj) (n : Nat) (oc : Value) (od : Option Addr) (kV doc pm : Value) (an : Option Addr) (cdv ct : Value) (osl : Array (Option Value)),
    mg x = some (.ref f)∧K.lookup T = some o∧o.data = .seq dds.toArray n∧K.lookup f = some ⟨oc,od,.func (PySem.W.fnOf x x (zcV st) (zbM st) (zac st) (.ref T) kV doc pm an cdv ct),osl⟩∧PySem.W.codeIn K cdv x = true∧PySem.W.keepIn K (.ref f) = true
end
section
variable {X : Cx} {g : GE} {m : List Md} {e : Expr} {es : List Expr} {fl : Rho → Res (List D)} {k : Nat} {ps : List Str} {F : List D → Res D} {dvs : List V} {ds : List Value} {dds : List D} {x : Str} {p pos : Pos} {i : Nat} {ms ms' : List Md}
theorem zar (c : Callee X.prog X.w X.K X.mg X.base x ps ds k false ms' F) (hr : Room k X.A) (ha : SAM X g m (e::es) ms fl) (hms : ms' = ms++List.replicate dds.length .sh := by rfl) (hg : Gl X x := by rfl) (hd : Vals dvs ds := by exact .nil) (hsc : Paired Scl dvs dds := by exact .nil)
    (hdb : (x == ("__debug__" : Str)) = false := by decide) (he : starEach (e::es) X.env = (false,eval e X.env)::starEach es X.env := by rfl) (hpl : (backTo pos (starEach es X.env)).any (·.1) = false := by rfl) :
    SE X g m (.Call (.Name x p) (e::es) [] pos) (zaq fl dds F) := by
  subst hms
  obtain ⟨f,fd,h1,h2,h3,h4⟩ := c.ex
  exact zpq h4 hr hg h1 h2 h3 hd hsc ha hdb he hpl
theorem zkR (c : Callee X.prog X.w X.K X.mg X.base x ps ds k true ms' F) (hr : Room k X.A) (ha : SAM X g m (e::es) ms fl) (hms : ms' = ms++List.replicate dds.length .sh := by rfl) (hg : Gl X x := by rfl) (hd : Vals dvs ds := by exact .nil) (hsc : Paired Scl dvs dds := by exact .nil)
    (hdb : (x == ("__debug__" : Str)) = false := by decide) (he : starEach (e::es) X.env = (false,eval e X.env)::starEach es X.env := by rfl) (hpl : (backTo pos (starEach es X.env)).any (·.1) = false := by rfl) :
    SO X g m (.Call (.Name x p) (e::es) [] pos) (ownF (zaq fl dds F)) := by
  subst hms
  obtain ⟨f,fd,h1,h2,h3,h4⟩ := c.ex
  exact zqb h4 hr hg h1 h2 h3 hd hsc ha hdb he hpl
theorem v_ (i : Nat) (hm : m[i]? = some .sh := by rfl) (hN : X.N[i]? = some x := by rfl) (hv : Vis X.env.scope x := by first | exact Or.inl rfl | exact Or.inr (Or.inl rfl) | exact Or.inr (Or.inr rfl)) (hd : (x == ("__debug__" : Str)) = false := by decide) (hcd : (x == ("__classdict__" : Str)) = false := by decide) :
    SE X g m (.Name x p) fun r => getV r i := zrv i hm hN hv hd hcd
theorem vb_ (i : Nat) (hm : i < m.length := by decide) (hN : X.N[i]? = some x := by rfl) (hv : Vis X.env.scope x := by first | exact Or.inl rfl | exact Or.inr (Or.inl rfl) | exact Or.inr (Or.inr rfl)) (hd : (x == ("__debug__" : Str)) = false := by decide) (hcd : (x == ("__classdict__" : Str)) = false := by decide) :
    SB X g m (.Name x p) fun r => getV r i := zpj i hm hN hv hd hcd
end
end DL
end
section
namespace DL
open PySem PySem.Spec PyProof.Rows L2
noncomputable def zh0 (osc : Scope) (ON : List Str) (sc : Scope) (N' : List Str) (nl : Nat) (cap : List Nat) : Bool :=
  decide (sc.kind = .function) && sc.names.all (fun y => decide (y.2≠.cell)) && sc.names.all (fun y => decide (y.2≠.local) || decide (sc.names.lookup y.1 = some .local)) &&
  sc.names.all (fun y => decide (y.2≠.free) || (decide (osc.names.lookup y.1 = some .cell) || decide (osc.names.lookup y.1 = some .free))) && decide (N'.length = nl + cap.length) &&
  (List.range cap.length).all fun j => match N'[nl + j]?,ON[cap.getD j 0]? with
    | some x,some y => decide (x = y) && decide (sc.names.lookup x = some .free)
    | _,_ => false
theorem zaV {X : Cx} {osc : Scope} {ON : List Str} {sc : Scope} {N' : List Str} {nl : Nat} {cap : List Nat} (h1 : X.env.scope = osc) (h2 : X.N = ON) (h : zh0 osc ON sc N' nl cap = true) : CompSc X sc N' nl cap := by
  subst h1 h2
  unfold zh0 at h
  simp only [Bool.and_eq_true,List.all_eq_true,decide_eq_true_eq,Bool.or_eq_true] at h
  obtain ⟨⟨⟨⟨⟨a1,a2⟩,a3⟩,a4⟩,a5⟩,a6⟩ := h
  refine ⟨a1,a2,fun y hy hl => (a3 y hy).resolve_left fun z => z hl,fun y hy hf => (a4 y hy).resolve_left fun z => z hf,a5,fun j hj => ?_⟩
  have h6 := a6 j (List.mem_range.mpr hj)
  cases e1 : N'[nl + j]? with
  | none => rw [e1] at h6; cases h6
  | some x =>
    cases e2 : X.N[cap.getD j 0]? with
    | none => rw [e1,e2] at h6; cases h6
    | some y =>
      rw [e1,e2] at h6
      simp only [Bool.and_eq_true,decide_eq_true_eq] at h6
      exact ⟨x,rfl,by rw [h6.1],h6.2⟩
section
variable {X : Cx} {g : GE} {m mb : List Md} {e a b c : Expr} {f fa fb fc : FE} {pos pos' : Pos}
end
end DL
end
section
namespace DL
open PySem PySem.Spec PyProof.Rows L2
theorem zr8 {K : PySem.W.Frag} {h : Heap} {mg : Str→Option Value} {x : Str} {st : Stmt} (KX : K.In h) (G : h.Ns mainGlobals mg) {f : Addr} {oc : Value} {od an : Option Addr} {osl : Array (Option Value)} {kV doc pm cdv ct : Value} (a : PySem.W.nsIn K mainGlobals x = some (some (.ref f)))
    (l : K.lookup f = some ⟨oc,od,.func (PySem.W.fnOf x x (zcV st) (zbM st) (zac st) .none kV doc pm an cdv ct),osl⟩) (c : PySem.W.codeIn K cdv x = true) (k : PySem.W.keepIn K (.ref f) = true) : DefAt K mg x st :=
  ⟨f,_,PySem.W.mg_of KX G a,zqM l c k⟩
theorem zr7 {P : Program} {w : World} {K : PySem.W.Frag} {mg : Str→Option Value} {x p : Str} {st : Stmt} {k : Nat} {F : List D→Res D} {fa : Addr} (hfa : mg x = some (.ref fa)) (A : DefAt K mg x st)
    (hb : ∀ (kV doc pm : Value) (an : Option Addr) (cdv ct : Value) (us : List Value),us.length = [p].length→bindArgs (PySem.W.fnOf x x (zcV st) (zbM st) (zac st) .none kV doc pm an cdv ct) ⟨us,[]⟩ = pure ([p].zip us))
    (C : ∀ (f : Addr) (fd : FuncData),Fun K x x st f fd→∀ base : Heap,FnOk P w K mg base CX0 k f fd [p] (spM K false [.sh] F)) :
    ∃ fd : FuncData,(∀ (s : Shared) (u : Value),BindsTo s fd ⟨[u],[]⟩ [(p,u)])∧∀ base : Heap,K.In base→base.Ns mainGlobals mg→FnOk P w K mg base CX0 k fa fd [p] (spM K false [.sh] F) := by
  obtain ⟨f,fd,h1,Fn⟩ := A.ex
  rw [hfa] at h1
  cases h1
  refine ⟨fd,fun s u => ?_,fun base _ _ => C fa fd Fn base⟩
  obtain ⟨oc,od,kV,doc,pm,an,cdv,ct,osl,rfl,lk,hcd⟩ := Fn.ex
  exact .of_eq (hb kV doc pm an cdv ct [u] rfl)
theorem zr9 {l : PySem.W.OpenLaw} {k : Nat} {q : Program} {loose : List Str} {XP : (Str→Option Value)→Heap→Prop} {YP : World→Heap→Prop} {d : DefRec} {K : Params→PySem.W.Frag} {x : Str} {F : List D→Res D} (hn : l.most = some 63) (hdf : d.params.defaults = []) (hr : Room k callerA)
    (hY : ∀ (w : World) (h : Heap),YP w h→(K w.params).In h) (hF : ∀ ns : List Int,ns.length≤63→F [.lst (ns.map .int)] = .ok (.bl true))
    (C : ∀ (w : World) (mg : Str→Option Value) (fa : Addr) (h : Heap),(K w.params).In h→h.Ns mainGlobals mg→mg d.name = some (.ref fa) →
      ∃ fd : FuncData,(∀ (s : Shared) (u : Value),BindsTo s fd ⟨[u],[]⟩ [(x,u)])∧∀ base : Heap,(K w.params).In base→base.Ns mainGlobals mg→FnOk l.prog w (K w.params) mg base CX0 k fa fd [x] (spM (K w.params) false [.sh] F)) :
    PySem.W.WalkO q loose XP YP l.row.toRowW d [] (fun f vs => PySem.call f vs) := by
  refine L2.walk_of (n := 63) (k := k) (x := x) (CX := fun _ => CX0) (sp := fun w => spM (K w.params) false [.sh] F) hn (by decide) hdf hr hY C (fun w H a ns hl hO hS => ?_) fun _ _ _ _ _ z => z
  have intsP : ∀ (l : List Int),Paired Scl (l.map V.int) (l.map D.int) := fun l => by
    induction l with
    | nil => exact .nil
    | cons i l ih => exact .cons (.int i) ih
  rcases hS with hS | hS
  · refine ⟨fun b => if b = a then some (.lst (ns.map D.int)) else none,[.lst (ns.map .int)],fun b d' hb => ?_,.sh (.ref (if_pos rfl)) .nil,?_⟩
    · by_cases e : b = a
      · subst e
        have hb' : some (D.lst (ns.map D.int)) = some d' := (if_pos rfl).symm.trans hb
        cases hb'
        exact .lst hS (Paired.mono (fun _ _ z => .scl z) (intsP ns))
      · have hb' : (none : Option D) = some d' := (if_neg e).symm.trans hb
        cases hb'
    · rw [hF ns hl]
      intro v G' H' w' rv
      exact rv.bl w'.ok
  · refine ⟨fun _ => none,[.lst (ns.map .int)],fun b d' hb => (by cases hb),.sh (.kc (.lst (.inr hS) (intsP ns))) .nil,?_⟩
    rw [hF ns hl]
    intro v G' H' w' rv
    exact rv.bl w'.ok
end DL
end
section
namespace DL
open PySem PySem.Spec PyProof.Rows L2
open AutoSeq1 (wpAny_loadPart')
section
variable {prog : Program} {w : World} {A : Around} {E : Value → Shared → Prop} {s : Shared}
end
section
variable {prog : Program} {w : World} {A : Around} {E : Value → Shared → Prop} {s : Shared}
end
end DL
end
section
namespace DL
open PySem PySem.Spec PyProof.Rows L2
noncomputable def tyN : D→Option String
  | .non => some "NoneType"
  | .bl _ => some "bool"
  | .int _ => some "int"
  | .str _ => some "str"
  | .tup _ => some "tuple"
  | .lst _ => some "list"
  | .dic _ => some "dict"
  | .obj _ _ => none
noncomputable def subT (t T : String) : Bool := t == T || (t == "bool" && T == "int")
noncomputable def isiD (T : String) (d : D) : Option D := (tyN d).map fun t => .bl (subT t T)
noncomputable def TyD (K : PySem.W.Frag) (x : V) (H : Hp) (t : String) : Prop := match x with
  | .non => t = "NoneType"
  | .bl _ => t = "bool"
  | .int _ => t = "int"
  | .str _ => t = "str"
  | .ref p => (t = "list"∧∃ xs,SqL K H p xs)∨(t = "tuple"∧∃ xs,SqT K H p xs)∨(t = "dict"∧∃ kvs,Rd H p (.dK kvs))
  | _ => False
theorem zoY {K : PySem.W.Frag} {G : GH} {H : Hp} {v : V} {d : D} {t : String} (gk : GOk K G H) (h : RB K G H v d) (e : tyN d = some t) : TyD K v H t := by
  cases d with
  | non => cases e; rw [h.non gk]; rfl
  | bl b => cases e; rw [h.bl gk]; rfl
  | int i => cases e; rw [h.int gk]; rfl
  | str x => cases e; rw [h.str gk]; rfl
  | tup ds => cases e; obtain ⟨a,xs,rfl,s,r⟩ := h.tup gk; exact .inr (.inl ⟨rfl,xs,s⟩)
  | lst ds => cases e; obtain ⟨a,xs,rfl,s,r⟩ := h.lst gk; exact .inl ⟨rfl,xs,s⟩
  | dic ds => cases e; obtain ⟨a,xs,rfl,s,r⟩ := h.dic gk; exact .inr (.inr ⟨rfl,xs,s⟩)
  | obj _ _ => cases e
section
variable {X : Cx} {g : GE} {m : List Md} {e a : Expr} {f : FE} {pos p p2 : Pos}
theorem zmg : zdh X (.builtin "isinstance") (fun xs H Q => ∃ x t T b,xs = [x,.ty T]∧TyD X.K x H t∧PySem.W.kitOne X.K (.type t) (.type T) = some b∧Q (.bl b) H) := by
  intro pins s σ H xs us Q I r h
  obtain ⟨x,t,T,b,rfl,ty,e,q⟩ := h
  obtain ⟨u,w',rfl,rx,ry⟩ := zoT r
  cases ry
  have fin : ∀ tk,EP X pins σ Q (.bool b) { s with toks := tk } := fun tk => ⟨.bl b,H,I.tok tk,rfl,q⟩
  cases x with
  | non => cases rx; cases (show t = "NoneType" from ty); exact PySem.W.kia_one PySem.W.kitx_none I.kIn True.intro e (fun z => nomatch z) fin
  | bl y => cases rx; cases (show t = "bool" from ty); exact PySem.W.kia_one PySem.W.kitx_bool I.kIn True.intro e (fun z => nomatch z) fin
  | int i => obtain ⟨t,rfl⟩ := rx; cases ty; exact PySem.W.kia_one PySem.W.kitx_int I.kIn True.intro e (fun z => nomatch z) fin
  | str i => obtain ⟨t,rfl⟩ := rx; cases ty; exact PySem.W.kia_one PySem.W.kitx_str I.kIn True.intro e (fun z => nomatch z) fin
  | ref p =>
    cases rx
    rcases ty with ⟨rfl,xs,hq⟩ | ⟨rfl,xs,hq⟩ | ⟨rfl,kvs,hq⟩
    · obtain ⟨its,_,pl,_⟩ := I.list hq
      obtain ⟨o,ho,hc,_⟩ := pl.isList
      exact PySem.W.kia_one PySem.W.kitx_list I.kIn ⟨o,ho,hc⟩ e (fun z => nomatch z) fin
    · obtain ⟨its,_,pl,_⟩ := I.tuple hq
      obtain ⟨o,ho,hc,_⟩ := pl
      exact PySem.W.kia_one PySem.W.kitx_tuple I.kIn ⟨o,ho,hc⟩ e (fun z => nomatch z) fin
    · obtain ⟨_,_,vs,_,pp⟩ := (show zbj X.prog X.w H s.heap p (.dK kvs) from hq.ok I.hok)
      obtain ⟨o,es,ep,h1,h2,_⟩ := pp
      exact PySem.W.kia_one PySem.W.kitx_dict I.kIn ⟨o,h1,h2.1⟩ e (fun z => nomatch z) fin
  | _ => exact (show False from ty).elim
theorem zeo (x : Str) (T : String) (hv : bootBuiltins x = some (.type T)) (hk : ∀ (d : D) (t : String),tyN d = some t→PySem.W.kitOne X.K (.type t) (.type T) = some (subT t T)) (hg : Gl X "isinstance") (hm : X.mg "isinstance" = none) (hgT : Gl X x) (hmT : X.mg x = none) (he : SB X g m e f)
    (hn : x≠"__name__" := by decide) (hd : (x == ("__debug__" : Str)) = false := by decide) (hs1 : starEach [e,.Name x p2] X.env = (false,eval e X.env)::starEach [.Name x p2] X.env := by rfl) (hs2 : starEach [.Name x p2] X.env = (false,eval (.Name x p2) X.env)::starEach [] X.env := by rfl)
    (hpl : (backTo pos (starEach [.Name x p2] X.env)).any (·.1) = false := by rfl) :
    SE X g m (.Call (.Name "isinstance" p) [e,.Name x p2] [] pos) (f1 f (isiD T)) := by
  refine PE.imp (zdr zmg hg hm (by first | exact PyProof.Rows.boot_isinstance | rfl) (zcT he (zcT (znX (v := .ty T) hgT hmT hv rfl hn hd) zfP hs2) hs1) (by decide) (by decide) hs1 hpl) fun σ H Q ⟨r,G,si,q⟩ => ⟨r,G,si,zag (zah q) fun d q1 v G1 H1 w1 r1 => ?_⟩
  obtain ⟨d',e',q2⟩ := zaL q1
  unfold isiD at e'
  cases et : tyN d with
  | none => rw [et] at e'; cases e'
  | some t =>
    rw [et] at e'
    cases e'
    exact ⟨v,t,T,_,rfl,zoY w1.ok r1 et,hk d t et,q2 _ G1 H1 w1 (.scl (.bl _))⟩
end
theorem zd4 {d : D} {t : String} (h : tyN d = some t) {P : String→Prop} (h1 : P "NoneType") (h2 : P "bool") (h3 : P "int") (h4 : P "str") (h5 : P "tuple") (h6 : P "list") (h7 : P "dict") : P t := by
  cases d <;> cases h <;> assumption
theorem zhQ (K : PySem.W.Frag) (d : D) (t : String) (h : tyN d = some t) : PySem.W.kitOne K (.type t) (.type "int") = some (subT t "int") := zd4 (P := fun t => PySem.W.kitOne K (.type t) (.type "int") = some (subT t "int")) h (by kernel_rfl) (by kernel_rfl) (by kernel_rfl) (by kernel_rfl) (by kernel_rfl) (by kernel_rfl) (by kernel_rfl)
theorem zgk (K : PySem.W.Frag) (d : D) (t : String) (h : tyN d = some t) : PySem.W.kitOne K (.type t) (.type "bool") = some (subT t "bool") := zd4 (P := fun t => PySem.W.kitOne K (.type t) (.type "bool") = some (subT t "bool")) h (by kernel_rfl) (by kernel_rfl) (by kernel_rfl) (by kernel_rfl) (by kernel_rfl) (by kernel_rfl) (by kernel_rfl)
theorem zl0 (K : PySem.W.Frag) (d : D) (t : String) (h : tyN d = some t) : PySem.W.kitOne K (.type t) (.type "list") = some (subT t "list") := zd4 (P := fun t => PySem.W.kitOne K (.type t) (.type "list") = some (subT t "list")) h (by kernel_rfl) (by kernel_rfl) (by kernel_rfl) (by kernel_rfl) (by kernel_rfl) (by kernel_rfl) (by kernel_rfl)
theorem zcH (K : PySem.W.Frag) (d : D) (t : String) (h : tyN d = some t) : PySem.W.kitOne K (.type t) (.type "tuple") = some (subT t "tuple") := zd4 (P := fun t => PySem.W.kitOne K (.type t) (.type "tuple") = some (subT t "tuple")) h (by kernel_rfl) (by kernel_rfl) (by kernel_rfl) (by kernel_rfl) (by kernel_rfl) (by kernel_rfl) (by kernel_rfl)
section
variable {X : Cx} {g : GE} {m : List Md} {e a b : Expr} {f fa : FE} {pos p pos2 p2 : Pos} {es : List Expr} {fl : Rho → Res (List D)}
noncomputable def rngV (lo : Int) (n : Nat) : List V := (List.range n).map fun (i : Nat) => V.int (lo + (i : Int))
theorem zpz {K : PySem.W.Frag} {G : GH} (lo : Int) (n : Nat) : RGs K G (rngV lo n) (rngD lo n) := by
  unfold rngV rngD
  induction (List.range n) with
  | nil => exact .nil
  | cons i l ih => exact .cons (.scl (.int _)) ih
theorem zd2 : ∀ {xs : List V} {us : List Value},xs.length = us.length→(∀ (j : Nat) v u,xs[j]? = some v→us[j]? = some u→L2.RelV v u)→Vals xs us
  | [],[],_,_ => .nil
  | v::xs,u::us,hl,h => .cons (h 0 v u rfl rfl) (zd2 (by simpa using hl) fun j a b e1 e2 => h (j + 1) a b (by simpa using e1) (by simpa using e2))
  | [],_::_,hl,_ => by simp at hl
  | _::_,[],hl,_ => by simp at hl
theorem zlv {lo : Int} {n : Nat} {acc : Array Value} (h : ItemsOf (fun i v => ∃ t,v = .int (lo + i * 1) t) acc n) : Vals (rngV lo n) acc.toList := by
  refine zd2 (by simp [rngV,h.1]) fun j v u e1 e2 => ?_
  have hj : j < n := by
    have := (List.getElem?_eq_some_iff.mp e1).1
    simpa [rngV] using this
  unfold rngV at e1
  rw [List.getElem?_map,List.getElem?_range hj] at e1
  cases e1
  obtain ⟨t,rfl⟩ := h.2 j u (by rw [← Array.getElem?_toList]; exact e2)
  exact ⟨t,by simp⟩
theorem zkW : zdh X (.type "range") (fun xs H Q => ∃ j,xs = [.int j]∧∀ p,H p = none→Q (.ref p) (upd H p (.rng 0 j))) := by
  intro pins s σ H xs us Q I r h
  obtain ⟨j,rfl,q⟩ := h
  obtain ⟨u,rfl,t,rfl⟩ := zeT r
  refine call_range_1 ⟨.ref s.heap.objs.size,_,I.laid (o := .rng 0 j) (fun b o e => Heap.get?_push_of_some _ e) (Nat.le_refl _) ⟨_,_,_,Heap.get?_push_size _ rfl⟩,rfl,q _ (I.hok.fresh (Nat.le_refl _))⟩
theorem zgr (hc : X.calm = true) : zdh X (.type "list") (fun xs H Q => ∃ p lo hi,xs = [.ref p]∧H p = some (.rng lo hi)∧(-(2 ^ 62)≤lo∧lo < 2 ^ 62∧-(2 ^ 62)≤hi∧hi < 2 ^ 62)∧(hi - lo).toNat≤sizeLine∧∀ l,H l = none→Q (.ref l) (upd H l (.lst (rngV lo (hi - lo).toNat)))) := by
  intro pins s σ H xs us Q I r h
  obtain ⟨p,lo,hi,rfl,hp,⟨h1,h2,h3,h4⟩,hz,q⟩ := h
  obtain ⟨u,rfl,rx⟩ := zeT r
  cases rx
  obtain ⟨t,u,v,ho⟩ := (show zbj X.prog X.w H s.heap p (.rng lo hi) from I.hok p _ hp)
  have e2 : Builtin.Range.rangeSize lo hi 1 = (((hi - lo).toNat : Nat) : Int) := by rw [rangeSize_one]; split <;> omega
  refine call_list_range (I.ok.hd hc) (r := p) (a := lo) (b := hi) (c := 1) ho (small_one h1 h2 h3 h4) e2 (by rw [sizeLine_eq] at hz; omega) fun h' tk acc c' kp hS hacc => ?_
  refine ⟨.ref s.heap.objs.size,_,I.laid (t' := tk) kp (Nat.le_refl _) (show zbj X.prog X.w _ h' _ (.lst (rngV lo (hi - lo).toNat)) from ⟨by unfold rngV; rw [List.length_map,List.length_range]; exact hz,acc.toList,c',zlv hacc,by rw [Array.toArray_toList]; exact hS⟩),rfl,q _ (I.hok.fresh (Nat.le_refl _))⟩
noncomputable def zj9 : List D→Option D
  | [.int j] => if -(2 ^ 62)≤j∧j < 2 ^ 62∧j.toNat≤sizeLine then some (.lst (rngD 0 j.toNat)) else none
  | _ => none
theorem zqN {H : Hp} {p l : Addr} {o : HO} (h : upd H p o l = none) : H l = none∧l≠p := by
  by_cases e : l = p
  · subst e; rw [zao] at h; cases h
  · rw [zan e] at h; exact ⟨h,e⟩
theorem zof (hc : X.calm = true) (hgl : Gl X "list") (hml : X.mg "list" = none) (hg : Gl X "range") (hm : X.mg "range" = none) (ha : SAB X g m [a] fl)
    (hs : starEach [a] X.env = (false,eval a X.env)::starEach [] X.env := by rfl)
    (hs2 : starEach [.Call (.Name "range" p2) [a] [] pos2] X.env = (false,eval (.Call (.Name "range" p2) [a] [] pos2) X.env)::starEach [] X.env := by rfl) :
    SO X g m (.Call (.Name "list" p) [.Call (.Name "range" p2) [a] [] pos2] [] pos) (fC fl zj9) := by
  refine PE.imp (zec (zgr hc) hgl hml rfl (zcT (zec zkW hg hm boot_range ha (by decide) (by decide) hs rfl) zfP hs2) (by decide) (by decide) hs2 rfl) fun σ H Q ⟨r,G,si,q⟩ => ⟨r,G,si,zag (zah q) fun ds q1 vs G1 H1 w1 rs => ?_⟩
  obtain ⟨d,e,q2⟩ := zaL q1
  unfold zj9 at e
  split at e
  · split at e
    · rename_i j hj
      cases e
      cases rs with
      | cons r1 t =>
        cases t
        refine ⟨j,by rw [r1.int w1.ok],fun p hp => ⟨p,0,j,rfl,zao,⟨by decide,by decide,hj.1,hj.2.1⟩,by simpa using hj.2.2,fun l hl => ?_⟩⟩
        obtain ⟨hl1,hl2⟩ := zqN hl
        have w2 := Grow.new w1.ok hp (.rng 0 j)
        have w3 := Grow.new w2.ok hl (.lst (rngV 0 (j - 0).toNat))
        refine q2 l G1 _ (w1.trans (w2.trans w3)) (w1.back hl1) ⟨w1.ok.isN hl1,.lst zao ?_⟩
        rw [show j - 0 = j by omega]
        exact zpz 0 _
    · cases e
  · cases e
end
end DL
end
section
namespace DL
open PySem PySem.Spec PyProof.Rows L2
noncomputable def MtD (K : PySem.W.Frag) (r : V→List V→Hp→VK→Prop) (k : D→List D→Option D) : Prop := ∀ (G : GH) (H : Hp) (v : V) (d : D) (vs : List V) (ds : List D) (d' : D) (Q : VK),GOk K G H→RB K G H v d→Paired (RB K G H) vs ds→k d ds = some d' →
  (∀ v' G' H',Grow K G H G' H'→RG K G' v' d'→Q v' H')→r v vs H Q
noncomputable def tyM (T : String) : D→Bool
  | .lst _ => T == "list"
  | .tup _ => T == "tuple"
  | .dic _ => T == "dict"
  | .str _ => T == "str"
  | .int _ => T == "int"
  | _ => false
theorem zoX {K : PySem.W.Frag} {G : GH} {H : Hp} {v : V} {d : D} {T : String} (gk : GOk K G H) (h : RB K G H v d) (t : tyM T d = true) : tyV K T v H := by
  cases d with
  | lst ds => obtain ⟨a,xs,rfl,s,r⟩ := h.lst gk; exact .inl ⟨eq_of_beq t,xs,s⟩
  | tup ds =>
    have e : T = "tuple" := eq_of_beq t
    rcases h with h | ⟨a,rfl,o⟩
    · cases h with
      | scl s => cases s
      | ref q =>
        cases gk _ _ q with
        | tup r s => exact .inr (.inl ⟨e,.inr ⟨_,r⟩⟩)
      | kc k =>
        cases k with
        | tup r s z => exact .inr (.inl ⟨e,.inl z⟩)
    · cases o.ob
  | dic ds => obtain ⟨a,xs,rfl,s,r⟩ := h.dic gk; exact .inr (.inr (.inl ⟨eq_of_beq t,.inl ⟨xs,s⟩⟩))
  | str x => rw [h.str gk]; exact eq_of_beq t
  | int x => rw [h.int gk]; exact eq_of_beq t
  | _ => cases t
noncomputable def fM (T : String) (fo : FE) (fl : Rho→Res (List D)) (k : D→List D→Option D) : FE := fun r => (fo r).bind fun d => if tyM T d = true then (fl r).bind fun ds => opt (k d ds) else .stuck
section
variable {X : Cx} {g : GE} {m mb : List Md} {e a b o : Expr} {es : List Expr} {f fa fb fo : FE} {fl : Rho → Res (List D)} {pos pos' apos cpos : Pos} {ro : Bool} {x name : Str} {T id : String} {R : V → List V → Hp → VK → Prop} {k : D → List D → Option D}
theorem s_bm (pa : PlainAttrs T) (slot : Slot T name id) (hty : typeOf (.builtin id) = pure (.type "method_descriptor")) (hmt : MtR X id R) (hk : MtD X.K R k) (ho : SB X g m o fo) (ha : SAB X g m (e::es) fl)
    (hbase : attributeBase o name X.env (eval o X.env) = eval o X.env := by rfl)
    (hfew : ((backTo cpos (starEach (e::es) X.env)).all (fun x => ! x.1) && (backToKw cpos (keywordEach [] X.env)).all (fun x => x.1.isSome) && decide ((e::es).length + ([] : List Keyword).length + (if ([] : List Keyword).isEmpty then 0 else 1) < 30)) = true := by rfl)
    (hline : (apos.endLine == cpos.line) = true := by rfl) (hst : starEach (e::es) X.env = (false,eval e X.env)::starEach es X.env := by rfl) (hplain : (backTo cpos (starEach es X.env)).any (·.1) = false := by rfl) :
    SE X g m (.Call (.Attribute o name apos) (e::es) [] cpos) (fM T fo fl k) := by
  refine PE.imp (zpW pa slot hty hmt ho ha hbase hfew hline hst hplain) fun σ H Q ⟨r,G,si,q⟩ => ⟨r,G,si,zag (zah q) fun d q1 v G1 H1 w1 r1 => ?_⟩
  by_cases ht : tyM T d = true
  · rw [if_pos ht] at q1
    refine ⟨zoX w1.ok r1 ht,r,G1,si.grow w1,zbb (zah q1) w1 fun ds q2 vs G2 H2 w2 rs => ?_⟩
    obtain ⟨d',e',q3⟩ := zaL q2
    exact hk G2 H2 v d vs ds d' Q w2.ok (r1.mono w2) rs e' fun v' G' H' w' z => q3 v' G' H' ((w1.trans w2).trans w') z
  · rw [if_neg ht] at q1; exact q1.elim
noncomputable def zhU (x : V) : List V→Option Nat
  | [] => none
  | y::xs => if eqV y x = true then some 0 else (zhU x xs).map (· + 1)
noncomputable def zg6 (x : D) : List D→Option Nat
  | [] => none
  | y::xs => if eqs y x = true then some 0 else (zg6 x xs).map (· + 1)
theorem ziB (x : D) : ∀ ds : List D,zhU (toV x) (ds.map toV) = zg6 x ds
  | [] => rfl
  | y::ds => by
    show (if eqV (toV y) (toV x) = true then some 0 else (zhU (toV x) (ds.map toV)).map (· + 1)) = if eqs y x = true then some 0 else (zg6 x ds).map (· + 1)
    rw [ziB x ds]; rfl
theorem zl6 {x : V} {xs : List V} {us : List Value} {j : Nat} (h0 : Vals xs us) (f : xs.all zdW = true) (h : zhU x xs = some j) : ∃ hj : j < us.length,eqU x us[j] = true∧∀ i (hi : i < us.length),i < j→eqU x us[i] = false := by
  induction h0 generalizing j with
  | nil => cases h
  | @cons y u xs us r t ih =>
    rw [List.all_cons,Bool.and_eq_true] at f
    unfold zhU at h
    by_cases hy : eqV y x = true
    · rw [if_pos hy] at h
      cases h
      exact ⟨Nat.zero_lt_succ _,by show eqU x u = true; rw [zhc r f.1]; exact hy,fun i _ hlt => absurd hlt (Nat.not_lt_zero _)⟩
    · rw [if_neg hy] at h
      cases e : zhU x xs with
      | none => rw [e] at h; cases h
      | some z =>
        rw [e] at h
        cases h
        obtain ⟨a,b,c⟩ := ih f.2 e
        refine ⟨Nat.succ_lt_succ a,b,fun i hi hlt => ?_⟩
        cases i with
        | zero => show eqU x u = false; rw [zhc r f.1]; simpa using hy
        | succ i => exact c i (Nat.lt_of_succ_lt_succ hi) (Nat.lt_of_succ_lt_succ hlt)
noncomputable def zeK (xs : List V) : Bool := xs.all fun x => match x with | .int _ => true | _ => false
theorem zh3 {xs : List V} (h : zeK xs = true) : xs.all zdW = true := by
  unfold zeK at h
  rw [List.all_eq_true] at h ⊢
  intro x hx
  have := h x hx
  cases x <;> first | rfl | exact absurd this Bool.false_ne_true
theorem zgY {k : Int} {t : Tok} : ∀ {xs : List V} {us : List Value},Vals xs us→zeK xs = true→∀ u∈us,MeetsSeq.EqGives u (.int k t) (eqU (.int k) u)
  | _,_,.nil,_ => fun u hu => by cases hu
  | y::xs,u::us,.cons r rt,f => fun u' hu => by
    unfold zeK at f
    rw [List.all_cons,Bool.and_eq_true] at f
    cases y with
    | int i =>
      obtain ⟨t',rfl⟩ := r
      rcases List.mem_cons.mp hu with rfl | hu
      · exact MeetsSeq.EqGives.int i k t' t
      · exact zgY rt f.2 u' hu
    | _ => exact absurd f.1 Bool.false_ne_true
noncomputable def zpG : V→List V→Hp→VK→Prop := fun x vs H Q => ∃ l xs k j,x = .ref l∧vs = [.int k]∧H l = some (.lst xs)∧zeK xs = true∧zhU (.int k) xs = some j∧Q .non (upd H l (.lst (xs.eraseIdx j)))
theorem zj5 : MtR X "list.remove" zpG := by
  intro pins s σ H x vs v us Q I rx rv h
  obtain ⟨l,xs,k,j,rfl,rfl,hH,hi,e,q⟩ := h
  cases rx
  obtain ⟨u,rfl,t,rfl⟩ := zeT rv
  obtain ⟨hz,its,n,r,hl,eo⟩ := I.lstM hH
  obtain ⟨a,b,c⟩ := zl6 r (zh3 hi) e
  have geq : ∀ y,y∈its.toArray→MeetsSeq.EqGives y (.int k t) (eqU (.int k) y) := fun y hy => zgY r hi y (by simpa using hy)
  have hsz : its.toArray.size≤sizeLine := by rw [List.size_toArray]; omega
  refine call_meets PySem.F.slot_list_remove ⟨_,eo,rfl⟩ PySem.F.entry_list_remove (PySem.F.args_list_remove_2 _ _) (MeetsSeq.list_remove l its.toArray n (.int k t) (eqU (.int k)) geq j (by simpa using a) (by simpa using b) (fun i hi hlt => by simpa using c i (by simpa using hi) hlt) hsz) ⟨eo,?_⟩
  refine ⟨.non,_,I.lset (its' := its.eraseIdx j) hH eo ?_ ?_ ?_,rfl,q⟩
  · apply Array.toList_inj.mp
    simp [Array.toList_eraseIdxIfInBounds]
  · exact Vals.eraseIdx j r
  · have := List.length_eraseIdx_le xs j
    omega
noncomputable def isInt : D→Bool
  | .int _ => true
  | _ => false
theorem zqz {K : PySem.W.Frag} {G : GH} {H : Hp} {xs : List V} {ds : List D} (h : RGs K G xs ds) (gk : GOk K G H) (hf : ds.all isInt = true) : zeK xs = true∧xs = ds.map toV := by
  induction h with
  | nil => exact ⟨rfl,rfl⟩
  | @cons x d xs ds r t ih =>
    rw [List.all_cons,Bool.and_eq_true] at hf
    obtain ⟨h1,h2⟩ := ih hf.2
    cases d with
    | int i =>
      have e := r.int gk
      subst e
      refine ⟨?_,by rw [List.map_cons,← h2]; rfl⟩
      show zeK _ = true
      unfold zeK at h1 ⊢
      rw [List.all_cons,h1]; rfl
    | _ => exact absurd hf.1 Bool.false_ne_true
noncomputable def remD : D→List D→Option D
  | .lst ds,[.int k] => if ds.all isInt = true then (zg6 (.int k) ds).map fun j => .lst (ds.eraseIdx j) else none
  | _,_ => none
theorem zpB {K : PySem.W.Frag} : MutD K zpG remD := by
  intro G H a d vs ds d' Q gk ow rs e q
  unfold remD at e
  split at e
  · split at e
    · rename_i zs k hall
      cases ef : zg6 (.int k) zs with
      | none => rw [ef] at e; cases e
      | some j =>
        rw [ef] at e
        cases e
        cases ow.ob with
        | lst r s =>
          cases rs with
          | cons r1 t =>
            cases t
            obtain ⟨h1,h2⟩ := zqz s gk hall
            refine ⟨a,_,k,j,rfl,by rw [r1.int gk],r,h1,?_,q _ (.lst zao (Paired.er j s))⟩
            rw [h2]
            exact (ziB (.int k) zs).trans ef
    · cases e
  · cases e
noncomputable def zri : D→Option D
  | .dic kvs => some (.lst (kvs.map (·.2)))
  | _ => none
end
end DL
end
section
namespace DL
open PySem PySem.Spec PyProof.Rows L2
section
variable {X : Cx} {g : GE} {m : List Md} {e a : Expr} {f : FE} {pos p pos2 : Pos} {elts : List Expr} {kk : Nat}
end
end DL
end
section
namespace DL
open PySem PySem.Spec PyProof.Rows L2
inductive TupI (h : Heap) : Value→List Int→Prop where
  | mk {a : Addr} {items : Array Value} {ns : List Int} : IsTup h a items→IntsAre items.toList ns→TupI h (.ref a) ns
inductive TupsI (h : Heap) : List Value→List (List Int)→Prop where
  | nil : TupsI h [] []
  | cons {p : Value} {k : List Int} {ps : List Value} {ks : List (List Int)} : TupI h p k→TupsI h ps ks→TupsI h (p::ps) (k::ks)
theorem TupsI.length {h : Heap} : ∀ {ps : List Value} {ks : List (List Int)},TupsI h ps ks→ps.length = ks.length
  | _,_,.nil => rfl
  | _,_,.cons _ t => congrArg (· + 1) t.length
section
variable {prog : Program} {w : World} {A : Around} {s : Shared}
inductive TupR (h : Heap) : Value→List (List Int)→Prop where
  | mk {a : Addr} {items : List Value} {ks : List (List Int)} : IsTup h a items.toArray→TupsI h items ks→ks≠[]→TupR h (.ref a) ks
end
end DL
end
section
namespace DL
open PySem PySem.Spec PyProof.Rows L2
noncomputable def zdf : List D→Option (List Int)
  | [] => some []
  | .int i::ds => (zdf ds).map (i::·)
  | _ => none
theorem ziE {K : PySem.W.Frag} {G : GH} {H : Hp} (gk : GOk K G H) {ds : List D} {xs : List V} {ns : List Int} (h : RGs K G xs ds) (e : zdf ds = some ns) : xs = ns.map V.int := by
  induction h generalizing ns with
  | nil => cases e; rfl
  | @cons x d xs ds r t ih =>
    cases d with
    | int i =>
      have e' : (zdf ds).map (i::·) = some ns := e
      cases q : zdf ds with
      | none => rw [q] at e'; cases e'
      | some ms =>
        rw [q] at e'
        cases e'
        rw [r.int gk,ih q]; rfl
    | _ => cases e
section
variable {X : Cx} {g : GE} {m : List Md} {e a : Expr} {f : FE} {pos p pos2 p2 : Pos}
end
end DL
end
section
namespace DL
open PySem PySem.Spec PyProof.Rows L2
theorem zbj.isS {P : Program} {w : World} {H : Hp} {h : Heap} {a : Addr} {o : HO} (x : zbj P w H h a o) : h.get? a≠none := by
  have s : ∀ {u : Obj},h.get? a = some u→h.get? a≠none := fun e z => by rw [z] at e; cases e
  cases o with
  | lst xs => obtain ⟨_,_,_,_,e⟩ := x; exact s e
  | tup xs => obtain ⟨_,_,_,⟨_,e,_⟩,_⟩ := x; exact s e
  | dK kvs => obtain ⟨_,_,_,_,o,_,_,e,_⟩ := x; exact s e
  | dT kvs => obtain ⟨_,_,_,_,o,_,_,e,_⟩ := x; exact s e
  | set S n => obtain ⟨o,_,_,_,e,_⟩ := x; exact s e
  | ins C dx fs => obtain ⟨_,_,_,e,_⟩ := x; exact s e
  | own y => obtain ⟨_,e⟩ := x; exact s e
  | xd fs => obtain ⟨_,⟨_,_,_,e,_⟩,_⟩ := x; exact s e
  | rng lo hi => obtain ⟨_,_,_,e⟩ := x; exact s e
  | frz ob u => obtain ⟨e,_⟩ := x; exact s e
  | tbl ps => exact s (show h.get? a = some _ from x)
  | met f y => exact s (show h.get? a = some _ from x)
  | ext φ => obtain ⟨_,⟨_,e⟩,_⟩ := x; exact s e
section
variable {X : Cx} {pins : List (Addr × Obj)} {σ : L2.St} {H : Hp} {s : Shared}
theorem Inv.laidN {D : Addr} {ys : List V} {its : List Value} {c : Nat} {h' : Heap} (I : Inv X pins σ H s) (hD : s.heap.get? D = none) (hDL : D≠X.env.locals) (k : ∀ b o,b≠X.env.locals→s.heap.get? b = some o→h'.get? b = some o)
    (hns : ∀ m,s.heap.Ns X.env.locals m→h'.Ns X.env.locals m) (ho : h'.get? D = some { cls := .type "list",data := .seq its.toArray c }) (rv : Vals ys its) (hz : ys.length≤sizeLine) (t' : Nat) :
    Inv X pins σ (upd H D (.lst ys)) { s with heap := h',toks := t' } := by
  have hHD : H D = none := by
    cases q : H D with
    | none => rfl
    | some u =>
      exact absurd hD (zbj.isS (I.hok D u q))
  have neD : ∀ b o,s.heap.get? b = some o→b≠D := fun b o e z => by rw [z,hD] at e; cases e
  have keepU : ∀ b u,H b = some u→upd H D (.lst ys) b = some u := fun b u e => by rw [zan (zbH e hHD)]; exact e
  have trkL : ∀ b u,H b = some u→b≠X.env.locals := fun b u e z => by rw [z,I.free] at e; cases e
  refine I.step (g' := s.gens) (d' := s.drawn) (ch := []) (fun b hb => absurd hb (by simp)) (fun b ob hL _ _ e _ => k b ob hL e) (fun b ob hL _ _ e _ => ⟨ob.slots,k b ob hL e⟩) (fun b ob _ e n => by rw [zan (neD b ob e)]; exact n)
    (fun b ob _ e => ?_) (fun b xs e => keepU b _ e) (fun b ob u e => keepU b _ e) (fun b ps e => ⟨#[],by rw [keepU b _ e]; simp⟩) hns (fun b u e => ?_) I.bare
  · by_cases hb : b = X.env.locals
    · subst hb
      obtain ⟨m,hn,_⟩ := I.loc
      obtain ⟨o,_,_,ho',_⟩ := hns m hn
      exact ⟨o,ho'⟩
    · exact ⟨ob,k b ob hb e⟩
  · by_cases hb : b = D
    · subst hb
      rw [zao] at e
      cases e
      exact ⟨hz,its,c,rv,ho⟩
    · rw [zan hb] at e
      refine (I.hok b u e).stay (fun cc v hc q => k cc v ?_ q) (fun cc q => keepU cc _ q) fun cc xs q => keepU cc _ q
      rcases hc with z | z
      · rw [z]; exact trkL b u e
      · exact trkL cc _ z
theorem zoh {h : Heap} {L : Addr} {m m' : Str→Option Value} (a : h.Ns L m) (b : h.Ns L m') : m = m' := by
  obtain ⟨o,es,ep,e,d,_,f⟩ := a
  obtain ⟨o',es',ep',e',d',_,f'⟩ := b
  rw [e] at e'; cases e'
  rw [d] at d'; cases d'
  funext x
  rw [← f,← f']
end
end DL
end
section
namespace DL
open PySem PySem.Spec PyProof.Rows L2
section
variable {K : PySem.W.Frag} {G : GH} {H : Hp}
end
section
variable {X : Cx} {g : GE} {m : List Md} {a : Expr} {fl : Rho → Res (List D)} {pos p : Pos} {k : Nat}
end
end DL
end
section
namespace DL
open PySem PyProof.Rows PySem.SeqAt PySem.MeetsSeq PySem.MeetsSeq2 PySem.MeetsSeq3 L2
open PySem.AutoSeq1 (wpAny_loadPart')
end DL
end
section
namespace DL
open PySem PyProof.Rows L2
section
variable {prog : Program} {w : World} {A : Around} {E : Value → Shared → Prop} {s : Shared}
end
end DL
end
section
namespace DL
open PySem PySem.Spec PyProof.Rows L2
section
variable {X : Cx} {pins : List (Addr × Obj)} {σ : L2.St} {H : Hp} {s : Shared}
end
section
variable {K : PySem.W.Frag} {G : GH} {H : Hp}
end
section
variable {X : Cx} {g : GE} {m : List Md} {a : Expr} {fl : Rho → Res (List D)} {pos p : Pos} {k : Nat}
end
end DL
end
section
namespace DL
open PySem PySem.Spec PyProof.Rows L2
section
variable {X : Cx} {pins : List (Addr × Obj)} {σ : L2.St} {H : Hp} {s : Shared}
theorem Inv.keptN {h' : Heap} (I : Inv X pins σ H s) (k : ∀ b o,b≠X.env.locals→s.heap.get? b = some o→h'.get? b = some o)
    (hns : ∀ m,s.heap.Ns X.env.locals m→h'.Ns X.env.locals m) (t' : Nat) : Inv X pins σ H { s with heap := h',toks := t' } := by
  have trkL : ∀ b u,H b = some u→b≠X.env.locals := fun b u e z => by rw [z,I.free] at e; cases e
  refine I.step (g' := s.gens) (d' := s.drawn) (ch := []) (fun b hb => absurd hb (by simp)) (fun b ob hL _ _ e _ => k b ob hL e) (fun b ob hL _ _ e _ => ⟨ob.slots,k b ob hL e⟩) (fun b ob _ e n => n)
    (fun b ob _ e => ?_) (fun b xs e => e) (fun b ob u e => e) (fun b ps e => ⟨#[],by rw [e]; simp⟩) hns (fun b u e => ?_) I.bare
  · by_cases hb : b = X.env.locals
    · subst hb
      obtain ⟨m,hn,_⟩ := I.loc
      obtain ⟨o,_,_,ho',_⟩ := hns m hn
      exact ⟨o,ho'⟩
    · exact ⟨ob,k b ob hb e⟩
  · refine (I.hok b u e).stay (fun cc v hc q => k cc v ?_ q) (fun cc q => q) fun cc xs q => q
    rcases hc with z | z
    · rw [z]; exact trkL b u e
    · exact trkL cc _ z
theorem Inv.keptF {h' : Heap} {mF : Str→Option Value} (I : Inv X pins σ H s) (F : Fr X.base X.env.locals s.heap mF) (F' : Fr X.base X.env.locals h' mF) (N' : News X.base X.env.locals h' (zfu X.base s.heap X.env.locals)) (t' : Nat) : Inv X pins σ H { s with heap := h',toks := t' } := by
  refine Inv.keptN I (fun b o hb e => ?_) (fun m hm => by rw [zoh hm F.ns]; exact F'.ns) t'
  cases z : X.base.get? b with
  | some o' =>
    have := I.bk b o' z
    rw [e] at this; cases this
    exact F'.keep b o z
  | none => exact (N' (b,o) (zhP hb z e)).1
end
section
variable {X : Cx} {g : GE} {m : List Md} {e a b : Expr} {es : List Expr} {fl : Rho → Res (List D)} {fa fb : FE} {pos p : Pos}
noncomputable def zpI (K : PySem.W.Frag) : R2 := fun x y H Q => ∃ a b ys,x = .ref a∧y = .ref b∧SqT K H a []∧SqT K H b ys∧Q (.ref b) H
theorem zn6 : OpR X (binaryOp .Add) (zpI X.K) := by
  intro pins s σ H x y v u Q I rx ry h
  obtain ⟨a,b,ys,rfl,rfl,ha,hb,q⟩ := h
  cases rx
  cases ry
  obtain ⟨its,r1,p1,_⟩ := I.tuple ha
  obtain ⟨its2,r2,p2,_⟩ := I.tuple hb
  cases r1
  obtain ⟨⟨cls,dd,data,sl⟩,ho,hc,n,hd⟩ := id p1
  obtain ⟨⟨cls2,dd2,data2,sl2⟩,ho2,hc2,n2,hd2⟩ := id p2
  simp only at hc hd hc2 hd2
  subst hc hd hc2 hd2
  exact concat_meets ⟨_,ho,rfl⟩ ⟨_,ho2,rfl⟩ noFill_tuple_add seq_tuple_add PySem.F.slot_tuple_add PySem.F.entry_tuple_add (PySem.F.args_tuple_add_2 _ _)
    (tuple_addW0 a b _ _ n n2 dd dd2 sl sl2 rfl) ⟨ho,ho2,⟨.ref b,H,I,rfl,q⟩⟩
noncomputable def addE : D→D→Option D
  | .tup [],.tup b => some (.tup b)
  | a,b => addA a b
theorem zoN {K : PySem.W.Frag} : OpD K (fun x y H Q => zpI K x y H Q∨((∃ i j,x = .int i∧y = .int j∧Q (.int (i + j)) H)∨(∃ i j,x = .str i∧y = .str j∧i.length + j.length≤sizeLine∧Q (.str (i++j)) H)∨znM K x y H Q∨znL K x y H Q)) addE := by
  intro G H v1 v2 d1 d2 d Q gk r1 r2 e q
  unfold addE at e
  split at e
  · cases e
    rcases r1 with r1 | ⟨a',_,oo⟩
    · rcases r2 with r2 | ⟨a',_,oo⟩
      · obtain ⟨a,xs,rfl,s1,t1⟩ := r1.tup gk
        obtain ⟨b,ys,rfl,s2,t2⟩ := r2.tup gk
        cases t1
        exact .inl ⟨a,b,ys,rfl,rfl,s1,s2,q _ G H (Grow.refl gk) r2⟩
      · cases oo.ob
    · cases oo.ob
  · exact .inr (zk3 G H v1 v2 d1 d2 d Q gk r1 r2 e q)
theorem zps (ha : SB X g m a fa) (hb : SB X g m b fb) : SE X g m (.BinOp a .Add b pos) (f2 fa fb addE) := zgb (OpR.or zn6 (OpR.or zmH (OpR.or zfQ (OpR.or zjY zjX)))) zoN ha hb
end
end DL
end
section
namespace DL
open PySem PyProof.Rows L2
open PySem.AutoSeq1 (wpAny_loadPart')
section
variable {X : Cx}
end
end DL
end
section
namespace DL
open PySem PyProof.Rows PySem.W
section
variable {n : Nat} {c : Nat → Nat → Bool} (as : ∀ i j, c i j = true → c j i = false) (tr : ∀ i j k, c j i = false → c k j = false → c k i = false)
noncomputable def Le (c : Nat→Nat→Bool) (i j : Nat) : Prop := c j i = false
noncomputable def Eqv (c : Nat→Nat→Bool) (i j : Nat) : Prop := Le c i j∧Le c j i
include tr in
theorem Eqv.trans {i j k : Nat} (h1 : Eqv c i j) (h2 : Eqv c j k) : Eqv c i k := ⟨tr _ _ _ h1.1 h2.1,tr _ _ _ h2.2 h1.2⟩
theorem Eqv.symm {i j : Nat} (h : Eqv c i j) : Eqv c j i := ⟨h.2,h.1⟩
include as tr in
include tr in
include as tr in
include as tr in
include as tr in
include as tr in
include as tr in
include as tr in
include as tr in
include as tr in
include as tr in
end
end DL
end
section
namespace DL
section
variable {α : Type} {lt : α → α → Bool} {d : α}
end
end DL
end
section
namespace DL
open PySem PySem.Spec PyProof.Rows L2
section
variable {X : Cx} {pins : List (Addr × Obj)} {σ : L2.St} {H : Hp} {s : Shared}
end
section
variable {X : Cx} {g : GE} {m : List Md} {a : Expr} {fl : Rho → Res (List D)} {pos p : Pos} {k : Nat}
end
end DL
end
section
namespace DL
open PySem PySem.Spec PyProof.Rows L2
section
variable {X : Cx} {pins : List (Addr × Obj)} {σ : L2.St} {H : Hp} {s : Shared}
theorem zk2 (bs : List Bool) : ((List.range bs.length).all fun i => bs.getD i true) = bs.all id := by
  rw [Bool.eq_iff_iff,List.all_eq_true,List.all_eq_true]
  constructor
  · intro h b hb
    obtain ⟨i,hi,rfl⟩ := List.getElem_of_mem hb
    have := h i (List.mem_range.mpr hi)
    simpa [List.getD_eq_getElem?_getD,hi] using this
  · intro h i hi
    have hi := List.mem_range.mp hi
    have := h bs[i] (List.getElem_mem _)
    simpa [List.getD_eq_getElem?_getD,hi] using this
theorem ziI (hc : X.calm = true) (I : Inv X pins σ H s) {p : Addr} {bs : List Bool} (hq : SqL X.K H p (bs.map V.bl)) {A : Around} (hA : A.handled = none) {E : Value→Shared→Prop} {Q : Value→Shared→Prop}
    (h : ∀ I fp wr n P St tr it s₂,it = Value.ref I→Walks X.prog X.w A I fp wr n P St→St 0 s₂.heap→TruthOf X.prog X.w A P tr→n = bs.length→(∀ i,tr i = bs.getD i true) →
      (∀ (h' : Heap) (tk : Nat),(∀ (b : Addr) (o : Obj),¬b∈wr→s₂.heap.get? b = some o→h'.get? b = some o)→Inv X pins σ H { heap := h',gens := s₂.gens,drawn := s₂.drawn,toks := tk,os := s₂.os })→Q it s₂) :
    wpAny (model X.prog X.w) A (pyIter (.ref p)) Q E s := by
  obtain ⟨its,rv,pl,hz⟩ := I.list hq
  have hl := rv.length
  rw [List.length_map] at hl
  refine PySem.Flt.iter_list_ pl.isList fun s₂ e2 hi hlt hne => ?_
  refine h s.heap.objs.size [s.heap.objs.size,p] [s.heap.objs.size] its.toArray.size _ _ (fun i => bs.getD i true) _ s₂ rfl (Walks.list hA _ p hne its.toArray) hi ?_ (by rw [List.size_toArray,hl]) (fun i => rfl) fun h' tk k => ?_
  · intro i v s' Q' E' hv hq'
    have hv' : its[i]? = some v := by simpa using hv
    have hi : i < its.length := (List.getElem?_eq_some_iff.mp hv').1
    have hki : i < (bs.map V.bl).length := by rw [List.length_map]; omega
    obtain ⟨u,h1,h3⟩ := rv.get (i := i) (x := (bs.map V.bl)[i]) (List.getElem?_eq_getElem hki)
    rw [hv'] at h1
    cases h1
    rw [List.getElem_map] at h3
    have h3' : v = Value.bool bs[i] := h3
    subst h3'
    have e : bs.getD i true = bs[i] := by
      have hb : i < bs.length := by omega
      simp [List.getD_eq_getElem?_getD,hb]
    have hq2 : Q' (bs.getD i true) s' := hq'
    rw [e] at hq2
    exact wpAny_pure hq2
  · subst e2
    have ne : ∀ b o,s.heap.get? b = some o→¬ b∈[s.heap.objs.size] := fun b o e z => by
      have := List.mem_singleton.mp z
      subst this
      exact absurd (Heap.lt_size e) (Nat.lt_irrefl _)
    exact Inv.keptN I (fun b o _ e => k b o (ne b o e) (Heap.get?_push_of_some _ e)) (fun m ⟨o,es,ep,e,z⟩ => ⟨o,es,ep,k _ _ (ne _ _ e) (Heap.get?_push_of_some _ e),z⟩) tk
theorem zmh (hc : X.calm = true) : zdh X (.builtin "all") (fun xs H Q => ∃ (p : Addr) (bs : List Bool),xs = [.ref p]∧SqL X.K H p (bs.map V.bl)∧Q (.bl (bs.all id)) H) := by
  intro pins s σ H xs us Q I r h
  obtain ⟨p,bs,rfl,hq,q⟩ := h
  obtain ⟨u,rfl,rx⟩ := zeT r
  cases rx
  refine call_all_walk (ziI hc I hq (show X.A.in1.handled = none from I.ok.hd hc) fun J fp wr n P St tr it s₂ e1 e2 e3 e4 e5 e6 e7 => ⟨J,fp,wr,n,P,St,tr,e1,e2,e3,e4,fun h' tk k => ?_⟩)
  have et : tr = fun i => bs.getD i true := funext e6
  rw [e5,et,zk2]
  exact ⟨.bl (bs.all id),H,e7 h' tk k,rfl,q⟩
end
noncomputable def zgt : List D→Option (List Bool)
  | [] => some []
  | .bl b::ds => (zgt ds).map (b::·)
  | _ => none
theorem zoM {K : PySem.W.Frag} {G : GH} {H : Hp} (gk : GOk K G H) {ds : List D} {xs : List V} {bs : List Bool} (h : RGs K G xs ds) (e : zgt ds = some bs) : xs = bs.map V.bl := by
  induction h generalizing bs with
  | nil => cases e; rfl
  | @cons x d xs ds r t ih =>
    cases d with
    | bl b =>
      have e' : (zgt ds).map (b::·) = some bs := e
      cases e1 : zgt ds with
      | none => rw [e1] at e'; cases e'
      | some bs' =>
        rw [e1] at e'; cases e'
        rw [ih e1,List.map_cons,(RG.rb (H := H) r).bl gk]
    | _ => cases e
noncomputable def allD : List D→Option D
  | [.lst ds] => (zgt ds).map fun bs => .bl (bs.all id)
  | _ => none
theorem zq4 {K : PySem.W.Frag} : zjd K (fun xs H Q => ∃ (p : Addr) (bs : List Bool),xs = [.ref p]∧SqL K H p (bs.map V.bl)∧Q (.bl (bs.all id)) H) allD := by
  intro G H vs ds d Q gk rs e q
  unfold allD at e
  split at e
  · rename_i zs
    cases ek : zgt zs with
    | none => rw [ek] at e; cases e
    | some bs =>
      rw [ek] at e; cases e
      cases rs with
      | cons r1 t =>
        cases t
        obtain ⟨b,xs,rfl,s,r⟩ := r1.lst gk
        have ex := zoM gk r ek
        subst ex
        exact ⟨b,bs,rfl,s,q _ G H (Grow.refl gk) (.scl (.bl _))⟩
  · cases e
section
variable {X : Cx} {g : GE} {m : List Md} {e : Expr} {es : List Expr} {fl : Rho → Res (List D)} {pos p : Pos}
theorem zpr (hc : X.calm = true) (hg : Gl X "all") (hm : X.mg "all" = none) (ha : SAB X g m (e::es) fl) (he : starEach (e::es) X.env = (false,eval e X.env)::starEach es X.env := by rfl) (hpl : (backTo pos (starEach es X.env)).any (·.1) = false := by rfl) :
    SE X g m (.Call (.Name "all" p) (e::es) [] pos) (fC fl allD) := s_cb zq4 (zdr (zmh hc) hg hm PyProof.Rows.boot_all ha (by decide) (by decide) he hpl)
end
end DL
end
section
namespace DL
open PySem PySem.Spec PyProof.Rows L2
section
variable {X : Cx} {pins : List (Addr × Obj)} {σ : L2.St} {H : Hp} {s : Shared}
end
section
variable {X : Cx} {g : GE} {m : List Md} {e : Expr} {es : List Expr} {fl : Rho → Res (List D)} {pos p : Pos}
end
end DL
end
section
namespace DL
open PySem PySem.Spec PyProof.Rows L2
noncomputable def zh8 (h0 H : Hp) : Prop := ∀ a o,h0 a = some o→H a = some o
structure YieldsB (K : PySem.W.Frag) (h0 : Hp) (J : It) (ds : List D) (G0 : GH) : Prop where
  go : ∀ G H (i : Nat),Gle G0 G→GOk K G H→zh8 h0 H→i < ds.length→J.go i H
  yld : ∀ G H (i : Nat) x H' d,Gle G0 G→GOk K G H→zh8 h0 H→J.yld i H x H'→ds[i]? = some d→∃ G',Grow K G H G' H'∧RG K G' x d
  stop : ∀ G H,Gle G0 G→GOk K G H→zh8 h0 H→J.stop ds.length H
theorem Yields.toH {K : PySem.W.Frag} {h0 : Hp} {J : It} {ds : List D} {G0 : GH} (y : Yields K J ds G0) : YieldsB K h0 J ds G0 :=
  ⟨fun G H i w gk _ hi => y.go G H i w gk hi,fun G H i x H' d w gk _ q e => y.yld G H i x H' d w gk q e,fun G H w gk _ => y.stop G H w gk⟩
noncomputable def tIB (X : Cx) (g : GE) (m : List Md) (f : FI) : TI := fun σ H R => ∃ r G,SI X g m r G σ H∧fin (f r) (fun ds => ∀ J G' H',Grow X.K G H G' H'→YieldsB X.K g.h0 J ds G'→R J H') (XW X σ G H)
noncomputable def SItB (X : Cx) (g : GE) (m : List Md) (tg iter : Expr) (f : FI) : Prop := PI X tg iter (tIB X g m f)
noncomputable def tBw (X : Cx) (g : GE) (m : List Md) (f : FE) : TE := fun σ H Q => ∃ r G,SI X g m r G σ H∧fin (f r) (fun d => ∀ v G' H',Grow X.K G H G' H'→Bw X.K g.h0 G' H' v d→Q v H') (XW X σ G H)
noncomputable def SBw (X : Cx) (g : GE) (m : List Md) (e : Expr) (f : FE) : Prop := PE X e (tBw X g m f)
section
variable {X : Cx} {g : GE} {m m' mb : List Md} {tg e a iter : Expr} {f : FE} {pos p pos2 : Pos} {ro : Bool} {sts : List Stmt} {s1 : FS} {elts : List Expr} {kk : Nat}
theorem vw_ (i : Nat) {x : Str} (hm : m[i]? = some .bw := by rfl) (hN : X.N[i]? = some x := by rfl) (hv : Vis X.env.scope x := by first | exact Or.inl rfl | exact Or.inr (Or.inl rfl) | exact Or.inr (Or.inr rfl)) (hd : (x == ("__debug__" : Str)) = false := by decide) (hcd : (x == ("__classdict__" : Str)) = false := by decide) :
    SBw X g m (.Name x pos) fun r => getV r i := by
  refine PE.imp (zdO hN hv hd hcd) fun σ H Q ⟨r,G,si,q⟩ => ?_
  obtain ⟨d,e,k⟩ := ze2 q
  obtain ⟨v,e1,e2⟩ := si.bw i d e hm
  exact ⟨v,e1,k _ G H (Grow.refl si.gok) e2⟩
theorem zn0 {K : PySem.W.Frag} {h0 : Hp} {G0 G : GH} {H0 H : Hp} {a : Addr} {ds : List D} (o : Own K G0 H0 a (.lst ds)) (h : h0 a≠none) (o0 : zh8 h0 H0) (le : Gle G0 G) (o1 : zh8 h0 H) : ∃ xs,SqL K H a xs∧RGs K G xs ds := by
  cases e : h0 a with
  | none => exact absurd e h
  | some u =>
    have h1 := o0 a u e
    have h2 := o1 a u e
    cases o.ob with
    | lst r s =>
      rw [h1] at r
      cases r
      exact ⟨_,SqL.of h2,RGs.mono s le⟩
theorem zoS {K : PySem.W.Frag} {h0 : Hp} {ds : List D} {G0 : GH} {a : Addr} (h : ∀ G H,Gle G0 G→GOk K G H→zh8 h0 H→∃ xs,SqL K H a xs∧RGs K G xs ds) : YieldsB K h0 (Itl K a) ds G0 := by
  refine ⟨fun G H i w gk o hi => ?_,fun G H i x H' d w gk o y e => ?_,fun G H w gk o => ?_⟩
  · obtain ⟨xs,s,r⟩ := h G H w gk o
    have hl := Paired.length r
    exact ⟨xs,xs[i],s,List.getElem?_eq_getElem (by omega)⟩
  · obtain ⟨xs,s,r⟩ := h G H w gk o
    obtain ⟨rfl,y⟩ := y
    obtain ⟨v,e1,rv⟩ := Paired.get r e
    have := y xs s
    rw [e1] at this; cases this
    exact ⟨G,Grow.refl gk,rv⟩
  · obtain ⟨xs,s,r⟩ := h G H w gk o
    exact ⟨xs,s,Nat.le_of_eq (Paired.length r)⟩
theorem SI.oldIn {r : Rho} {G : GH} {st : L2.St} {H : Hp} (s : SI X g m r G st H) : zh8 g.h0 H := s.old
theorem zmZ (h : SBw X g m e f) : SItB X g m tg e (fSeq zbq f) := by
  refine PI.imp (zjP h) fun σ H R ⟨r,G,si,q⟩ => ⟨r,G,si,zag (zah q) fun d q v G' H' w rv => ?_⟩
  obtain ⟨ds,e,q⟩ := zaL q
  cases d with
  | lst ds' =>
    cases e
    rcases rv with rv | ⟨a,rfl,o,ho⟩
    · obtain ⟨a,xs,rfl,s,rs⟩ := rv.lst w.ok
      exact .inl ⟨a,rfl,⟨xs,s⟩,q _ G' H' w (zhs rv).toH⟩
    · cases o.ob with
      | lst r s => exact .inl ⟨a,rfl,⟨_,SqL.of r⟩,q _ G' H' w (zoS fun G2 H2 le _ o2 => zn0 o ho (si.grow w).oldIn le o2)⟩
  | tup ds' =>
    cases e
    rcases rv with rv | ⟨a,rfl,o,ho⟩
    · obtain ⟨a,xs,rfl,s,rs⟩ := rv.tup w.ok
      exact .inr ⟨a,rfl,⟨xs,s⟩,q _ G' H' w (zji rv).toH⟩
    · cases o.ob
  | _ => cases e
theorem zmx (hp : PassesOwn (model X.prog X.w) X.A X.env X.xe) (hc : X.calm = true) {ft : FT} {fi : FI} (hi : SItB X g m tg iter fi) (hg : SG X g m tg ft m) (hb : SSs X g ro m m sts s1 m)
    (hs : ∀ x,foldedSetIterable iter X.env x = pure x := by intro _; rfl) : SS X g ro mb m (.For tg iter sts [] pos) (zcF m fi ft s1) m := by
  refine ⟨rfl,PS.imp (zgS hp hc hi hg.2 hb.2 hs) fun D σ H ⟨r,G,si,q⟩ => ⟨r,G,si,zag (zbn si rfl q) fun ds q J G0 H0 w0 Y => ?_⟩⟩
  refine ⟨fun i n σ H => ∃ r G,SI X g m r G σ H∧Gle G0 G∧i≤ds.length∧n = ds.length - i∧oTo X g ro m mb G D (forF ft s1 (ds.drop i) r),⟨ds.length,r,G0,si.grow w0,Gle.refl G0,Nat.zero_le _,rfl,oTo.gle q w0.ge⟩,?_⟩
  rintro i n σ1 H1 ⟨r1,G1,si1,le1,hi,rfl,q1⟩
  by_cases hlt : i < ds.length
  · have hd : ds.drop i = ds[i]::ds.drop (i + 1) := List.drop_eq_getElem_cons hlt
    rw [hd] at q1
    unfold forF at q1
    refine .inr ⟨Y.go G1 H1 i le1 si1.gok si1.oldIn hlt,fun σ' H' => ∃ r G,SI X g m r G σ' H'∧Gle G0 G∧oTo X g ro m mb G D (forF ft s1 (ds.drop (i + 1)) r),fun σ' H' ⟨r',G',si',le',q'⟩ => ⟨ds.length - (i + 1),by omega,r',G',si',le',hlt,rfl,q'⟩,fun x H' y => ?_⟩
    obtain ⟨G',w',rv⟩ := Y.yld G1 H1 i x H' ds[i] le1 si1.gok si1.oldIn y (List.getElem?_eq_getElem hlt)
    have le' : Gle G0 G' := le1.trans w'.ge
    cases eft : ft ds[i] r1 with
    | none => simp only [eft] at q1; exact q1.elim
    | some r2 =>
      simp only [eft] at q1
      refine ⟨r1,G',ds[i],si1.grow w',rv,r2,eft,fun σ2 si2 => ⟨r2,G',si2,?_⟩⟩
      cases eb : s1 r2 with
      | nx r' => simp only [eb] at q1; exact fun σ3 G3 H3 le3 si3 => ⟨r',G3,si3,le'.trans le3,oTo.gle q1 (Gle.trans w'.ge le3)⟩
      | ct r' => simp only [eb] at q1; exact fun σ3 G3 H3 le3 si3 => ⟨r',G3,si3,le'.trans le3,oTo.gle q1 (Gle.trans w'.ge le3)⟩
      | bk r' => simp only [eb] at q1; exact fun σ3 G3 H3 le3 si3 => q1 σ3 G3 H3 (Gle.trans w'.ge le3) si3
      | rt d => simp only [eb] at q1; exact q1
      | exc x r' => simp only [eb] at q1; exact fun pins e s' σ3 G3 H3 le3 => q1 pins e s' σ3 G3 H3 (Gle.trans w'.ge le3)
      | stuck => simp only [eb] at q1; exact q1
  · have e : i = ds.length := by omega
    subst e
    rw [List.drop_length] at q1
    exact .inl ⟨Y.stop G1 H1 le1 si1.gok si1.oldIn,q1 σ1 G1 H1 (Gle.refl _) si1⟩
end
end DL
end
section
namespace DL
open PySem PySem.Spec PyProof.Rows L2
open HT (sIx)
section
variable {prog : Program} {w : World} {A : Around} {E : Value → Shared → Prop} {s : Shared}
theorem zgl {t sl : Addr} {items : Array Value} {vl vu : Value} {lo hi : Option Int} {Q : Value→Shared→Prop} (ht : IsTup s.heap t items) (hs : s.heap.IsSliceOf sl vl vu .none) (pl : IsPart vl lo) (pu : IsPart vu hi)
    (hw : sIx items.size 0 lo = 0∧sIx items.size items.size hi = items.size) (h : Q (.ref t) s) : wpAny (model prog w) A (getItem (.ref t) (.ref sl)) Q E s := by
  obtain ⟨os,hos,hcs,hds⟩ := id hs
  have hTs : s.TypeIs (.ref sl) "slice" := ⟨os,hos,hcs⟩
  unfold getItem
  try with_reducible refine wpAny_holding ?_
  first | refine wpAny_bind (wpAny_pure ?_) | skip
  refine wpAny_bind (wpAny_sequenceKey ht.typeIs (by decide) (wpAny_bind (wpAny_callSpecial?_slot (name := Str.ofString "__getitem__") ht.typeIs PyProof.Rows.slot_tuple_getitem (wpAny_call_entry PyProof.Rows.slot_tuple_getitem ht.typeIs PyProof.Rows.entry_tuple_getitem ?_ (PyProof.Rows.args_tuple_getitem _ _)))))
  show wpAny _ _ (Builtin.Tuple.tupleItemsOf (.ref t) >>= _) _ _ s
  refine wpAny_bind (PyProof.Rows.tupleItemsOf_ ht (wpAny_bind (wpAny_typeOf hTs ?_)))
  rw [if_pos (by decide)]
  refine wpAny_bind (HT.sliceApplied_gen hs pl pu ?_)
  rw [hw.1,hw.2]
  show wpAny _ _ (if (((0 : Nat) : Int) == 0 && (1 : Int) == 1 && (items.size - 0) == items.size) = true then _ else _) _ _ s
  rw [if_pos (by simp)]
  show wpAny _ _ (Builtin.Tuple.tupleIsExact (.ref t) >>= _) _ _ s
  unfold Builtin.Tuple.tupleIsExact
  refine wpAny_bind (wpAny_bind (wpAny_typeOf ht.typeIs (wpAny_pure ?_)))
  rw [if_pos (by decide)]
  refine wpAny_bind (wpAny_rule ?_)
  show wpAny _ _ (ret (.ref t)) _ _ s
  exact wpAny_pure ⟨_,rfl,wpAny_pure h⟩
end
noncomputable def rSlW (K : PySem.W.Frag) : V→Option Int→Option Int→Hp→VK→Prop := fun x lo hi H Q => ∃ a xs,x = .ref a∧SqT K H a xs∧(sIx xs.length 0 lo = 0∧sIx xs.length xs.length hi = xs.length)∧Q (.ref a) H
theorem zlg {X : Cx} : SlR X (rSlW X.K) := by
  intro pins s σ H x v vl vu lo hi sl Q I rx hs pl pu h
  obtain ⟨a,xs,rfl,hx,hw,q⟩ := h
  cases rx
  obtain ⟨its,r,ht,hz⟩ := I.tuple hx
  have hlen : its.toArray.size = xs.length := by rw [List.size_toArray]; exact r.length.symm
  exact ⟨"tuple",_,PyProof.Rows.slot_tuple_getitem.lookup,ht.typeIs,zgl ht hs pl pu (by rw [hlen]; exact hw) ⟨.ref a,H,I,rfl,q⟩⟩
noncomputable def slA (d : D) (lo hi : Option Int) : Option D := match d with
  | .tup ds => some (.tup (cutL ds lo hi))
  | .lst ds => some (.lst (cutL ds lo hi))
  | _ => none
noncomputable def fSlA (fa : FE) (fl fh : FP) : FE := fun r => (fa r).bind fun d => (fl r).bind fun lo => (fh r).bind fun hi => opt (slA d lo hi)
section
variable {X : Cx} {g : GE} {m : List Md} {e : Expr} {f fa : FE} {pos p2 : Pos}
theorem znt {R : V→Option Int→Option Int→Hp→Prop} {fl fh : FP} {r : Rho} {G : GH} {σ : L2.St} {H : Hp} {q : D→Prop} (si : SI X g m r G σ H) (h : fin (fSlA fa fl fh r) q (XW X σ G H))
    (hk : ∀ d lo hi v G2 H2 d',Grow X.K G H G2 H2→RB X.K G2 H2 v d→slA d lo hi = some d'→q d'→R v lo hi H2) :
    tB X g m fa σ H fun x H1 => tP X g m fl σ H1 fun l H2 => tP X g m fh σ H2 fun u H3 => R x l u H3 := by
  refine ⟨r,G,si,zag (zah h) fun d h1 v G1 H1 w1 r1 => ⟨r,G1,si.grow w1,zbb (zah h1) w1 fun lo h2 G2 H2 w2 => ⟨r,G2,(si.grow w1).grow w2,?_⟩⟩⟩
  refine zbb (zah h2) (w1.trans w2) fun hi h3 G3 H3 w3 => ?_
  obtain ⟨d',e,h4⟩ := zaL h3
  exact hk d lo hi v G3 H3 d' ((w1.trans w2).trans w3) ((r1.mono w2).mono w3) e h4
theorem zkN {α : Type} {ds : List α} {lo hi : Option Int} (h : sIx ds.length 0 lo = 0∧sIx ds.length ds.length hi = ds.length) : cutL ds lo hi = ds := by
  unfold cutL
  rw [h.1,h.2]; simp
theorem zrx {lo hi : Option Expr} {fl fh : FP} (he : SB X g m e f) (hl : SP1 X g m lo fl) (hu : SP1 X g m hi fh) : SE X g m (.Subscript e (.Slice lo hi none p2) pos) (fSlA f fl fh) := by
  refine PE.imp (zlF (SlR.or zlg (SlR.or zns zpd)) he hl hu) fun σ H Q ⟨r,G,si,q⟩ => ?_
  refine znt si q fun d lo hi v G2 H2 d' w r1 e q2 => ?_
  cases d with
  | tup ds =>
    cases e
    rcases r1 with r1 | ⟨a',_,oo⟩
    · obtain ⟨a,xs,rfl,s,r⟩ := r1.tup w.ok
      by_cases hw : sIx ds.length 0 lo = 0∧sIx ds.length ds.length hi = ds.length
      · refine .inl ⟨a,xs,rfl,s,by rw [Paired.length r]; exact hw,?_⟩
        rw [zkN hw] at q2
        exact q2 _ G2 H2 w r1
      · rw [← Paired.length r] at hw
        refine .inr (.inr ⟨a,xs,rfl,s,hw,fun p hp => ?_⟩)
        exact q2 _ _ _ (w.trans (Grow.newF w.ok hp (.tup (.inl zao) (zq0 r lo hi)))) (.ref zas)
    · cases oo.ob
  | lst ds =>
    cases e
    obtain ⟨a,xs,rfl,s,r⟩ := r1.lst w.ok
    exact .inr (.inl ⟨a,xs,rfl,s,fun p hp => q2 _ _ _ (w.trans (Grow.newF w.ok hp (.lst (.inl zao) (zq0 r lo hi)))) (.ref zas)⟩)
  | _ => cases e
end
end DL
end
section
namespace DL
open PySem PySem.Spec PyProof.Rows L2
noncomputable def BIG : Nat := 2 ^ 2000
noncomputable def zje (i j : Int) : Prop := i.natAbs < BIG∧j.natAbs < BIG
noncomputable def zmp (_i j : Int) : Prop := 0 < j∧j.natAbs < BIG
noncomputable instance decMulW (i j : Int) : Decidable (zje i j) := by unfold zje; infer_instance
noncomputable instance decDivW (i j : Int) : Decidable (zmp i j) := by unfold zmp; infer_instance
theorem zkY {i : Int} (h : i.natAbs < BIG) : Builtin.Int.intBits i≤2000 := by
  unfold Builtin.Int.intBits
  split
  · exact Nat.zero_le _
  · rename_i z
    have h0 : i.natAbs≠0 := fun e => z (by rw [Int.natAbs_eq_zero.mp e]; rfl)
    have := (Nat.log2_lt h0).mpr h
    omega
theorem zje.ok {i j : Int} (h : zje i j) : IntMulOk i j := by
  have h1 := zkY h.1
  have h2 := zkY h.2
  unfold IntMulOk
  have e : Builtin.Int.intTooBig ((Builtin.Int.intBits i : Int) + (Builtin.Int.intBits j : Int)) = false := by
    unfold Builtin.Int.intTooBig
    have : ((bitsLine : Nat) : Int) = 134217728 := by decide +kernel
    exact decide_eq_false (by omega)
  rw [e]; simp
theorem zn4 : OpR X (binaryOp .Mult) (rI zje fun i j => .int (i * j)) := opI fun _ _ _ _ _ _ _ hc q => mul_int q hc.ok
theorem zlI : OpR X (binaryOp .FloorDiv) (rI zmp fun i j => .int (i / j)) := opI fun i j _ _ _ _ _ hc q => by
  have h1 : (0 : Int) < j := hc.1
  have h2 : j.natAbs < BIG := hc.2
  have h0 : j.natAbs≠0 := by omega
  have := (Nat.log2_lt h0).mpr h2
  exact floordiv_int (by omega) (by rw [Int.fdiv_eq_ediv_of_nonneg i (by omega)]; exact q) (.inl (PyProof.noPylong_of_log2 (by omega)))
noncomputable abbrev mulW : D→D→Option D := zfH zje fun a b => .int (a * b)
noncomputable abbrev zhV : D→D→Option D := zfH zmp fun a b => .int (a / b)
section
variable {X : Cx} {g : GE} {m : List Md} {e a b c o : Expr} {es : List Expr} {f fa fb fc fo : FE} {fl : Rho → Res (List D)} {pos p apos cpos : Pos}
theorem zck (ha : SB X g m a fa) (hb : SB X g m b fb) : SE X g m (.BinOp a .Mult b pos) (f2 fa fb mulW) := zgb zn4 (zds fun _ _ => .int _) ha hb
theorem zga (ha : SB X g m a fa) (hb : SB X g m b fb) : SE X g m (.BinOp a .FloorDiv b pos) (f2 fa fb zhV) := zgb zlI (zds fun _ _ => .int _) ha hb
noncomputable def absD : List D→Option D
  | [.int i] => some (.int (if i < 0 then -i else i))
  | _ => none
theorem zq7 {K : PySem.W.Frag} : zjd K (fun xs H Q => ∃ i : Int,xs = [.int i]∧Q (.int (if i < 0 then -i else i)) H) absD := by
  intro G H vs ds d Q gk rs e q
  unfold absD at e
  split at e
  · cases e
    cases rs with
    | cons r1 t =>
      cases t
      exact ⟨_,by rw [r1.int gk],q _ G H (Grow.refl gk) (.scl (.int _))⟩
  · cases e
theorem zpt (hg : Gl X "abs") (hm : X.mg "abs" = none) (ha : SAB X g m (e::es) fl) (he : starEach (e::es) X.env = (false,eval e X.env)::starEach es X.env := by rfl) (hpl : (backTo pos (starEach es X.env)).any (·.1) = false := by rfl) :
    SE X g m (.Call (.Name "abs" p) (e::es) [] pos) (fC fl absD) := s_cb zq7 (zdr zmi hg hm PyProof.Rows.boot_abs ha (by decide) (by decide) he hpl)
theorem zf9 {x : Str} {d : D} (hg : Gl X x) (hk : ∃ a,X.mg x = some (.ref a)∧KC X.K a d) (hd : (x == ("__debug__" : Str)) = false := by decide) : SE X g m (.Name x pos) fun _ => .ok d := by
  obtain ⟨a,hm,k⟩ := hk
  exact PE.imp (znV (v := .ref a) hg hm rfl hd) fun σ H Q ⟨r,G,si,q⟩ => q (.ref a) G H (Grow.refl si.gok) (.kc k)
theorem zrP {K : PySem.W.Frag} {h : Heap} {mg : Str→Option Value} {x : Str} (KX : K.In h) (G : h.Ns mainGlobals mg) {a : Addr} {i j : Int} {t u : Tok} {n : Nat} {sl : Array (Option Value)} (z : PySem.W.nsIn K mainGlobals x = some (some (.ref a)))
    (l : K.lookup a = some ⟨.type "tuple",none,.seq #[.int i t,.int j u] n,sl⟩) : ∃ a,mg x = some (.ref a)∧KC K a (.tup [.int i,.int j]) := by
  refine ⟨a,PySem.W.mg_of KX G z,.tup (xs := [.int i,.int j]) (.inr ⟨_,_,_,l,rfl,rfl,?_,.cons ⟨_,rfl⟩ (.cons ⟨_,rfl⟩ .nil)⟩) (.cons (.int _) (.cons (.int _) .nil)) ⟨_,l,rfl,rfl⟩⟩
  show 2≤sizeLine
  rw [sizeLine_eq]; decide
noncomputable def zjL (K : PySem.W.Frag) : V→List V→Hp→VK→Prop := fun x vs H Q => ∃ p xs y,x = .ref p∧vs = [y]∧SqL K H p xs∧zdW y = true∧xs.all zdW = true∧Q (.int ((xs.countP fun z => eqV z y : Nat) : Int)) H
theorem zkP {y : V} : ∀ {xs : List V} {us : List Value},Vals xs us→xs.all zdW = true→us.countP (eqU y) = xs.countP fun z => eqV z y
  | _,_,.nil,_ => rfl
  | x::xs,u::us,.cons r t,f => by
    rw [List.all_cons,Bool.and_eq_true] at f
    rw [List.countP_cons,List.countP_cons,zkP t f.2,zhc r f.1]
theorem zgW : MtR X "list.count" (zjL X.K) := by
  intro pins s σ H x vs v us Q I rx rv h
  obtain ⟨p,xs,y,rfl,rfl,hq,fy,fx,q⟩ := h
  cases rx
  obtain ⟨u,rfl,ru⟩ := zeT rv
  obtain ⟨its,r,pl,hz⟩ := I.list hq
  obtain ⟨o,n,ho,hc,hd,hs⟩ := pl
  obtain ⟨ocls,odict,odata,oslots⟩ := o
  simp only at hc hd hs
  subst hc hd hs
  refine call_meets PySem.F.slot_list_count ⟨_,ho,rfl⟩ PySem.F.entry_list_count (PySem.F.args_list_count_2 _ _)
    (SeqAt.list_countAt p its.toArray n none oslots u (eqU y)) ⟨ho,fun w hw => zdt ru fy r fx w (by simpa using hw),⟨.int _,H,I.tok _,⟨_,rfl⟩,?_⟩⟩
  have e : (its.toArray.toList.countP (eqU y)) = xs.countP fun z => eqV z y := zkP r fx
  rw [e]; exact q
noncomputable def zfX (d : D) (zs : List D) : Option D := match d,zs with
  | .lst ds,[x] => if zbY x = true∧ds.all zbY = true then some (.int ((ds.countP fun z => eqs z x : Nat) : Int)) else none
  | _,_ => none
theorem zhd {K : PySem.W.Frag} : MtD K (zjL K) zfX := by
  intro G H v d vs ds d' Q gk rv rs e q
  unfold zfX at e
  split at e
  · rename_i zs x
    split at e
    · rename_i hc
      cases e
      cases rs with
      | cons r1 rt =>
        cases rt
        obtain ⟨a,xs,rfl,s,r⟩ := rv.lst gk
        obtain ⟨e1,f1⟩ := RB.flat r1 gk hc.1
        obtain ⟨e3,f3⟩ := zqP r gk hc.2
        refine ⟨a,xs,_,rfl,rfl,s,f1,f3,?_⟩
        have : (xs.countP fun z => eqV z (toV x)) = zs.countP fun z => eqs z x := by
          rw [e3,List.countP_map]; rfl
        rw [e1,this]
        exact q _ G H (Grow.refl gk) (.scl (.int _))
    · cases e
  · cases e
end
end DL
end
section
namespace DL
open PySem PySem.Spec PyProof.Rows L2
noncomputable def kyD : Key→D
  | .inl i => .int i
  | .inr x => .str x
theorem zos (k : Key) : Scl (kV k) (kyD k) := by
  cases k with
  | inl i => exact .int i
  | inr x => exact .str x
noncomputable def zeh : D→Option (List D)
  | .dic kvs => some (kvs.map fun kv => kyD kv.1)
  | _ => none
noncomputable def Itd (a : Addr) (ob : Obj) (ps : List (Key × V)) : It :=
  ⟨fun i H => H a = some (.frz ob (.dK ps))∧i < ps.length,fun i H x H' => H' = H∧∃ kv,ps[i]? = some kv∧x = kV kv.1,fun i H => H a = some (.frz ob (.dK ps))∧i = ps.length⟩
theorem zqs {P : Program} {w : World} {k : Key} {u : Value} (h : (zbg P w).is k u = true) : RelV (kV k) u := by
  rcases keyIs_shape h with ⟨i,t,rfl,rfl⟩ | ⟨x,t,rfl,rfl⟩
  · exact ⟨t,rfl⟩
  · exact ⟨t,rfl⟩
section
variable {X : Cx} {pins : List (Addr × Obj)} {σ : L2.St} {H : Hp} {s : Shared} {a : Addr} {ob : Obj} {ps : List (Key × V)}
theorem zhX (I : Inv X pins σ H s) (e : H a = some (.frz ob (.dK ps))) {es : Array DictEntry} {ep : Nat} (hob : ob.data = .dict es ep) : ∃ vs,KV ps vs∧s.heap.DictAt (zbg X.prog X.w) a vs ep∧(a == sysModules) = false := by
  obtain ⟨h1,z,y,vs,r,o',es',ep',h2,c1,c2,c3⟩ := (show zbj X.prog X.w H s.heap a (.frz ob (.dK ps)) from I.hok a _ e)
  rw [h1] at h2
  cases h2
  rw [hob] at c2
  cases c2
  exact ⟨vs,r,⟨ob,es,h1,c1,hob,c3⟩,y⟩
theorem zoH (I : Inv X pins σ H s) (e : H a = some (.frz ob (.dK ps))) : ∃ (es : Array DictEntry) (ep : Nat),ob.data = .dict es ep := by
  obtain ⟨h1,z,y,vs,r,o',es',ep',h2,c1,c2,c3⟩ := (show zbj X.prog X.w H s.heap a (.frz ob (.dK ps)) from I.hok a _ e)
  rw [h1] at h2
  cases h2
  exact ⟨es',ep',c2⟩
end
theorem zjm {P : Program} {w : World} {K : PySem.W.Frag} {tg : Expr} (a it : Addr) {ob : Obj} {ps : List (Key × V)} {es : Array DictEntry} {ep : Nat} (hob : ob.data = .dict es ep) : Turn P w K tg (Itd a ob ps) [it] it (fun i h => h.IsKeyIter it a i ps.length ep) where
  mem := by simp
  obj := fun i h st b hb => by
    have e : b = it := by simpa using hb
    subst e
    obtain ⟨o,e,c,d⟩ := st
    exact ⟨o,e,fun v z => by rw [d] at z; cases z⟩
  keep := fun i h h' st k => st.at fun o e => k it (by simp) o e
  item := by
    intro X hP hw hK hc i pins s σ H E I hf st hg
    subst hP hw hK
    obtain ⟨he,hi⟩ := hg
    obtain ⟨vs,r,m,_⟩ := zhX I he hob
    have hl : ps.length = vs.length := Paired.length r
    have hiv : i < vs.length := by omega
    obtain ⟨kv,h1,h2⟩ := DL.Paired.get r (List.getElem?_eq_getElem hiv)
    obtain ⟨f0,f1,f2,f3,f4,f5⟩ := hf it (by simp)
    rw [hl] at st
    refine wpAny_pyNext_dict_item (k := vs[i].1) (v := vs[i].2) st m (List.getElem?_eq_getElem hiv) fun key h' hkey hit' sb => ?_
    have I1 : Inv X pins σ H { s with heap := h' } := I.turned (t' := s.toks) (fun b o hb e => (sb.2 b hb).trans e) f0 f1 f3 f4 f5
    obtain ⟨o,e,c,d⟩ := id hit'
    exact ⟨key,rfl,zl4 (s := { s with heap := h' }) e c d (by decide) ⟨kV kv.1,H,I1,by rw [h2.1]; exact zqs hkey,⟨rfl,kv,h1,rfl⟩,by rw [hl]; exact hit',fun b hb => (hf b hb).1⟩⟩
  done := by
    intro X hP hw hK hc i pins s σ H E I hf st hg
    subst hP hw hK
    obtain ⟨he,hi⟩ := hg
    obtain ⟨vs,r,m,_⟩ := zhX I he hob
    have hl : ps.length = vs.length := Paired.length r
    obtain ⟨f0,f1,f2,f3,f4,f5⟩ := hf it (by simp)
    rw [hl] at st
    exact wpAny_pyNext_dict_end (I.ok.hd hc) st m (by rw [List.getElem?_eq_none]; omega) fun h' eb => ⟨rfl,I.turned (t' := s.toks) (fun b o hb e => eb b o hb e) f0 f1 f3 f4 f5⟩
  self := fun _ _ _ _ _ st h => wpAny_pyIter_keyiter st h
section
variable {X : Cx} {g : GE} {m m' m1 mb : List Md} {tg e a b c iter : Expr} {f fa fb : FE} {p : FQ} {pos pos' : Pos} {ro : Bool} {fl : Rho → Res (List D)} {sts : List Stmt} {s1 : FS}
theorem zjR {l : Expr} {tl : TE} (hl : PE X l tl) : PI X tg l (fun σ H R => tl σ H fun x H1 => ∃ a ob ps,x = .ref a∧H1 a = some (.frz ob (.dK ps))∧R (Itd a ob ps) H1) := by
  intro pins s σ H R I h
  refine thn (hl pins s σ H _ I h) fun v s1 ⟨x,H1,I1,r1,q1⟩ => ?_
  obtain ⟨a,ob,ps,e,he,q⟩ := q1
  subst e
  cases r1
  obtain ⟨es,ep,hob⟩ := zoH I1 he
  obtain ⟨vs,r,mm,hs⟩ := zhX I1 he hob
  have hl : ps.length = vs.length := Paired.length r
  refine wpAny_pyIter_dict hs mm ?_
  refine ⟨s1.heap.objs.size,[s1.heap.objs.size],_,_,H1,rfl,I1.kept (t' := s1.toks) fun b o e => Heap.get?_push_of_some _ e,zjm a _ hob,⟨_,Heap.get?_push_size _ rfl,rfl,by rw [hl]; rfl⟩,fun b hb => ?_,q⟩
  have e : b = s1.heap.objs.size := by simpa using hb
  subst e
  exact I1.fpOk (Nat.le_refl _) (I1.hok.fresh (Nat.le_refl _))
theorem zmW {K : PySem.W.Frag} {G : GH} {ps : List (Key × V)} {kvs : List (Key × D)} (r : RKs K G ps kvs) {i : Nat} {kv : Key × V} {d : D} (h : ps[i]? = some kv) (hd : (kvs.map fun kv => kyD kv.1)[i]? = some d) : RG K G (kV kv.1) d := by
  rw [List.getElem?_map] at hd
  cases e : kvs[i]? with
  | none => rw [e] at hd; cases hd
  | some q =>
    rw [e] at hd
    cases hd
    obtain ⟨kv',h1,h2⟩ := DL.Paired.get r e
    rw [h] at h1
    cases h1
    rw [h2.1]
    exact .scl (zos _)
theorem RG.dicF {K : PySem.W.Frag} {G : GH} {H : Hp} {v : V} {kvs : List (Key × D)} (gk : GOk K G H) (h : RG K G v (.dic kvs)) : ∃ a ob ps,v = .ref a∧G a = some (.dic kvs)∧H a = some (.frz ob (.dK ps))∧RKs K G ps kvs := by
  cases h with
  | scl s => cases s
  | ref e =>
    cases gk _ _ e with
    | dic r s => exact ⟨_,_,_,rfl,e,r,s⟩
  | kc k => cases k
theorem zoR {K : PySem.W.Frag} {a : Addr} {ob : Obj} {ps : List (Key × V)} {kvs : List (Key × D)} {G0 : GH} {H0 : Hp} (he : H0 a = some (.frz ob (.dK ps))) (r : RKs K G0 ps kvs) : YieldsC K (Itd a ob ps) (kvs.map fun kv => kyD kv.1) G0 H0 := by
  have hl : ps.length = kvs.length := Paired.length r
  refine ⟨fun G H i w hi => ⟨w.he _ _ he,by rw [List.length_map] at hi; omega⟩,fun G H i x H' d w y e => ?_,fun G H w => ⟨w.he _ _ he,by rw [List.length_map]; omega⟩⟩
  obtain ⟨rfl,kv,h1,rfl⟩ := y
  exact ⟨G,Grow.refl w.ok,zmW (RKs.mono r w.ge) h1 e⟩
theorem zox (h : SE X g m e f) : SItC X g m tg e (fSeq zeh f) := by
  refine PI.imp (zjR h) fun σ H R ⟨r,G,si,q⟩ => ⟨r,G,si,zag (zah q) fun d q v G' H' w rv => ?_⟩
  obtain ⟨ds,e,q⟩ := zaL q
  cases d with
  | dic kvs =>
    cases e
    obtain ⟨a,ob,ps,rfl,_,he,rs⟩ := RG.dicF w.ok rv
    exact ⟨a,ob,ps,rfl,he,q _ G' H' w (zoR he rs)⟩
  | _ => cases e
noncomputable def addG (g : GE) (a : Addr) (d : D) (u : HO) : GE := ⟨gset g.gh a d,upd g.h0 a u,g.hd⟩
theorem SI.up {r : Rho} {G : GH} {st : L2.St} {H : Hp} {a : Addr} {d : D} {u : HO} (s : SI X g m r G st H) (hG : G a = some d) (hH : H a = some u) : SI X (addG g a d u) m r G st H where
  gok := s.gok
  old := fun b o e => by
    by_cases hb : b = a
    · subst hb
      have e' : upd g.h0 b u b = some o := e
      rw [zao] at e'; cases e'; exact hH
    · have e' : upd g.h0 a u b = some o := e
      rw [zan hb] at e'; exact s.old b o e'
  ge := fun b x e => by
    by_cases hb : b = a
    · subst hb
      have e' : gset g.gh b d b = some x := e
      rw [zas] at e'; cases e'; exact hG
    · have e' : gset g.gh a d b = some x := e
      rw [zaR hb] at e'; exact s.ge b x e'
  gf := fun b h => by
    show G b = gset g.gh a d b
    by_cases hb : b = a
    · subst hb; rw [zas]; exact hG
    · rw [zaR hb]
      exact s.gf b fun z => h (show upd g.h0 a u b = none by rw [zan hb]; exact z)
  lm := s.lm
  lr := s.lr
  sh := s.sh
  ow := fun i x h1 h2 => by
    obtain ⟨c,q1,q2,q3⟩ := s.ow i x h1 h2
    refine ⟨c,q1,q2,?_⟩
    have hc : c≠a := by rintro rfl; rw [q2.un] at hG; cases hG
    show upd g.h0 a u c = none
    rw [zan hc]; exact q3
  bw := fun i x h1 h2 => by
    obtain ⟨v,q1,q2⟩ := s.bw i x h1 h2
    refine ⟨v,q1,?_⟩
    rcases q2 with q2 | ⟨c,e,q2,q3⟩
    · exact .inl q2
    · refine .inr ⟨c,e,q2,?_⟩
      have hc : c≠a := by rintro rfl; rw [q2.un] at hG; cases hG
      show upd g.h0 a u c≠none
      rw [zan hc]; exact q3
  dis := s.dis
  lk := s.lk
structure Had (g : GE) (a : Addr) (d : D) (u : HO) : Prop where
  h0 : ∀ o,g.h0 a = some o→o = u
  gh : ∀ x,g.gh a = some x→x = d
  gf : g.h0 a≠none→g.gh a = some d
theorem SI.had {r : Rho} {G : GH} {st : L2.St} {H : Hp} {a : Addr} {d : D} {u : HO} (s : SI X g m r G st H) (hG : G a = some d) (hH : H a = some u) : Had g a d u :=
  ⟨fun o e => by have := s.old a o e; rw [hH] at this; cases this; rfl,fun x e => by have := s.ge a x e; rw [hG] at this; cases this; rfl,fun h => by rw [← s.gf a h]; exact hG⟩
theorem SI.down {r : Rho} {G : GH} {st : L2.St} {H : Hp} {a : Addr} {d : D} {u : HO} (hd : Had g a d u) (s : SI X (addG g a d u) m r G st H) : SI X g m r G st H := by
  have hH : H a = some u := s.old a u zao
  have hG : G a = some d := s.ge a d zas
  exact {
    gok := s.gok
    old := fun b o e => by
      by_cases hb : b = a
      · subst hb; rw [hd.h0 o e]; exact hH
      · exact s.old b o (show upd g.h0 a u b = some o by rw [zan hb]; exact e)
    ge := fun b x e => by
      by_cases hb : b = a
      · subst hb; rw [hd.gh x e]; exact hG
      · exact s.ge b x (show gset g.gh a d b = some x by rw [zaR hb]; exact e)
    gf := fun b h => by
      by_cases hb : b = a
      · subst hb; rw [hG,hd.gf h]
      · have := s.gf b (show upd g.h0 a u b≠none by rw [zan hb]; exact h)
        rw [this]
        exact zaR hb
    lm := s.lm
    lr := s.lr
    sh := s.sh
    ow := fun i x h1 h2 => by
      obtain ⟨c,q1,q2,q3⟩ := s.ow i x h1 h2
      have hc : c≠a := by rintro rfl; rw [q2.un] at hG; cases hG
      refine ⟨c,q1,q2,?_⟩
      have q3' : upd g.h0 a u c = none := q3
      rw [zan hc] at q3'; exact q3'
    bw := fun i x h1 h2 => by
      obtain ⟨v,q1,q2⟩ := s.bw i x h1 h2
      refine ⟨v,q1,?_⟩
      rcases q2 with q2 | ⟨c,e,q2,q3⟩
      · exact .inl q2
      · have hc : c≠a := by rintro rfl; rw [q2.un] at hG; cases hG
        refine .inr ⟨c,e,q2,?_⟩
        have q3' : upd g.h0 a u c≠none := q3
        rw [zan hc] at q3'; exact q3'
    dis := s.dis
    lk := s.lk }
theorem Grow.down {K : PySem.W.Frag} {G' : GH} {H' : Hp} {a : Addr} {d : D} {u : HO} (hd : Had g a d u) (w : Grow K (addG g a d u).gh (addG g a d u).h0 G' H') : Grow K g.gh g.h0 G' H' :=
  ⟨w.ok,fun b o e => by
    by_cases hb : b = a
    · subst hb; rw [hd.h0 o e]; exact w.he b u zao
    · exact w.he b o (show upd g.h0 a u b = some o by rw [zan hb]; exact e),fun b x e => by
    by_cases hb : b = a
    · subst hb; rw [hd.gh x e]; exact w.ge b d zas
    · exact w.ge b x (show gset g.gh a d b = some x by rw [zaR hb]; exact e),fun b h => by
    by_cases hb : b = a
    · subst hb; rw [hd.gf h]; exact w.ge b d zas
    · have := w.gf b (show upd g.h0 a u b≠none by rw [zan hb]; exact h)
      rw [this]; exact zaR hb⟩
noncomputable def tID (X : Cx) (g : GE) (m : List Md) (f : FE) : TI := fun σ H R => ∃ r G,SI X g m r G σ H∧fin (f r) (fun d => ∀ a ob ps kvs G' H',d = .dic kvs→Grow X.K G H G' H'→G' a = some (.dic kvs)→H' a = some (.frz ob (.dK ps))→RKs X.K G' ps kvs→R (Itd a ob ps) H') (XW X σ G H)
theorem zqG (h : SE X g m e f) (hd : ∀ r d,f r = .ok d→∃ kvs,d = .dic kvs) : PI X tg e (tID X g m f) := by
  refine PI.imp (zjR h) fun σ H R ⟨r,G,si,q⟩ => ⟨r,G,si,?_⟩
  cases er : f r with
  | ok d =>
    rw [er] at q
    intro v G' H' w rv
    obtain ⟨kvs,rfl⟩ := hd r d er
    obtain ⟨a,ob,ps,rfl,hG,he,rs⟩ := RG.dicF w.ok rv
    exact ⟨a,ob,ps,rfl,he,q a ob ps kvs G' H' rfl w hG he rs⟩
  | exc x => rw [er] at q; exact q
  | stuck => rw [er] at q; exact q
noncomputable def zj0 (f : FE) : FE := fun r => (f r).bind fun d => match d with
  | .dic kvs => .ok (.dic kvs)
  | _ => .stuck
theorem zny (h : SE X g m e f) : SE X g m e (zj0 f) := PE.imp h fun σ H Q ⟨r,G,si,q⟩ => ⟨r,G,si,by
  refine zag (zah q) fun d q v G' H' w rv => ?_
  cases d with
  | dic kvs => exact q v G' H' w rv
  | _ => exact q.elim⟩
theorem zjZ (f : FE) : ∀ r d,zj0 f r = .ok d→∃ kvs,d = .dic kvs := by
  intro r d e
  unfold zj0 at e
  cases er : f r with
  | ok x =>
    rw [er,bind_ok] at e
    cases x with
    | dic kvs => cases e; exact ⟨kvs,rfl⟩
    | _ => cases e
  | exc x => rw [er] at e; cases e
  | stuck => rw [er] at e; cases e
theorem zkD {r : Rho} {q : List D→Prop} {x : D→Prop} (h : fin (fSeq zeh f r) q x) : fin (zj0 f r) (fun d => ∀ kvs,d = .dic kvs→q (kvs.map fun kv => kyD kv.1)) x := by
  unfold fSeq at h
  unfold zj0
  cases er : f r with
  | ok d =>
    rw [er] at h
    cases d with
    | dic kvs => intro kvs' e; cases e; exact h
    | _ => exact h
  | exc y => rw [er] at h; exact h
  | stuck => rw [er] at h; exact h
theorem zmw (hp : PassesOwn (model X.prog X.w) X.A X.env X.xe) (hc : X.calm = true) {ft : FT} (hi : SE X g m iter f) (hg : ∀ g',SG X g' m tg ft m) (hb : ∀ g',SSs X g' ro m m sts s1 m)
    (hs : ∀ x,foldedSetIterable iter X.env x = pure x := by intro _; rfl) : SS X g ro mb m (.For tg iter sts [] pos) (zcF m (fSeq zeh f) ft s1) m := by
  have hgA : PG X tg (fun v σ H Q => ∃ g',tG X g' m m ft v σ H Q) := fun pins s σ H v u Q I r ⟨g',q⟩ => (hg g').2 pins s σ H v u Q I r q
  have hbA : PSs X sts (fun D σ H => ∃ g',tS X g' ro m m m s1 D σ H) := fun pins s σ H D I ⟨g',q⟩ => (hb g').2 pins s σ H D I q
  refine ⟨rfl,PS.imp (zgS hp hc (zqG (zny hi) (zjZ f)) hgA hbA hs) fun D σ H ⟨r,G,si,q⟩ => ⟨r,G,si,zag (zkD (zbn si rfl q)) fun d q a ob ps kvs G0 H0 ed w0 hG0 hH0 rs0 => ?_⟩⟩
  replace q := q kvs ed
  have si0 := si.grow w0
  have hl : ps.length = kvs.length := Paired.length rs0
  have had := si0.had hG0 hH0
  generalize hds : (kvs.map fun kv => kyD kv.1) = ds at q
  have hdl : ds.length = ps.length := by rw [← hds,List.length_map]; omega
  refine ⟨fun i n σ H => ∃ r G,SI X (addG g a (.dic kvs) (.frz ob (.dK ps))) m r G σ H∧Gle G0 G∧i≤ds.length∧n = ds.length - i∧oTo X g ro m mb G D (forF ft s1 (ds.drop i) r),⟨ds.length,r,G0,si0.up hG0 hH0,Gle.refl G0,Nat.zero_le _,rfl,oTo.gle q w0.ge⟩,?_⟩
  rintro i n σ1 H1 ⟨r1,G1,si1,le1,hi,rfl,q1⟩
  have hH1 : H1 a = some (.frz ob (.dK ps)) := si1.old a _ zao
  by_cases hlt : i < ds.length
  · have hd : ds.drop i = ds[i]::ds.drop (i + 1) := List.drop_eq_getElem_cons hlt
    rw [hd] at q1
    unfold forF at q1
    refine .inr ⟨⟨hH1,by omega⟩,fun σ' H' => ∃ r G,SI X (addG g a (.dic kvs) (.frz ob (.dK ps))) m r G σ' H'∧Gle G0 G∧oTo X g ro m mb G D (forF ft s1 (ds.drop (i + 1)) r),fun σ' H' ⟨r',G',si',le',q'⟩ => ⟨ds.length - (i + 1),by omega,r',G',si',le',hlt,rfl,q'⟩,fun x H' y => ?_⟩
    obtain ⟨rfl,kv,hk1,rfl⟩ := y
    have rv : RG X.K G1 (kV kv.1) ds[i] := zmW (RKs.mono rs0 le1) hk1 (by rw [hds]; exact List.getElem?_eq_getElem hlt)
    cases eft : ft ds[i] r1 with
    | none => simp only [eft] at q1; exact q1.elim
    | some r2 =>
      simp only [eft] at q1
      refine ⟨addG g a (.dic kvs) (.frz ob (.dK ps)),r1,G1,ds[i],si1,rv,r2,eft,fun σ2 si2 => ⟨addG g a (.dic kvs) (.frz ob (.dK ps)),r2,G1,si2,?_⟩⟩
      cases eb : s1 r2 with
      | nx r' => simp only [eb] at q1; exact fun σ3 G3 H3 le3 si3 => ⟨r',G3,si3,le1.trans le3,oTo.gle q1 le3⟩
      | ct r' => simp only [eb] at q1; exact fun σ3 G3 H3 le3 si3 => ⟨r',G3,si3,le1.trans le3,oTo.gle q1 le3⟩
      | bk r' => simp only [eb] at q1; exact fun σ3 G3 H3 le3 si3 => q1 σ3 G3 H3 le3 (si3.down had)
      | rt d =>
        simp only [eb] at q1
        intro v G2 H2 wr rv2
        refine q1 v G2 H2 (wr.down had) ?_
        cases ro with
        | false => exact rv2
        | true =>
          rcases rv2 with ⟨c,e1,e2,e3⟩ | z
          · refine .inl ⟨c,e1,?_,e3⟩
            have hca : c≠a := by
              rintro rfl
              have := wr.ge c _ zas
              rw [e3.un] at this; cases this
            have e2' : upd g.h0 a (.frz ob (.dK ps)) c = none := e2
            rw [zan hca] at e2'; exact e2'
          · exact .inr z
      | exc x r' => exact fun pins e s' σ3 G3 H3 le3 _ _ ex => (show False from ex).elim
      | stuck => simp only [eb] at q1; exact q1
  · have e : i = ds.length := by omega
    subst e
    rw [List.drop_length] at q1
    exact .inl ⟨⟨hH1,by omega⟩,q1 σ1 G1 H1 (Gle.refl _) (si1.down had)⟩
noncomputable def repD : D→D→Option D
  | .lst ds,.int k => if -(2 ^ 62)≤k∧k < 2 ^ 62∧ds.length * k.toNat≤sizeLine then some (.lst ((List.replicate k.toNat ds).flatten)) else none
  | _,_ => none
theorem zpA {K : PySem.W.Frag} {G : GH} {xs : List V} {ds : List D} (r : RGs K G xs ds) : ∀ n : Nat,RGs K G (List.replicate n xs).flatten (List.replicate n ds).flatten
  | 0 => .nil
  | n + 1 => by
    rw [List.replicate_succ,List.replicate_succ,List.flatten_cons,List.flatten_cons]
    exact DL.Paired.app r (zpA r n)
theorem zrJ (ha : SO X g m a fa) (hb : SB X g m b fb) : SO X g m (.BinOp a .Mult b pos) (f2 fa fb repD) := by
  refine PE.imp (zpQ zp1 ha hb) fun σ H Q ⟨r,G,si,q⟩ => ⟨r,G,si,zag (zah q) fun d1 q1 p1 G1 H1 w1 hn1 o1 => ⟨r,G1,si.grow w1,zbb (zah q1) w1 fun d2 q2 v2 G2 H2 w2 r2 => ?_⟩⟩
  obtain ⟨d,e,q3⟩ := zaL q2
  have o2 := o1.mono w2
  unfold repD at e
  split at e
  · split at e
    · rename_i ds k hk
      cases e
      cases o2.ob with
      | @lst xs _ hx rs =>
        have hl := Paired.length rs
        refine ⟨p1,k,xs,rfl,r2.int w2.ok,hx,by omega,by omega,by rw [hl]; exact hk.2.2,fun p hp => ?_⟩
        have w3 := Grow.new w2.ok hp (.lst (List.replicate k.toNat xs).flatten)
        refine q3 p G2 _ ((w1.trans w2).trans w3) ?_ ⟨w2.ok.isN hp,.lst zao (zpA rs _)⟩
        cases e : H p with
        | none => rfl
        | some o => rw [(w1.trans w2).he _ _ e] at hp; cases hp
    · cases e
  · cases e
end
end DL
end
section
namespace DL
open PySem PySem.Spec PyProof.Rows L2
section
variable {X : Cx} {g : GE} {m : List Md} {e o : Expr} {es : List Expr} {fo : FE} {fl : Rho → Res (List D)} {pos p pos' : Pos}
theorem zkV (hc : X.calm = true) : zdh X (.builtin "sum") (fun xs H Q => ∃ (p : Addr) (ks : List Int),xs = [.ref p]∧SqL X.K H p (ks.map V.int)∧Q (.int ks.sum) H) := by
  intro pins s σ H xs us Q I r h
  obtain ⟨p,ks,rfl,hq,q⟩ := h
  obtain ⟨u,rfl,rx⟩ := zeT r
  cases rx
  obtain ⟨its,rv,pl,hz⟩ := I.list hq
  obtain ⟨mF,F⟩ := I.fr
  exact PyProof.Rows.LSm.sum_ints F (zlO (g := X.base) (h := s.heap) (L := X.env.locals)) (I.ok.hd hc) pl.isList (zfV rv) fun h' tk t' F' N' => ⟨.int ks.sum,_,Inv.keptF I F F' N' tk,⟨_,rfl⟩,q⟩
noncomputable def sumD : List D→Option D
  | [.lst ds] => (zdf ds).map fun ks => .int ks.sum
  | _ => none
theorem zo7 {K : PySem.W.Frag} : zjd K (fun xs H Q => ∃ (p : Addr) (ks : List Int),xs = [.ref p]∧SqL K H p (ks.map V.int)∧Q (.int ks.sum) H) sumD := by
  intro G H vs ds d Q gk rs e q
  unfold sumD at e
  split at e
  · rename_i zs
    cases ek : zdf zs with
    | none => rw [ek] at e; cases e
    | some ks =>
      rw [ek] at e; cases e
      cases rs with
      | cons r1 t =>
        cases t
        obtain ⟨b,xs,rfl,s,r⟩ := r1.lst gk
        have ex := ziE gk r ek
        subst ex
        exact ⟨b,ks,rfl,s,q _ G H (Grow.refl gk) (.scl (.int _))⟩
  · cases e
theorem zrw (hc : X.calm = true) (hg : Gl X "sum") (hm : X.mg "sum" = none) (ha : SAB X g m (e::es) fl) (he : starEach (e::es) X.env = (false,eval e X.env)::starEach es X.env := by rfl) (hpl : (backTo pos (starEach es X.env)).any (·.1) = false := by rfl) :
    SE X g m (.Call (.Name "sum" p) (e::es) [] pos) (fC fl sumD) := s_cb zo7 (zdr (zkV hc) hg hm PyProof.Rows.boot_sum ha (by decide) (by decide) he hpl)
end
end DL
end
section
namespace DL
open PySem PySem.Spec PyProof.Rows L2
noncomputable def zcl (g : GE) (H : Hp) (fp : List Addr) (i : Nat) (p : Addr) : GE :=
  ⟨g.gh,fun b => if b∈fp then H b else g.h0 b,fun j => if j = i then some (some (V.ref p),none) else g.hd j⟩
theorem ziy {g : GE} {H H' : Hp} {fp : List Addr} {i : Nat} {p : Addr} (h : ∀ b∈fp,H' b = H b) : zcl g H' fp i p = zcl g H fp i p := by
  unfold zcl
  congr 1
  funext b
  by_cases hb : b∈fp
  · rw [if_pos hb,if_pos hb,h b hb]
  · rw [if_neg hb,if_neg hb]
noncomputable def RowR (K : PySem.W.Frag) (G : GH) (H : Hp) (b : Addr) (ds : List D) : Prop := ∃ xs,H b = some (.lst xs)∧RGs K G xs ds
structure LRw (K : PySem.W.Frag) (G : GH) (H : Hp) (p : Addr) (as : List Addr) (w : List (List D)) : Prop where
  out : H p = some (.lst (as.map V.ref))
  nd : (p::as).Nodup
  un : ∀ b∈p::as,G b = none
  rw : Paired (RowR K G H) as w
theorem RowR.mono {K : PySem.W.Frag} {G G' : GH} {H H' : Hp} {b : Addr} {ds : List D} (h : RowR K G H b ds) (ge : Gle G G') (he : H' b = H b) : RowR K G' H' b ds := by
  obtain ⟨xs,h1,h2⟩ := h
  exact ⟨xs,by rw [he]; exact h1,h2.mono ge⟩
theorem zge {α β : Type} {F F' : α→β→Prop} {l : List α} {r : List β} (h : Paired F l r) (f : ∀ a∈l,∀ b,F a b→F' a b) : Paired F' l r := by
  induction h with
  | nil => exact .nil
  | cons h _ ih => exact .cons (f _ List.mem_cons_self _ h) (ih fun a ha => f a (List.mem_cons_of_mem _ ha))
theorem LRw.isS {K : PySem.W.Frag} {G : GH} {H : Hp} {p : Addr} {as : List Addr} {w : List (List D)} (h : LRw K G H p as w) {b : Addr} (hb : b∈p::as) : H b≠none := by
  rcases List.mem_cons.mp hb with rfl | hb
  · rw [h.out]; simp
  · have : ∀ {as : List Addr} {w : List (List D)},Paired (RowR K G H) as w→b∈as→H b≠none := fun {as w} q hb => by
      induction q with
      | nil => cases hb
      | cons r _ ih =>
        rcases List.mem_cons.mp hb with rfl | hb
        · obtain ⟨xs,e,_⟩ := r; rw [e]; simp
        · exact ih hb
    exact this h.rw hb
theorem LRw.mono {K : PySem.W.Frag} {G G' : GH} {H H' : Hp} {p : Addr} {as : List Addr} {w : List (List D)} (h : LRw K G H p as w) (ge : Gle G G') (he : ∀ b∈p::as,H' b = H b) (un : ∀ b∈p::as,G' b = none) : LRw K G' H' p as w :=
  ⟨by rw [he p List.mem_cons_self]; exact h.out,h.nd,un,zge h.rw fun b hb ds r => r.mono ge (he b (List.mem_cons_of_mem _ hb))⟩
noncomputable def SI2 (X : Cx) (g : GE) (i : Nat) (m : List Md) (r : Rho) (w : List (List D)) (G : GH) (st : L2.St) (H : Hp) : Prop :=
  ∃ p as,LRw X.K G H p as w∧(∀ b∈p::as,g.h0 b = none)∧SI X (zcl g H (p::as) i p) m r G st H∧m[i]? = some .bw
section
variable {X : Cx} {g : GE} {i : Nat} {m m' m1 : List Md} {r r' : Rho} {w : List (List D)} {G G' : GH} {σ σ' : L2.St} {H H' : Hp}
theorem zdw {p : Addr} {as : List Addr} (R : LRw X.K G H p as w) (h0 : ∀ b∈p::as,g.h0 b = none) (si : SI X (zcl g H (p::as) i p) m r G σ H) (le : Gle G G') (si' : SI X (zcl g H (p::as) i p) m' r' G' σ' H') (hm : m'[i]? = some .bw) : SI2 X g i m' r' w G' σ' H' := by
  have he : ∀ b∈p::as,H' b = H b := fun b hb => by
    have hs := R.isS hb
    cases e : H b with
    | none => exact absurd e hs
    | some o =>
      have : (zcl g H (p::as) i p).h0 b = some o := by show (if b∈p::as then H b else g.h0 b) = _; rw [if_pos hb]; exact e
      rw [si'.old b o this]
  have un : ∀ b∈p::as,G' b = none := fun b hb => by
    have h : (zcl g H (p::as) i p).h0 b≠none := by show (if b∈p::as then H b else g.h0 b)≠_; rw [if_pos hb]; exact R.isS hb
    have e1 := si'.gf b h
    have e2 := si.gf b h
    rw [e1,← e2]; exact R.un b hb
  exact ⟨p,as,R.mono le he un,h0,by rw [ziy he]; exact si',hm⟩
noncomputable abbrev FS2 := Rho→List (List D)→Option (Rho × List (List D))
noncomputable def tS2 (X : Cx) (g : GE) (i : Nat) (m m' : List Md) (f : FS2) : TS := fun D σ H => ∃ r w G,SI2 X g i m r w G σ H∧∃ r' w',f r w = some (r',w')∧∀ σ' G' H',Gle G G'→SI2 X g i m' r' w' G' σ' H'→D.nx σ' H'
noncomputable def SS2 (X : Cx) (g : GE) (i : Nat) (m : List Md) (st : Stmt) (f : FS2) (m' : List Md) : Prop := PS X st (tS2 X g i m m' f)
noncomputable def SSs2 (X : Cx) (g : GE) (i : Nat) (m : List Md) (st : List Stmt) (f : FS2) (m' : List Md) : Prop := PSs X st (tS2 X g i m m' f)
variable {st : Stmt} {sts : List Stmt} {ro : Bool} {mb : List Md} {s1 : FS} {f1 f2 : FS2} {tg iter : Expr} {pos : Pos}
noncomputable def embF (f : FS) : FS2 := fun r w => match f r with
  | .nx r' => some (r',w)
  | _ => none
theorem zfi (h : ∀ g',SS X g' ro mb m st s1 m') (hm : m'[i]? = some .bw) : SS2 X g i m st (embF s1) m' := by
  have hA : PS X st (fun D σ H => ∃ g',tS X g' ro m m' mb s1 D σ H) := fun pins s σ H D I ⟨g',q⟩ => (h g').2 pins s σ H D I q
  refine PS.imp hA fun D σ H ⟨r,w,G,⟨p,as,R,h0,si,_⟩,r',w',e,k⟩ => ⟨_,r,G,si,?_⟩
  unfold embF at e
  cases q : s1 r with
  | nx r1 =>
    rw [q] at e
    cases e
    exact fun σ' G' H' le si' => k σ' G' H' le (zdw R h0 si le si' hm)
  | _ => rw [q] at e; cases e
noncomputable def zb1 (f1 f2 : FS2) : FS2 := fun r w => (f1 r w).bind fun p => f2 p.1 p.2
theorem zhu : SSs2 X g i m [] (fun r w => some (r,w)) m := PSs.imp zfj fun D σ H ⟨r,w,G,si,r',w',e,k⟩ => by
  cases e
  exact k σ G H (Gle.refl G) si
theorem zbS (h1 : SS2 X g i m st f1 m1) (h2 : SSs2 X g i m1 sts f2 m') : SSs2 X g i m (st::sts) (zb1 f1 f2) m' := by
  refine PSs.imp (zb3 h1 h2) fun D σ H ⟨r,w,G,si,r',w',e,k⟩ => ⟨r,w,G,si,?_⟩
  unfold zb1 at e
  cases q : f1 r w with
  | none => rw [q] at e; cases e
  | some z =>
    rw [q] at e
    exact ⟨z.1,z.2,rfl,fun σ' G' H' le si' => ⟨z.1,z.2,G',si',r',w',e,fun σ2 G2 H2 le2 si2 => k σ2 G2 H2 (le.trans le2) si2⟩⟩
noncomputable def zer (ft : FT) (body : FS2) : List D→FS2
  | [],r,w => some (r,w)
  | d::ds,r,w => (ft d r).bind fun r1 => (body r1 w).bind fun p => zer ft body ds p.1 p.2
noncomputable def zee (fi : FI) (ft : FT) (body : FS2) : FS2 := fun r w => match fi r with
  | .ok ds => zer ft body ds r w
  | _ => none
theorem zjz (hp : PassesOwn (model X.prog X.w) X.A X.env X.xe) (hc : X.calm = true) {ft : FT} {fi : FI} (hi : ∀ g',SIt X g' m tg iter fi) (hg : ∀ g',SG X g' m tg ft m) (hb : SSs2 X g i m sts f1 m) (hm : m[i]? = some .bw)
    (hs : ∀ x,foldedSetIterable iter X.env x = pure x := by intro _; rfl) : SS2 X g i m (.For tg iter sts [] pos) (zee fi ft f1) m := by
  have hiA : PI X tg iter (fun σ H R => ∃ g',tI X g' m fi σ H R) := fun pins s σ H R I ⟨g',q⟩ => hi g' pins s σ H R I q
  have hgA : PG X tg (fun v σ H Q => ∃ g',tG X g' m m ft v σ H Q) := fun pins s σ H v u Q I r ⟨g',q⟩ => (hg g').2 pins s σ H v u Q I r q
  refine PS.imp (zgS hp hc hiA hgA hb hs) fun D σ H ⟨r,w,G,⟨p,as,R,h0,si,_⟩,r',w',e,k⟩ => ⟨_,r,G,si,?_⟩
  unfold zee at e
  cases q : fi r with
  | exc x => rw [q] at e; cases e
  | stuck => rw [q] at e; cases e
  | ok ds =>
    rw [q] at e
    intro J G0 H0 w0 Y
    refine ⟨fun j n σ1 H1 => ∃ r1 w1 G1,SI2 X g i m r1 w1 G1 σ1 H1∧Gle G0 G1∧j≤ds.length∧n = ds.length - j∧zer ft f1 (ds.drop j) r1 w1 = some (r',w'),⟨ds.length,r,w,G0,zdw R h0 si w0.ge (si.grow w0) hm,Gle.refl _,Nat.zero_le _,rfl,e⟩,?_⟩
    rintro j n σ1 H1 ⟨r1,w1,G1,S1,le1,hj,rfl,e1⟩
    have S1' := S1
    obtain ⟨p1,as1,R1,h01,si1,_⟩ := S1'
    by_cases hlt : j < ds.length
    · have hd : ds.drop j = ds[j]::ds.drop (j + 1) := List.drop_eq_getElem_cons hlt
      rw [hd] at e1
      unfold zer at e1
      refine .inr ⟨Y.go G1 H1 j le1 si1.gok hlt,fun σ' H' => ∃ r2 w2 G2,SI2 X g i m r2 w2 G2 σ' H'∧Gle G0 G2∧zer ft f1 (ds.drop (j + 1)) r2 w2 = some (r',w'),fun σ' H' ⟨r2,w2,G2,S2,le2,q2⟩ => ⟨ds.length - (j + 1),by omega,r2,w2,G2,S2,le2,hlt,rfl,q2⟩,fun x H' y => ?_⟩
      obtain ⟨G',wg,rv⟩ := Y.yld G1 H1 j x H' ds[j] le1 si1.gok y (List.getElem?_eq_getElem hlt)
      cases eft : ft ds[j] r1 with
      | none => rw [eft] at e1; cases e1
      | some r2 =>
        rw [eft] at e1
        simp only [Option.bind_some] at e1
        cases eb : f1 r2 w1 with
        | none => rw [eb] at e1; cases e1
        | some z =>
          rw [eb] at e1
          refine ⟨_,r1,G',ds[j],si1.grow wg,rv,r2,eft,fun σ2 si2 => ⟨r2,w1,G',zdw R1 h01 si1 wg.ge si2 hm,z.1,z.2,eb,fun σ3 G3 H3 le3 S3 => ⟨z.1,z.2,G3,S3,(le1.trans wg.ge).trans le3,e1⟩⟩⟩
    · have ej : j = ds.length := by omega
      subst ej
      rw [List.drop_length] at e1
      cases e1
      exact .inl ⟨Y.stop G1 H1 le1 si1.gok,k σ1 G1 H1 (Gle.trans w0.ge le1) S1⟩
theorem zoC {K : PySem.W.Frag} {H : Hp} : ∀ {as : List Addr} {w : List (List D)} {G : GH},GOk K G H→Paired (RowR K G H) as w→as.Nodup→(∀ b∈as,G b = none)→∃ G',Gle G G'∧(∀ b,b∉as→G' b = G b)∧GOk K G' H∧Paired (fun b ds => G' b = some (.lst ds)) as w := by
  intro as
  induction as with
  | nil =>
    intro w G gk h _ _
    cases h
    exact ⟨G,Gle.refl G,fun _ _ => rfl,gk,.nil⟩
  | cons b as ih =>
    intro w G gk h nd un
    cases h with
    | @cons _ ds _ w r t =>
      rw [List.nodup_cons] at nd
      have hb := un b List.mem_cons_self
      obtain ⟨xs,e,rs⟩ := r
      have g1 : GOk K (gset G b (.lst ds)) H := gk.gset hb (.lst (.inl e) rs)
      obtain ⟨G',l,o,g,q⟩ := ih g1 (zge t fun c hc ds r => r.mono (za4 hb) rfl) nd.2 fun c hc => by
        rw [zaR (by rintro rfl; exact nd.1 hc)]; exact un c (List.mem_cons_of_mem _ hc)
      refine ⟨G',Gle.trans (za4 hb) l,fun c hc => ?_,g,.cons (l _ _ zas) q⟩
      rw [o c fun z => hc (List.mem_cons_of_mem _ z),zaR (by rintro rfl; exact hc List.mem_cons_self)]
theorem zjT {G : GH} {as : List Addr} {w : List (List D)} {b : Addr} (hb : b∈as) (q : Paired (fun b ds => G b = some (.lst ds)) as w) : ∃ ds,G b = some (.lst ds) := by
  induction q with
  | nil => cases hb
  | cons h _ ih =>
    rcases List.mem_cons.mp hb with rfl | hb
    · exact ⟨_,h⟩
    · exact ih hb
theorem zix {fp : List Addr} {p : Addr} {d0 : D} (si : SI X (zcl g H fp i p) m r G σ H) (hm : m[i]? = some .bw) (h0 : ∀ b∈fp,g.h0 b = none) (hS : ∀ b∈fp,H b≠none) (hb : ∀ j,j≠i→m[j]?≠some .bw) (le : Gle G G') (g2 : GOk X.K G' H) (out : ∀ b,b∉fp→G' b = G b) (hd : G' p = some d0) :
    SI X g (m.set i .sh) (r.set i (some d0)) G' σ H := by
  have hlt : i < m.length := (List.getElem?_eq_some_iff.mp hm).1
  have hst : σ[i]? = some (some (V.ref p)) := (si.lk i (some (V.ref p),none) (by show (if i = i then _ else _) = _; rw [if_pos rfl]) hm).1
  have h0' : ∀ b,b∉fp→(zcl g H (fp) i p).h0 b = g.h0 b := fun b hb => by show (if b∈fp then H b else g.h0 b) = _; rw [if_neg hb]
  have h0i : ∀ b,b∈fp→(zcl g H (fp) i p).h0 b≠none := fun b hb => by show (if b∈fp then H b else g.h0 b)≠_; rw [if_pos hb]; exact hS b hb
  have nin : ∀ b,g.h0 b≠none→b∉fp := fun b h z => h (h0 b z)
  have mne : ∀ {j x},i≠j→(m.set i .sh)[j]? = some x→m[j]? = some x := fun hij h => by rw [List.getElem?_set_ne hij] at h; exact h
  refine ⟨g2,fun a o e => ?_,fun a d e => le a d (si.ge a d e),fun a h => ?_,by simpa using si.lm,by simpa using si.lr,fun j d h1 h2 => ?_,fun j d h1 h2 => ?_,fun j d h1 h2 => ?_,fun j k a d e hjk h1 h2 m1 m2 z1 z2 => ?_,fun j o hj hm' => ?_⟩
  · exact si.old a o (by rw [h0' a (nin a (by rw [e]; simp))]; exact e)
  · have hn := nin a h
    rw [out a hn]
    exact si.gf a (by rw [h0' a hn]; exact h)
  · by_cases hij : i = j
    · subst hij
      rw [List.getElem?_set_self (by rw [si.lr,← si.lm]; exact hlt)] at h1
      cases h1
      exact ⟨_,hst,.ref hd⟩
    · rw [List.getElem?_set_ne hij] at h1
      obtain ⟨v,y1,y2⟩ := si.sh j d h1 (mne hij h2)
      exact ⟨v,y1,y2.mono le⟩
  · by_cases hij : i = j
    · subst hij; rw [List.getElem?_set_self hlt] at h2; cases h2
    · rw [List.getElem?_set_ne hij] at h1
      obtain ⟨a,y1,y2,y3⟩ := si.ow j d h1 (mne hij h2)
      have hn : a∉fp := fun z => h0i a z y3
      exact ⟨a,y1,⟨by rw [out a hn]; exact y2.un,y2.ob.mono le fun _ z => z⟩,by rw [← h0' a hn]; exact y3⟩
  · by_cases hij : i = j
    · subst hij; rw [List.getElem?_set_self hlt] at h2; cases h2
    · exact absurd (mne hij h2) (hb j (Ne.symm hij))
  · have hij : i≠j := by rintro rfl; rw [List.getElem?_set_self hlt] at m1; cases m1
    have hik : i≠k := by rintro rfl; rw [List.getElem?_set_self hlt] at m2; cases m2
    rw [List.getElem?_set_ne hij] at h1
    rw [List.getElem?_set_ne hik] at h2
    exact si.dis j k a d e hjk h1 h2 (mne hij m1) (mne hik m2) z1 z2
  · by_cases hij : i = j
    · subst hij; rw [List.getElem?_set_self hlt] at hm'; cases hm'
    · exact absurd (mne hij hm') (hb j (Ne.symm hij))
theorem SI2.frz (s : SI2 X g i m r w G σ H) (hb : ∀ j,j≠i→m[j]?≠some .bw) : ∃ G',Gle G G'∧(∀ b d,G b = none→G' b = some d→∃ ds,d = .lst ds)∧SI X g (m.set i .sh) (r.set i (some (.lst (w.map D.lst)))) G' σ H := by
  obtain ⟨p,as,R,h0,si,hm⟩ := s
  have nd := List.nodup_cons.mp R.nd
  obtain ⟨G1,l1,o1,g1,q1⟩ := zoC si.gok R.rw nd.2 fun b hb => R.un b (List.mem_cons_of_mem _ hb)
  have hp1 : G1 p = none := by rw [o1 p nd.1]; exact R.un p List.mem_cons_self
  have rs : RGs X.K G1 (as.map V.ref) (w.map D.lst) := by
    have : ∀ {as : List Addr} {w : List (List D)},Paired (fun b ds => G1 b = some (.lst ds)) as w→RGs X.K G1 (as.map V.ref) (w.map D.lst) := fun {as w} q => by
      induction q with
      | nil => exact .nil
      | cons h _ ih => exact .cons (.ref h) ih
    exact this q1
  have g2 : GOk X.K (gset G1 p (.lst (w.map D.lst))) H := g1.gset hp1 (.lst (.inl R.out) rs)
  have le : Gle G (gset G1 p (.lst (w.map D.lst))) := Gle.trans l1 (za4 hp1)
  have out : ∀ b,b∉p::as→gset G1 p (.lst (w.map D.lst)) b = G b := fun b hb => by
    rw [zaR (by rintro rfl; exact hb List.mem_cons_self),o1 b fun z => hb (List.mem_cons_of_mem _ z)]
  refine ⟨_,le,fun b d hn e => ?_,zix si hm h0 (fun b hb => R.isS hb) hb le g2 out zas⟩
  by_cases hbp : b = p
  · subst hbp; rw [zas] at e; cases e; exact ⟨_,rfl⟩
  · rw [zaR hbp] at e
    by_cases hba : b∈as
    · obtain ⟨ds,e1⟩ := zjT hba q1
      rw [e1] at e; cases e; exact ⟨_,rfl⟩
    · rw [o1 b hba,hn] at e; cases e
theorem SI.hold (s : SI X g m r G σ H) (wg : Grow X.K G H G' H') (hlt : i < m.length) {p : Addr} {fp : List Addr} (un : ∀ b∈fp,G' b = none) (hS : ∀ b∈fp,H' b≠none) (hn : ∀ b∈fp,H b = none) : SI X (zcl g H' fp i p) (m.set i .bw) (r.set i none) G' (σ.set i (some (V.ref p))) H' := by
  have s' := s.grow wg
  have h0' : ∀ b,b∉fp→(zcl g H' (fp) i p).h0 b = g.h0 b := fun b hb => by show (if b∈fp then H' b else g.h0 b) = _; rw [if_neg hb]
  have h0i : ∀ b,b∈fp→(zcl g H' (fp) i p).h0 b = H' b := fun b hb => by show (if b∈fp then H' b else g.h0 b) = _; rw [if_pos hb]
  have mne : ∀ {j x},i≠j→(m.set i .bw)[j]? = some x→m[j]? = some x := fun hij h => by rw [List.getElem?_set_ne hij] at h; exact h
  have rne : ∀ {j d},(r.set i none)[j]? = some (some d)→i≠j∧r[j]? = some (some d) := fun {j d} h => by
    by_cases hij : i = j
    · subst hij
      rw [List.getElem?_set_self (by rw [s.lr,← s.lm]; exact hlt)] at h; cases h
    · rw [List.getElem?_set_ne hij] at h; exact ⟨hij,h⟩
  refine ⟨wg.ok,fun a o e => ?_,s'.ge,fun a h => ?_,by simpa using s.lm,by simpa using s.lr,fun j d h1 h2 => ?_,fun j d h1 h2 => ?_,fun j d h1 h2 => ?_,fun j k a d e hjk h1 h2 m1 m2 z1 z2 => ?_,fun j o hj hm' => ?_⟩
  · by_cases ha : a∈fp
    · rw [h0i a ha] at e; exact e
    · rw [h0' a ha] at e; exact s'.old a o e
  · by_cases ha : a∈fp
    · rw [un a ha]
      show none = g.gh a
      cases e : g.gh a with
      | none => rfl
      | some d => exact absurd (hn a ha) (s.gok a d (s.ge a d e)).isS
    · rw [h0' a ha] at h; exact s'.gf a h
  · obtain ⟨hij,h1⟩ := rne h1
    rw [List.getElem?_set_ne hij]
    exact s'.sh j d h1 (mne hij h2)
  · obtain ⟨hij,h1⟩ := rne h1
    rw [List.getElem?_set_ne hij]
    obtain ⟨a,y1,y2,y3⟩ := s.ow j d h1 (mne hij h2)
    have ha : a∉fp := fun z => y2.ob.isS (hn a z)
    exact ⟨a,y1,y2.mono wg,by rw [h0' a ha]; exact y3⟩
  · obtain ⟨hij,h1⟩ := rne h1
    rw [List.getElem?_set_ne hij]
    obtain ⟨v,y1,y2⟩ := s'.bw j d h1 (mne hij h2)
    refine ⟨v,y1,?_⟩
    rcases y2 with y2 | ⟨a,ea,y2,y3⟩
    · exact .inl y2
    · refine .inr ⟨a,ea,y2,?_⟩
      by_cases ha : a∈fp
      · rw [h0i a ha]; exact hS a ha
      · rw [h0' a ha]; exact y3
  · obtain ⟨hij,h1⟩ := rne h1
    obtain ⟨hik,h2⟩ := rne h2
    rw [List.getElem?_set_ne hij] at z1
    rw [List.getElem?_set_ne hik] at z2
    exact s.dis j k a d e hjk h1 h2 (mne hij m1) (mne hik m2) z1 z2
  · by_cases hij : i = j
    · subst hij
      have hj' : (if i = i then some (some (V.ref p),none) else g.hd i) = some o := hj
      rw [if_pos rfl] at hj'
      cases hj'
      exact ⟨by rw [List.getElem?_set_self (by rw [← s.lm]; exact hlt)],fun d h => absurd rfl (rne h).1⟩
    · have hj' : (if j = i then some (some (V.ref p),none) else g.hd j) = some o := hj
      rw [if_neg (Ne.symm hij)] at hj'
      have := s.lk j o hj' (mne hij hm')
      exact ⟨by rw [List.getElem?_set_ne hij]; exact this.1,fun d h => this.2 d (by rw [List.getElem?_set_ne hij] at h; exact h)⟩
theorem SI.new2 (s : SI X g m r G σ H) (wg : Grow X.K G H G' H') (hlt : i < m.length) {p : Addr} {as : List Addr} (R : LRw X.K G' H' p as w) (hn : ∀ b∈p::as,H b = none) : SI2 X g i (m.set i .bw) (r.set i none) w G' (σ.set i (some (V.ref p))) H' :=
  ⟨p,as,R,fun b hb => s.new (hn b hb),s.hold wg hlt R.un (fun b hb => R.isS hb) hn,by rw [List.getElem?_set_self hlt]⟩
noncomputable def SSM (X : Cx) (g : GE) (ro : Bool) (mb : List Md) (i : Nat) (m : List Md) (sts : List Stmt) (F : Rho→List (List D)→Out) (m' : List Md) : Prop :=
  m'.length = m.length∧PSs X sts (fun D σ H => ∃ r w G,SI2 X g i m r w G σ H∧oTo X g ro m' mb G D (F r w))
noncomputable def zqX (i : Nat) (s : FS) : Rho→List (List D)→Out := fun r w => s (r.set i (some (.lst (w.map D.lst))))
theorem zno (h : SSs X g ro mb (m.set i .sh) sts s1 m') (hb : ∀ j,j≠i→m[j]?≠some .bw) : SSM X g ro mb i m sts (zqX i s1) m' :=
  ⟨by simpa using h.1,PSs.imp h.2 fun D σ H ⟨r,w,G,s,q⟩ => by
    obtain ⟨G',le,_,si⟩ := s.frz hb
    exact ⟨_,G',si,oTo.gle q le⟩⟩
noncomputable def zja (f1 : FS2) (F : Rho→List (List D)→Out) : Rho→List (List D)→Out := fun r w => match f1 r w with
  | some p => F p.1 p.2
  | none => .stuck
theorem zig {F : Rho→List (List D)→Out} (hl : m1.length = m.length) (h1 : SS2 X g i m st f1 m1) (h2 : SSM X g ro mb i m1 sts F m') : SSM X g ro mb i m (st::sts) (zja f1 F) m' := by
  refine ⟨h2.1.trans hl,PSs.imp (zb3 h1 h2.2) fun D σ H ⟨r,w,G,si,q⟩ => ⟨r,w,G,si,?_⟩⟩
  unfold zja at q
  cases e : f1 r w with
  | none => rw [e] at q; exact q.elim
  | some z =>
    rw [e] at q
    exact ⟨z.1,z.2,rfl,fun σ' G' H' le si' => ⟨z.1,z.2,G',si',oTo.gle q le⟩⟩
noncomputable def tNew (X : Cx) (g : GE) (i : Nat) (m m1 : List Md) (f : Rho→Option (Rho × List (List D))) : TS := fun D σ H => ∃ r G,SI X g m r G σ H∧∃ r' w',f r = some (r',w')∧∀ σ' G' H',Gle G G'→SI2 X g i m1 r' w' G' σ' H'→D.nx σ' H'
noncomputable def zj4 (f : Rho→Option (Rho × List (List D))) (F : Rho→List (List D)→Out) : FS := fun r => match f r with
  | some p => F p.1 p.2
  | none => .stuck
theorem zpa {F : Rho→List (List D)→Out} {f : Rho→Option (Rho × List (List D))} (hl : m1.length = m.length) (h1 : PS X st (tNew X g i m m1 f)) (h2 : SSM X g ro mb i m1 sts F m') : SSs X g ro mb m (st::sts) (zj4 f F) m' := by
  refine ⟨h2.1.trans hl,PSs.imp (zb3 h1 h2.2) fun D σ H ⟨r,G,si,q⟩ => ⟨r,G,si,?_⟩⟩
  unfold zj4 at q
  cases e : f r with
  | none => rw [e] at q; exact q.elim
  | some z =>
    rw [e] at q
    exact ⟨z.1,z.2,rfl,fun σ' G' H' le si' => ⟨z.1,z.2,G',si',oTo.gle q le⟩⟩
end
end DL
end
section
namespace DL
open PySem PySem.Spec PyProof.Rows L2
noncomputable def RO (K : PySem.W.Frag) (H2 : Hp) (p : Addr) (G : GH) (H : Hp) (ws : List V) (ds : List D) : Prop := Paired (fun v d => ∃ b,v = V.ref b∧H2 b = none∧b≠p∧Own K G H b d) ws ds∧ws.Nodup
section
variable {K : PySem.W.Frag} {H2 : Hp} {p : Addr} {G G' : GH} {H H' : Hp} {ws : List V} {ds : List D}
theorem RO.grow (h : RO K H2 p G H ws ds) (w : Grow K G H G' H') : RO K H2 p G' H' ws ds :=
  ⟨Paired.mono (fun v d ⟨b,e,h1,h2,h3⟩ => ⟨b,e,h1,h2,h3.mono w⟩) h.1,h.2⟩
theorem RO.upd {o : HO} (h : RO K H2 p G H ws ds) : RO K H2 p G (L2.upd H p o) ws ds :=
  ⟨Paired.mono (fun v d ⟨b,e,h1,h2,h3⟩ => ⟨b,e,h1,h2,h3.un,h3.ob.mono (fun _ _ z => z) fun _ z => by rw [zan h2]; exact z⟩) h.1,h.2⟩
theorem RO.add (h : RO K H2 p G H ws ds) {a : Addr} {d : D} (w : Grow K G H G' H') (hn : H a = none) (h2 : H2 a = none) (hp : a≠p) (ho : Own K G' H' a d) : RO K H2 p G' H' (ws++[V.ref a]) (ds++[d]) := by
  refine ⟨Paired.snoc (h.grow w).1 ⟨a,rfl,h2,hp,ho⟩,?_⟩
  rw [List.nodup_append]
  refine ⟨h.2,by simp,?_⟩
  intro x hx y hy e
  rw [List.mem_singleton] at hy
  subst hy
  subst e
  have : ∀ {ws : List V} {ds : List D},Paired (fun v d => ∃ b,v = V.ref b∧H2 b = none∧b≠p∧Own K G H b d) ws ds→V.ref a∈ws→False := fun {ws ds} q hx => by
    induction q with
    | nil => cases hx
    | cons r _ ih =>
      rcases List.mem_cons.mp hx with e | hx
      · obtain ⟨b,e1,_,_,h3⟩ := r
        rw [← e] at e1
        cases e1
        exact h3.ob.isS hn
      · exact ih hx
  exact this h.1 hx
end
section
variable {X : Cx} {pins : List (Addr × Obj)} {σ : L2.St} {H2 : Hp} {s2 : Shared} {scope : Scope} {N' : List Str} {nl : Nat} {cap : List Nat} {cl : List (Str × Addr)} {fp : List Addr} {g : GE} {G2 : GH} {m : List Md} {r : Rho} {elt tg iter : Expr} {ifs : List Expr} {pos : Pos}
theorem zi6 (hN : X.N.Nodup) (hcalm : X.calm = true) (sc : CompSc X scope N' nl cap) (h1 : ∀ x c,cl.lookup x = some c→X.env.cells.lookup x = some c) (h2 : ∀ x,(x,NameKind.free)∈scope.names→∃ c,cl.lookup x = some c)
    (I2 : Inv X pins σ H2 s2) (si : SI X g m r G2 σ H2) (T : Turn X.prog X.w X.K tg J fp it tn) (st : tn 0 s2.heap) (hf : ∀ b∈fp,FpOk X pins H2 b) (Y : YieldsC X.K J ds G2 H2) (hsz : ds.length≤sizeLine)
    (hg : ∀ C,SG (cxC X s2 H2 N' scope cl C fp) ⟨G2,H2,fun _ => none⟩ (capM nl cap m) tg ft (capM nl cap m)) (hft : FtOk ft nl) (hq : ∀ C,SQs (cxC X s2 H2 N' scope cl C fp) ⟨G2,H2,fun _ => none⟩ (capM nl cap m) ifs q) (he : ∀ C,SO (cxC X s2 H2 N' scope cl C fp) ⟨G2,H2,fun _ => none⟩ (capM nl cap m) elt fe)
    (hres : zcm ft q fe (capR nl cap r) ds = .ok vs) {RR : Value→Addr→Result→Shared→Prop}
    (hRR : ∀ (p C : Addr) (s' : Shared) (H' : Hp) (G' : GH),Inv X pins σ H' s'→(∃ mm,s'.heap.Ns C mm)→H' C = none→C≠X.env.locals→X.s₀.heap.objs.size≤C→(∀ x c,X.env.cells.lookup x = some c→c≠C)→(∀ z∈X.pn++pins,z.1≠C) →
      Grow X.K G2 H2 G' H'→H2 p = none→(∃ ws,H' p = some (.lst ws)∧G' p = none∧RO X.K H2 p G' H' ws vs)→RR (.ref p) C (.ok .next) s') :
    wpAny (model X.prog X.w) X.A (newList []) (fun acc s3 => wpAny (model X.prog X.w) X.A (newFunctionEnv scope X.env.globals cl [] X.env.qual none .none (some X.env)) (fun cenv s4 =>
      codeAny (model X.prog X.w) X.A (.compStart (.ListComp elt [⟨tg,iter,ifs,0⟩] scope pos) 0 (.ref it) acc { cenv with scope := relabel scope X.env }) (RR acc cenv.locals) s4) E s3) E s2 := by
  refine wpAny_newObj_type (wpAny_newFunctionEnv sc.nocell (by intro y hy; simp at hy) (fun h₁ hns₁ hsb₁ => ?_) sc.kind)
  dsimp only at hns₁ hsb₁ ⊢
  generalize hH2 : s2.heap.push { cls := .type "list",dict := none,data := .seq ([] : List Value).toArray } = HH at hns₁ hsb₁ ⊢
  have hC : HH.objs.size = s2.heap.objs.size + 1 := by rw [← hH2,Heap.size_push]
  have hDC : s2.heap.objs.size≠HH.objs.size := by rw [hC]; exact Nat.ne_of_lt (Nat.lt_succ_self _)
  have hCle : s2.heap.objs.size≤HH.objs.size := by rw [hC]; exact Nat.le_succ _
  have below : ∀ b,b < s2.heap.objs.size→b≠HH.objs.size∧b≠s2.heap.objs.size := fun b hb => ⟨by rw [hC]; exact Nat.ne_of_lt (Nat.lt_succ_of_lt hb),Nat.ne_of_lt hb⟩
  have old : ∀ b o,s2.heap.get? b = some o→h₁.get? b = some o := fun b o e => hsb₁.extBut b o (below b (Heap.lt_size e)).1 (Heap.get?_push_of_some _ (hH2 ▸ Heap.get?_push_of_some _ e))
  have hacc : h₁.get? s2.heap.objs.size = some { cls := .type "list",dict := none,data := .seq ([] : List Value).toArray } := hsb₁.extBut _ _ hDC (Heap.get?_push_of_some _ (hH2 ▸ Heap.get?_push_size _ rfl))
  have hp2 : H2 s2.heap.objs.size = none := I2.hok.fresh (Nat.le_refl _)
  have hflt : ∀ b∈fp,FpOk X pins H2 b∧b < s2.heap.objs.size := fun b hb => ⟨hf b hb,by
    obtain ⟨o,e,_⟩ := T.obj 0 s2.heap st b hb
    exact Heap.lt_size e⟩
  have ok := zm9 (fp := fp) I2 sc h1 h2 hflt hCle
  generalize hXX : cxC X s2 H2 N' scope cl HH.objs.size fp = XX at ok
  have hG2p : G2 s2.heap.objs.size = none := si.gok.isN hp2
  have w0 : Grow X.K G2 H2 G2 (upd H2 s2.heap.objs.size (.lst [])) := Grow.new si.gok hp2 _
  have hok4 : HOk X.prog X.w (upd H2 s2.heap.objs.size (.lst [])) h₁ := I2.hok.laid old (Nat.le_refl _) ⟨Nat.zero_le _,[],0,.nil,hacc⟩
  have IC : Inv XX [] (capS nl cap σ) (upd H2 s2.heap.objs.size (.lst [])) { s2 with heap := h₁,toks := s2.toks + ([] : List (Str × Value)).length } := by
    subst hXX
    refine znb I2 ok sc h1 h2 hN rfl I2.bare old hns₁ hCle ?_ (fun b hb hlt => ?_) (Un.laid old (Nat.le_refl _) hp2) hok4
    · rw [zan (Ne.symm hDC)]; exact I2.hok.fresh hCle
    · rw [zan (below b hlt).2]; exact hb
  have SC : SI XX ⟨G2,H2,fun _ => none⟩ (capM nl cap m) (capR nl cap r) G2 (capS nl cap σ) (upd H2 s2.heap.objs.size (.lst [])) := by
    subst hXX
    exact zq1 si w0
  have hst₁ : tn 0 h₁ := T.keep _ _ _ st fun b _ o e => old b o e
  have hfX : ∀ (H' : Hp),(∀ b∈fp,H' b = none)→∀ b∈fp,FpOk XX [] H' b := fun H' hn b hb => by
    obtain ⟨z0,z1,z2,z3,z4,z5⟩ := hf b hb
    refine ⟨hn b hb,?_,?_,?_,?_,?_⟩
    · subst hXX; exact (below b (hflt b hb).2).1
    · subst hXX
      intro hfs
      rcases List.mem_cons.mp (I2.stkSub b hfs) with z | z
      · exact z1 z
      · exact z2 z
    · subst hXX; exact .inl hb
    · subst hXX; exact fun x c e => z4 x c (h1 x c e)
    · subst hXX; intro p hp; exact absurd (show p∈([] : List (Addr × Obj)) from hp) (by simp)
  have eA : XX.A = X.A := by subst hXX; rfl
  have eP : XX.prog = X.prog := by subst hXX; rfl
  have eW : XX.w = X.w := by subst hXX; rfl
  have eK : XX.K = X.K := by subst hXX; rfl
  have eX : XX.xe = fun _ _ => False := by subst hXX; rfl
  have eE : XX.env = compEnvC scope cl HH.objs.size X.env := by subst hXX; rfl
  have eC : XX.calm = true := by subst hXX; exact hcalm
  have eH : XX.H₀ = H2 := by subst hXX; rfl
  have hg' : PG XX tg (tG XX ⟨G2,H2,fun _ => none⟩ (capM nl cap m) (capM nl cap m) ft) := by subst hXX; exact (hg _).2
  have hq' : SQs XX ⟨G2,H2,fun _ => none⟩ (capM nl cap m) ifs q := by subst hXX; exact hq _
  have he' : SO XX ⟨G2,H2,fun _ => none⟩ (capM nl cap m) elt fe := by subst hXX; exact he _
  have fin' : ∀ {H' : Hp} {s' : Shared} {σ' : L2.St} {G' : GH} {ws : List V},Inv XX [] σ' H' s'→Grow X.K G2 H2 G' H'→H' s2.heap.objs.size = some (.lst ws)→G' s2.heap.objs.size = none→RO X.K H2 s2.heap.objs.size G' H' ws vs→RR (.ref s2.heap.objs.size) HH.objs.size (.ok .next) s' := fun {H' s' σ' G' ws} J1 wg hpp hgp rs => by
    subst hXX
    have un := J1.base
    refine hRR _ _ s' H' G' ?_ (let ⟨mm,hn,_⟩ := J1.loc; ⟨mm,hn⟩) J1.free (Nat.ne_of_gt (Nat.lt_of_lt_of_le I2.lt hCle)) (Nat.le_trans I2.sz hCle) (fun x c e z => ?_) (fun z hz e => ?_) wg hp2 ⟨_,hpp,hgp,rs⟩
    · refine I2.call' J1.os un J1.hok J1.bare fun b hb => ?_
      obtain ⟨z0,z1,z2,z3,z4,z5⟩ := hf b hb
      exact ⟨z3,z1,z4,z5⟩
    · obtain ⟨v,o,ho,_⟩ := I2.cell x c e
      exact absurd (Nat.lt_of_lt_of_le (Heap.lt_size ho) hCle) (by rw [z]; exact Nat.lt_irrefl _)
    · have := (I2.pin z hz).1
      exact absurd (Nat.lt_of_lt_of_le (Heap.lt_size this) hCle) (by rw [e]; exact Nat.lt_irrefl _)
  have loop : codeAny (model X.prog X.w) X.A (.compLoop (.ListComp elt [⟨tg,iter,ifs,0⟩] scope pos) 0 (.ref it) (.ref s2.heap.objs.size) (compEnvC scope cl HH.objs.size X.env)) (RR (.ref s2.heap.objs.size) HH.objs.size)
      { s2 with heap := h₁,toks := s2.toks + ([] : List (Str × Value)).length } := by
    refine zkT (fun n s' => ∃ (i : Nat) (σ' : L2.St) (H' : Hp) (G' : GH) (ws : List V) (done rest : List D),Inv XX [] σ' H' s'∧SI XX ⟨G2,H2,fun _ => none⟩ (capM nl cap m) (capR nl cap r) G' σ' H'∧tn i s'.heap∧(∀ b∈fp,H' b = none)∧Grow X.K G2 H2 G' H' ∧
        H' s2.heap.objs.size = some (.lst ws)∧G' s2.heap.objs.size = none∧RO X.K H2 s2.heap.objs.size G' H' ws done∧zcm ft q fe (capR nl cap r) (ds.drop i) = .ok rest∧vs = done++rest∧done.length≤i∧i≤ds.length∧n = ds.length - i) ?_ ds.length
      ⟨0,_,_,G2,[],[],vs,IC,SC,hst₁,fun b hb => ?_,w0,zao,hG2p,⟨.nil,List.nodup_nil⟩,hres,rfl,Nat.le_refl _,Nat.zero_le _,rfl⟩
    rotate_left
    · rw [zan (below b (hflt b hb).2).2]; exact (hf b hb).1
    rintro n s3 ⟨i,σ3,H3,G3,ws,done,rest,I3,S3,st3,fr3,w3,hp3,hg3,rs3,hr3,hv3,hd3,hi3,rfl⟩
    have weaken : ∀ {α : Type} {t : Sem α} {Q : α→Shared→Prop} {s' : Shared} {E' : Value→Shared→Prop},wpAny (model XX.prog XX.w) XX.A t Q XX.xe s'→wpAny (model X.prog X.w) X.A t Q E' s' := fun h => by
      rw [eP,eW,eA,eX] at h
      exact wpAny_mono h (fun _ _ z => z) fun _ _ z => z.elim
    by_cases hlt : i < ds.length
    · have hd : ds.drop i = ds[i]::ds.drop (i + 1) := List.drop_eq_getElem_cons hlt
      rw [hd] at hr3
      unfold zcm at hr3
      have it3 := T.item XX eP eW eK eC i [] s3 σ3 H3 (notedBy (model X.prog X.w) X.A (compEnvC scope cl HH.objs.size X.env) fun e s' => RR (.ref s2.heap.objs.size) HH.objs.size (.error e) s') I3 (hfX H3 fr3) st3 (Y.go G3 H3 i w3 hlt)
      rw [eA] at it3
      refine thn it3 fun rr s4 ⟨u,hr,h4⟩ => ?_
      subst hr
      refine thn h4 fun _ s5 ⟨x,H5,I5,r5,y5,st5,fr5⟩ => ?_
      obtain ⟨G5,w5,rv5⟩ := Y.yld G3 H3 i x H5 ds[i] w3 y5 (List.getElem?_eq_getElem hlt)
      have w25 := w3.trans w5
      cases eft : ft ds[i] (capR nl cap r) with
      | none => rw [eft] at hr3; cases hr3
      | some r1 =>
        rw [eft] at hr3
        simp only [opt_some,bind_ok] at hr3
        have I5' := I5.pinned (hfX H5 fr5) (T.obj _ _ st5)
        have S5 : SI XX ⟨G2,H2,fun _ => none⟩ (capM nl cap m) (capR nl cap r) G5 σ3 H5 := S3.grow (by rw [eK]; exact w5)
        have rv5' : RG XX.K G5 x ds[i] := by rw [eK]; exact rv5
        have as5 := hg' _ s5 σ3 H5 x u (fun σ6 H6 => H6 = H5∧SI XX ⟨G2,H2,fun _ => none⟩ (capM nl cap m) r1 G5 σ6 H5) I5' r5 ⟨capR nl cap r,G5,ds[i],S5,rv5',r1,eft,fun σ6 si6 => ⟨rfl,si6⟩⟩
        rw [eE] at as5
        refine thn (weaken as5) fun _ s6 ⟨σ6,H6,I6,e6,S6⟩ => ?_
        subst e6
        obtain ⟨fl1,fl2⟩ := hft _ _ _ eft
        cases eq1 : q r1 with
        | stuck => rw [eq1] at hr3; cases hr3
        | exc xx => rw [eq1] at hr3; cases hr3
        | ok b1 =>
          rw [eq1] at hr3
          simp only [bind_ok] at hr3
          have te6 := hq' _ s6 σ6 H6 (fun b H7 => b = b1∧∃ G7,Grow X.K G5 H6 G7 H7) I6 ⟨r1,G5,S6,by rw [eq1]; exact fun G7 H7 w7 => ⟨rfl,G7,by rw [eK] at w7; exact w7⟩⟩
          rw [eE] at te6
          refine thn (weaken te6) fun b s7 ⟨H7,I7,eb,G7,w7⟩ => ?_
          subst eb
          have S7 : SI XX ⟨G2,H2,fun _ => none⟩ (capM nl cap m) r1 G7 σ6 H7 := S6.grow (by rw [eK]; exact w7)
          have w27 := w25.trans w7
          have hp7 : H7 s2.heap.objs.size = some (.lst ws) := w7.he _ _ (w5.he _ _ hp3)
          have hg7 : G7 s2.heap.objs.size = none := by
            rw [w7.gf _ (by rw [w5.he _ _ hp3]; simp),w5.gf _ (by rw [hp3]; simp)]; exact hg3
          have back : ∀ {σ8 : L2.St} {H8 : Hp} {G8 : GH} {s8 : Shared},Inv XX ([]++zfO fp s5.heap) σ8 H8 s8→Inv XX [] σ8 H8 s8∧tn (i + 1) s8.heap∧∀ b∈fp,H8 b = none := fun {σ8 H8 G8 s8} I8 => by
            refine ⟨I8.unpinned,T.keep _ _ _ st5 fun b hb o e => (I8.pin (b,o) (List.mem_append_right _ (List.mem_append_right _ (zcd hb e)))).1,fun b hb => ?_⟩
            obtain ⟨o,e,_⟩ := T.obj _ _ st5 b hb
            exact (I8.pin (b,o) (List.mem_append_right _ (List.mem_append_right _ (zcd hb e)))).2.1
          have less : ∀ {σ8 : L2.St} {H8 : Hp} {G8 : GH},SI XX ⟨G2,H2,fun _ => none⟩ (capM nl cap m) r1 G8 σ8 H8→SI XX ⟨G2,H2,fun _ => none⟩ (capM nl cap m) (capR nl cap r) G8 σ8 H8 := fun h => h.less fl1.symm fun j d hj => by
            by_cases hjn : j < nl
            · exact absurd hj (zhh hjn d)
            · rw [fl2 j (by omega)]; exact hj
          cases b with
          | false =>
            rw [if_neg Bool.false_ne_true] at hr3 ⊢
            obtain ⟨I7',t7,f7⟩ := back (G8 := G7) I7
            exact ⟨ds.length - (i + 1),by omega,i + 1,σ6,H7,G7,ws,done,rest,I7',less S7,t7,f7,w27,hp7,hg7,rs3.grow (w5.trans w7),hr3,hv3,by omega,hlt,rfl⟩
          | true =>
            rw [if_pos rfl] at hr3 ⊢
            cases ee1 : fe r1 with
            | stuck => rw [ee1] at hr3; cases hr3
            | exc xx => rw [ee1] at hr3; cases hr3
            | ok d1 =>
              rw [ee1] at hr3
              simp only [bind_ok] at hr3
              cases er : zcm ft q fe (capR nl cap r) (ds.drop (i + 1)) with
              | stuck => rw [er] at hr3; cases hr3
              | exc xx => rw [er] at hr3; cases hr3
              | ok rest' =>
                rw [er] at hr3
                simp only [bind_ok] at hr3
                cases hr3
                have el7 := he' _ s7 σ6 H7 (fun v H8 => ∃ a8 G8,v = V.ref a8∧Grow X.K G7 H7 G8 H8∧H7 a8 = none∧Own X.K G8 H8 a8 d1) I7 ⟨r1,G7,S7,by rw [ee1]; exact fun a8 G8 H8 w8 hn ho => ⟨a8,G8,rfl,by rw [eK] at w8; exact w8,hn,by rw [eK] at ho; exact ho⟩⟩
                rw [eE] at el7
                refine thn (weaken el7) fun u8 s8 ⟨v8,H8,I8,r8,a8,G8,ev8,w8,hn8,ho8⟩ => ?_
                have hp8 : H8 s2.heap.objs.size = some (.lst ws) := w8.he _ _ hp7
                have hg8 : G8 s2.heap.objs.size = none := by rw [w8.gf _ (by rw [hp7]; simp)]; exact hg7
                have S8 : SI XX ⟨G2,H2,fun _ => none⟩ (capM nl cap m) r1 G8 σ6 H8 := S7.grow (by rw [eK]; exact w8)
                have hlen := Paired.length rs3.1
                have ap8 := zed (X := XX) _ s8 σ6 H8 (.ref s2.heap.objs.size) [v8] (.ref s2.heap.objs.size) [u8] (fun v H9 => H9 = upd H8 s2.heap.objs.size (.lst (ws++[v8]))) I8 rfl (.cons r8 .nil) ⟨_,ws,v8,rfl,rfl,hp8,by omega,rfl⟩
                refine thn (weaken ap8) fun u9 s9 ⟨v9,H9,I9,r9,e9⟩ => ?_
                subst e9
                obtain ⟨I9',t9,f9⟩ := back (G8 := G8) I9
                have rsn : RO X.K H2 s2.heap.objs.size G8 (upd H8 s2.heap.objs.size (.lst (ws++[v8]))) (ws++[v8]) (done++[d1]) := by
                  have := ((rs3.grow (w5.trans w7)).add w8 hn8 (w27.back hn8) (by rintro rfl; rw [hp7] at hn8; cases hn8) ho8).upd (o := .lst (ws++[v8]))
                  rw [← ev8] at this
                  exact this
                have w28 := w27.trans w8
                refine ⟨ds.length - (i + 1),by omega,i + 1,σ6,_,G8,ws++[v8],done++[d1],rest',I9',less (S8.other hg8 hp2 zkU _),t9,f9,?_,zao,hg8,rsn,er,by rw [hv3,List.append_assoc]; rfl,by rw [List.length_append,List.length_singleton]; omega,hlt,rfl⟩
                refine ⟨fun b e hb => (w28.ok b e hb).mono (fun _ _ z => z) fun o z => ?_,fun b o hb => ?_,w28.ge,w28.gf⟩
                · rw [zan (by rintro rfl; rw [hg8] at hb; cases hb)]; exact z
                · rw [zan (by rintro rfl; rw [hp2] at hb; cases hb)]; exact w28.he b o hb
    · have e : i = ds.length := by omega
      subst e
      rw [List.drop_length] at hr3
      cases hr3
      rw [List.append_nil] at hv3
      subst hv3
      have dn := T.done XX eP eW eK eC ds.length [] s3 σ3 H3 (notedBy (model X.prog X.w) X.A (compEnvC scope cl HH.objs.size X.env) fun e s' => RR (.ref s2.heap.objs.size) HH.objs.size (.error e) s') I3 (hfX H3 fr3) st3 (Y.stop G3 H3 w3)
      rw [eA] at dn
      refine thn dn fun rr s4 ⟨hr,I4⟩ => ?_
      subst hr
      exact fin' I4 w3 hp3 hg3 rs3
  exact codeAny_compStart_list loop (T.self X.A 0 _ _ _ hst₁ loop)
end
end DL
end
section
namespace DL
open PySem PySem.Spec PyProof.Rows L2
noncomputable def zeg : List D→Option (List (List D))
  | [] => some []
  | .lst ds::r => (zeg r).map (ds::·)
  | _ => none
theorem zkZ {vs : List D} {w : List (List D)} (h : zeg vs = some w) : vs = w.map D.lst := by
  induction vs generalizing w with
  | nil => cases h; rfl
  | cons v vs ih =>
    cases v with
    | lst ds =>
      have h' : (zeg vs).map (ds::·) = some w := h
      cases e : zeg vs with
      | none => rw [e] at h'; cases h'
      | some w' => rw [e] at h'; cases h'; rw [ih e]; rfl
    | _ => cases h
theorem zi9 (w : List (List D)) : zeg (w.map D.lst) = some w := by
  induction w with
  | nil => rfl
  | cons a w ih => show (zeg (w.map D.lst)).map (a::·) = _; rw [ih]; rfl
theorem znG {K : PySem.W.Frag} {H2 : Hp} {p : Addr} {G : GH} {H : Hp} {w : List (List D)} {ws : List V} (h : Paired (fun v d => ∃ b,v = V.ref b∧H2 b = none∧b≠p∧Own K G H b d) ws (w.map D.lst)) :
    ∃ as,ws = as.map V.ref∧Paired (RowR K G H) as w∧∀ b∈as,H2 b = none∧b≠p∧G b = none := by
  induction w generalizing ws with
  | nil => cases h; exact ⟨[],rfl,.nil,fun _ z => nomatch z⟩
  | cons ds w ih =>
    cases h with
    | cons r t =>
      obtain ⟨b,rfl,h1,h2,h3⟩ := r
      obtain ⟨as,rfl,q1,q2⟩ := ih t
      refine ⟨b::as,rfl,.cons ?_ q1,fun c hc => ?_⟩
      · cases h3.ob with
        | lst e rs => exact ⟨_,e,rs⟩
      · rcases List.mem_cons.mp hc with rfl | hc
        · exact ⟨h1,h2,h3.un⟩
        · exact q2 c hc
theorem zpy {K : PySem.W.Frag} {H2 : Hp} {p : Addr} {G : GH} {H : Hp} {w : List (List D)} {ws : List V} (h : RO K H2 p G H ws (w.map D.lst)) (hp : H p = some (.lst ws)) (hg : G p = none) (hn : H2 p = none) :
    ∃ as,LRw K G H p as w∧∀ b∈p::as,H2 b = none := by
  obtain ⟨as,rfl,q1,q2⟩ := znG h.1
  refine ⟨as,⟨hp,List.nodup_cons.mpr ⟨fun z => (q2 p z).2.1 rfl,List.Pairwise.of_map V.ref (fun a b h z => h (by rw [z])) h.2⟩,fun b hb => ?_,q1⟩,fun b hb => ?_⟩
  · rcases List.mem_cons.mp hb with rfl | hb
    · exact hg
    · exact (q2 b hb).2.2
  · rcases List.mem_cons.mp hb with rfl | hb
    · exact hn
    · exact (q2 b hb).1
noncomputable def zjI (i : Nat) (f : FE) : Rho→Option (Rho × List (List D)) := fun r => match f r with
  | .ok (.lst vs) => (zeg vs).map fun w => (r.set i none,w)
  | _ => none
section
variable {X : Cx} {g : GE} {m mb : List Md} {scope : Scope} {N' : List Str} {nl : Nat} {cap : List Nat} {elt tg iter : Expr} {ifs : List Expr} {pos pos' spos : Pos} {fi : FI} {ft : FT} {q : FQ} {fe : FE} {ro : Bool}
theorem ziM (i : Nat) {y : Str} (hlt : i < m.length) (hN : X.N.Nodup) (hcalm : X.calm = true) (hy : X.N[i]? = some y) (hyl : X.env.scope.names.lookup y = some .local) (sc : CompSc X scope N' nl cap) (hi : SItC X g m tg iter fi) (hg : ∀ s0 H0 cl C fp g',SG (cxC X s0 H0 N' scope cl C fp) g' (capM nl cap m) tg ft (capM nl cap m)) (hft : FtOk ft nl)
    (hq : ∀ s0 H0 cl C fp g',SQs (cxC X s0 H0 N' scope cl C fp) g' (capM nl cap m) ifs q) (he : ∀ s0 H0 cl C fp g',SO (cxC X s0 H0 N' scope cl C fp) g' (capM nl cap m) elt fe)
    (hsw : swapsWith (.ListComp elt [⟨tg,iter,ifs,0⟩] scope pos) (some (.Name y pos')) spos.line X.env = pure true := by rfl) (hs : ∀ x,foldedSetIterable iter X.env x = pure x := by intro _; rfl) :
    PS X (.Assign [.Name y pos'] (.ListComp elt [⟨tg,iter,ifs,0⟩] scope pos) spos) (tNew X g i m (m.set i .bw) (zjI i (zbp nl cap fi ft q fe))) := by
  intro pins s σ H D0 I h
  obtain ⟨r,G,si,r',w',ef,k⟩ := h
  obtain ⟨cl,hcl,h1,h2⟩ := sc.clo (pins := pins) (σ := σ) (H := H) (s := s) I.ok
  have k1 : fin (fi r) (fun ds => ∃ vs,ds.length≤sizeLine∧zcm ft q fe (capR nl cap r) ds = .ok vs∧vs = w'.map D.lst∧r' = r.set i none) (XW X σ G H) := by
    unfold zjI at ef
    cases e : zbp nl cap fi ft q fe r with
    | ok d =>
      rw [e] at ef
      cases d with
      | lst vs =>
        have ef' : (zeg vs).map (fun w => (r.set i none,w)) = some (r',w') := ef
        cases ea : zeg vs with
        | none => rw [ea] at ef'; cases ef'
        | some w1 =>
          rw [ea] at ef'
          cases ef'
          obtain ⟨ds,vs',z1,z2,z3,z4⟩ := zl9 e
          cases z4
          rw [z1]
          exact ⟨vs,z2,z3,zkZ ea,rfl⟩
      | _ => cases ef
    | exc x => rw [e] at ef; cases ef
    | stuck => rw [e] at ef; cases ef
  rw [exec_Assign_Name_used _ _ _ _ hsw]
  refine wpAny_bind (wpAny_standAt (wpAny_bind ?_))
  show wpAny _ X.A (do let _ ← comprehension (.ListComp elt [⟨tg,iter,ifs,0⟩] scope pos) scope X.env _ (newList []) false (eval iter X.env) (some (assign (.Name y pos') X.env))) _ _ s
  refine wpAny_bind (wpAny_mono (wpAny_comprehension_free (use := some (assign (.Name y pos') X.env)) (Q := fun _ s' => SP X pins D0 .next s') rfl hs hcl sc.kind sc.names (thn (hi pins s σ H (fun J H' => ∃ G' ds vs,Grow X.K G H G' H'∧YieldsC X.K J ds G' H'∧ds.length≤sizeLine∧zcm ft q fe (capR nl cap r) ds = .ok vs ∧
    vs = w'.map D.lst∧r' = r.set i none) I ⟨r,G,si,zag k1 fun ds ⟨vs,z1,z2,z3,z4⟩ J G' H' w y => ⟨G',ds,vs,w,y,z1,z2,z3,z4⟩⟩) fun v s1 hv => thn hv fun itv s2 hv2 => ?_)) (fun _ s' hq => wpAny_pure (wpAny_pure hq)) fun _ _ e => e)
  obtain ⟨it,fp,tn,J,H2,rfl,I2,T,st,hf,G2,ds,vs,w2,Y,hsz,hres,hvs,hr'⟩ := hv2
  refine zi6 (RR := fun acc C => compPost (model X.prog X.w) X.A X.xe (some (assign (.Name y pos') X.env)) (fun _ s' => SP X pins D0 .next s') acc C) hN hcalm sc h1 h2 I2 (si.grow w2) T st hf Y hsz (fun C => hg _ _ _ _ _ _) hft (fun C => hq _ _ _ _ _ _) (fun C => he _ _ _ _ _ _) hres ?_
  intro p C s' H' G' I' hns hC1 hC2 hC3 hC4 hC5 w' hp ho
  obtain ⟨mm,hn⟩ := hns
  show wpAny _ X.A (assign (.Name y pos') X.env (.ref p)) _ _ s'
  refine wpAny_assign_Name (ze9 I' hN hy (.inl hyl) (v := .ref p) rfl (fun s'' I'' ⟨a,hsb,ha⟩ => ?_) (.inr hyl))
  have hCa : C≠a := by
    rcases ha with z | z
    · rw [z]; exact hC2
    · exact (hC4 y a z).symm
  refine ⟨mm,hn.sameBut hsb hCa,fun h' hsb' => ?_⟩
  refine ⟨_,H',I''.turned (it := C) (t' := s''.toks) (fun b o hb e => hsb'.extBut b o hb e) hC1 hC2 (.inr hC3) hC4 hC5,?_⟩
  obtain ⟨ws,o1,o2,o3⟩ := ho
  subst hvs
  obtain ⟨as,R,fr⟩ := zpy o3 o1 o2 hp
  subst hr'
  exact k _ G' H' (w2.trans w').ge (si.new2 (w2.trans w') hlt R fun b hb => w2.back (fr b hb))
end
end DL
end
section
namespace DL
open PySem PySem.Spec PyProof.Rows L2
theorem zlH {α β : Type} {F F' : α→β→Prop} {l : List α} {w : List β} (h : Paired F l w) {j : Nat} {a : α} {y : β} (nd : l.Nodup) (ha : l[j]? = some a) (hy : F' a y) (ho : ∀ b x,b≠a→F b x→F' b x) : Paired F' l (w.set j y) := by
  induction h generalizing j with
  | nil => cases ha
  | @cons b x l w r t ih =>
    rw [List.nodup_cons] at nd
    cases j with
    | zero =>
      cases ha
      exact .cons hy (zge t fun c hc x q => ho c x (by rintro rfl; exact nd.1 hc) q)
    | succ j =>
      have ha' : l[j]? = some a := by simpa using ha
      refine .cons (ho b x ?_ r) (ih nd.2 ha')
      rintro rfl
      exact nd.1 (List.mem_of_getElem? ha')
theorem zhK {m : List Md} {i : Nat} (h : ((List.range m.length).all fun j => j == i || decide (m[j]?≠some Md.bw)) = true) : ∀ j,j≠i→m[j]?≠some .bw := fun j hj e => by
  have hlt : j < m.length := (List.getElem?_eq_some_iff.mp e).1
  have := List.all_eq_true.mp h j (List.mem_range.mpr hlt)
  rw [Bool.or_eq_true,beq_iff_eq,decide_eq_true_iff] at this
  exact this.elim hj fun z => z e
noncomputable def zmA (sc osc : Scope) : Scope := { sc with names := sc.names.map fun (n,k) => if (k == .free && osc.kind == .function && osc.names.lookup n == some .cell) then (n,.cell) else (n,k) }
theorem zi7 {X0 : Cx} {s0 : Shared} {H0 : Hp} {N0 : List Str} {sc0 : Scope} {cl : List (Str × Addr)} {C : Addr} {fp : List Addr} {osc : Scope} {ON : List Str} {sc : Scope} {N' : List Str} {nl : Nat} {cap : List Nat} (h1 : X0.env.scope = osc) (h2 : N0 = ON) (h : zh0 (zmA sc0 osc) ON sc N' nl cap = true) : CompSc (cxC X0 s0 H0 N0 sc0 cl C fp) sc N' nl cap :=
  zaV (osc := zmA sc0 osc) (ON := ON) (by subst h1; rfl) h2 h
section
variable {X : Cx} {g : GE} {i : Nat} {m m' m1 : List Md} {r r' : Rho} {w : List (List D)} {G G' : GH} {σ σ' : L2.St} {H H' : Hp}
theorem SI.row {p : Addr} {as : List Addr} (R : LRw X.K G H p as w) (si : SI X (zcl g H (p::as) i p) m r G σ H) (hm : m[i]? = some .bw) (hb : ∀ j,j≠i→m[j]?≠some .bw) {b : Addr} (hbm : b∈p::as) (o : HO) : SI X (zcl g (upd H b o) (p::as) i p) m r G σ (upd H b o) := by
  have un := R.un b hbm
  have h0' : ∀ c,c∉p::as→(zcl g H (p::as) i p).h0 c = g.h0 c := fun c hc => by show (if c∈p::as then H c else g.h0 c) = _; rw [if_neg hc]
  have h0i : ∀ c,c∈p::as→(zcl g H (p::as) i p).h0 c = H c := fun c hc => by show (if c∈p::as then H c else g.h0 c) = _; rw [if_pos hc]
  have k0' : ∀ c,c∉p::as→(zcl g (upd H b o) (p::as) i p).h0 c = g.h0 c := fun c hc => by show (if c∈p::as then _ else g.h0 c) = _; rw [if_neg hc]
  have k0i : ∀ c,c∈p::as→(zcl g (upd H b o) (p::as) i p).h0 c = upd H b o c := fun c hc => by show (if c∈p::as then upd H b o c else g.h0 c) = _; rw [if_pos hc]
  refine ⟨fun c d e => ?_,fun c u e => ?_,si.ge,fun c h => ?_,si.lm,si.lr,si.sh,fun j d h1 h2 => ?_,fun j d h1 h2 => ?_,si.dis,si.lk⟩
  · have hc : c≠b := by rintro rfl; rw [un] at e; cases e
    exact (si.gok c d e).mono (fun _ _ z => z) fun u z => by rw [zan hc]; exact z
  · by_cases hc : c∈p::as
    · rw [k0i c hc] at e; exact e
    · rw [k0' c hc] at e
      have hcb : c≠b := by rintro rfl; exact hc hbm
      rw [zan hcb]
      exact si.old c u (by rw [h0' c hc]; exact e)
  · by_cases hc : c∈p::as
    · exact si.gf c (by rw [h0i c hc]; exact R.isS hc)
    · rw [k0' c hc] at h
      exact si.gf c (by rw [h0' c hc]; exact h)
  · obtain ⟨a,q1,q2,q3⟩ := si.ow j d h1 h2
    have ha : a∉p::as := fun z => by rw [h0i a z] at q3; exact R.isS z q3
    have hab : a≠b := by rintro rfl; exact ha hbm
    rw [h0' a ha] at q3
    exact ⟨a,q1,⟨q2.un,q2.ob.mono (fun _ _ z => z) fun u z => by rw [zan hab]; exact z⟩,by rw [k0' a ha]; exact q3⟩
  · by_cases hj : j = i
    · subst hj
      have := (si.lk j (some (V.ref p),none) (by show (if j = j then _ else _) = _; rw [if_pos rfl]) hm).2 d h1
      cases this
    · exact absurd h2 (hb j hj)
variable {ro : Bool} {mb : List Md} {pos p1 p2 p3 p4 p5 p6 p7 p8 p9 p10 p11 : Pos} {x xa xb : Str} {jc : Nat}
end
end DL
end
section
namespace DL
open PySem PySem.Spec PyProof.Rows L2
noncomputable def lessA (H : Hp) (a : Addr) : Hp := fun b => if b = a then none else H b
theorem zlV {H : Hp} {a b : Addr} (h : b≠a) : lessA H a b = H b := if_neg h
theorem Grow.lessA {K : PySem.W.Frag} {G G' G2 : GH} {H H' H2 : Hp} {a : Addr} (w : Grow K G H G' H') (ha : H a = none) (w2 : Grow K G' (lessA H' a) G2 H2) : Grow K G H G2 H2 := by
  have ne : ∀ b,H b≠none→b≠a := fun b h => by rintro rfl; exact h ha
  have he : ∀ b o,H b = some o→DL.lessA H' a b = some o := fun b o e => by rw [zlV (ne b (by rw [e]; simp))]; exact w.he b o e
  refine ⟨w2.ok,fun b o e => w2.he b o (he b o e),fun b d e => w2.ge b d (w.ge b d e),fun b h => ?_⟩
  rw [w2.gf b ?_,w.gf b h]
  cases e : H b with
  | none => exact absurd e h
  | some o => rw [he b o e]; simp
noncomputable def spV (K : PySem.W.Frag) (ro : Bool) (ms : List Md) (F : List D→Res D) : Sp := fun vs H Q _ => ∃ G us a ds d,GOk K G H∧vs = us++[V.ref a]∧ArgsOk K G H ms us ds∧Own K G H a d ∧
  fin (F (ds++[d])) (fun d' => ∀ v G' H',Grow K G (lessA H a) G' H'→RV ro K (lessA H a) G' H' v d'→Q v H') fun _ => False
section
variable {K : PySem.W.Frag} {G : GH} {H : Hp}
end
section
variable {P : Program} {w : World} {K : PySem.W.Frag} {mg : Str → Option Value} {base : Heap}
structure CalleeV (P : Program) (w : World) (K : PySem.W.Frag) (mg : Str→Option Value) (base : Heap) (x : Str) (ps : List Str) (k : Nat) (ro : Bool) (ms : List Md) (F : List D→Res D) : Prop where
  ex : ∃ f fd,mg x = some (.ref f)∧PySem.W.keepIn K (.ref f) = true∧zfK K fd ps []∧FnOk P w K mg base CX0 k f fd ps (spV K ro ms F)
end
section
variable {X : Cx} {g : GE} {m ms : List Md} {e : Expr} {es : List Expr} {f : FE} {fl : Rho → Res (List D × D)} {x : Str} {ps : List Str} {k : Nat} {F : List D → Res D} {p pos : Pos}
end
end DL
end
section
namespace DL
open PySem PySem.Spec PyProof.Rows L2
section
variable {X : Cx} {g : GE} {i : Nat} {m m' m1 : List Md} {r r' : Rho} {w : List (List D)} {G G' : GH} {σ σ' : L2.St} {H H' : Hp} {st : Stmt} {sts sts' : List Stmt} {f1 f2 : FS2} {c e ie : Expr} {es : List Expr} {q : FQ} {f fi : FE} {fl : Rho → Res (List D)} {pos p1 p2 p3 apos cpos spos : Pos} {x y : Str}
end
end DL
end
section
namespace DL
open PySem PySem.Spec PyProof.Rows L2
end DL
end
section
namespace DL
open PySem PySem.Spec PyProof.Rows L2
noncomputable def insI (x : Int) : List Int→List Int
  | [] => [x]
  | y::l => if x≤y then x::y::l else y::insI x l
noncomputable def srtI : List Int→List Int
  | [] => []
  | x::l => insI x (srtI l)
theorem zfo (x : Int) : ∀ l : List Int,(insI x l).Perm (x::l)
  | [] => .refl _
  | y::l => by
    unfold insI
    by_cases h : x≤y
    · rw [if_pos h]
    · rw [if_neg h]; exact ((zfo x l).cons y).trans (.swap x y l)
theorem zff : ∀ l : List Int,(srtI l).Perm l
  | [] => .refl _
  | x::l => (zfo x (srtI l)).trans ((zff l).cons x)
theorem zkt (x : Int) : ∀ l : List Int,l.Pairwise (·≤·)→(insI x l).Pairwise (·≤·)
  | [],_ => by unfold insI; simp
  | y::l,h => by
    rw [List.pairwise_cons] at h
    unfold insI
    by_cases hx : x≤y
    · rw [if_pos hx,List.pairwise_cons,List.pairwise_cons]
      refine ⟨fun z hz => ?_,h⟩
      rcases List.mem_cons.mp hz with rfl | hz
      · exact hx
      · exact Int.le_trans hx (h.1 z hz)
    · rw [if_neg hx,List.pairwise_cons]
      refine ⟨fun z hz => ?_,zkt x l h.2⟩
      rcases List.mem_cons.mp ((zfo x l).mem_iff.mp hz) with rfl | hz
      · omega
      · exact h.1 z hz
theorem zhv : ∀ l : List Int,(srtI l).Pairwise (·≤·)
  | [] => .nil
  | x::l => zkt x _ (zhv l)
theorem zni : ∀ {a b : List Int},a.Perm b→a.Pairwise (·≤·)→b.Pairwise (·≤·)→a = b
  | [],b,p,_,_ => (List.nil_perm.mp p).symm
  | x::a,[],p,_,_ => absurd (List.perm_nil.mp p) (by simp)
  | x::a,y::b,p,ha,hb => by
    rw [List.pairwise_cons] at ha hb
    have h1 : y≤x := by
      rcases List.mem_cons.mp (p.mem_iff.mp List.mem_cons_self) with e | e
      · omega
      · exact hb.1 x e
    have h2 : x≤y := by
      rcases List.mem_cons.mp (p.mem_iff.mpr List.mem_cons_self) with e | e
      · omega
      · exact ha.1 y e
    have e : x = y := by omega
    subst e
    rw [zni (List.Perm.cons_inv p) ha.2 hb.2]
section
variable {X : Cx} {pins : List (Addr × Obj)} {σ : L2.St} {H : Hp} {s : Shared}
end
section
variable {X : Cx} {g : GE} {m : List Md} {a b : Expr} {fl : Rho → Res (List D)} {fa fb : FE} {pos p : Pos}
end
end DL
end
section
namespace DL
open PySem PySem.Spec PyProof.Rows L2
inductive Cln : D→Prop where
  | non : Cln .non
  | bl (b : Bool) : Cln (.bl b)
  | int (i : Int) : Cln (.int i)
  | str (x : Str) : Cln (.str x)
  | tup {ds : List D} : (∀ d∈ds,Cln d)→Cln (.tup ds)
theorem Cln.lst {ds : List D} (h : Cln (.lst ds)) : False := nomatch h
theorem Cln.dic {ds : List (Key × D)} (h : Cln (.dic ds)) : False := nomatch h
theorem Cln.get {ds : List D} (h : Cln (.tup ds)) : ∀ d∈ds,Cln d := by
  cases h with
  | tup h => exact h
theorem cln2 (a b : Int) : Cln (.tup [.int a,.int b]) := .tup fun d hd => by
  rcases List.mem_cons.mp hd with rfl | hd
  · exact .int a
  · rw [List.mem_singleton.mp hd]; exact .int b
open Classical in
theorem zoU {K : PySem.W.Frag} {G G1 G' : GH} {H H' : Hp} (gk : GOk K G H) (le : Gle G G1) (hx : ∀ b d,G b = none→G1 b = some d→¬ Cln d) (w : Grow K G1 H G' H') :
    ∃ G2,Grow K G H G2 H'∧∀ v d,Cln d→RG K G' v d→RG K G2 v d := by
  have key : ∀ v d,Cln d→RG K G' v d→RG K (fun b => if G b≠none then G b else if H b≠none then none else if ∃ d,G' b = some d∧Cln d then G' b else none) v d := fun v d hc h => by
    cases h with
    | scl s => exact .scl s
    | kc k => exact .kc k
    | @ref a _ e =>
      refine .ref ?_
      show (if G a≠none then G a else _) = some d
      by_cases h1 : G a = none
      · rw [if_neg (fun z => z h1)]
        by_cases h2 : H a = none
        · rw [if_neg (fun z => z h2),if_pos ⟨d,e,hc⟩]; exact e
        · rw [w.gf a h2] at e
          exact absurd hc (hx a d h1 e)
      · rw [if_pos h1]
        cases q : G a with
        | none => exact absurd q h1
        | some d' => rw [w.ge a d' (le a d' q)] at e; exact e
  have keys : ∀ vs ds,(∀ d∈ds,Cln d)→RGs K G' vs ds→RGs K (fun b => if G b≠none then G b else if H b≠none then none else if ∃ d,G' b = some d∧Cln d then G' b else none) vs ds := fun vs ds hc h => by
    induction h with
    | nil => exact .nil
    | cons r _ ih => exact .cons (key _ _ (hc _ List.mem_cons_self) r) (ih fun d hd => hc d (List.mem_cons_of_mem _ hd))
  have ge : Gle G fun b => if G b≠none then G b else if H b≠none then none else if ∃ d,G' b = some d∧Cln d then G' b else none := fun a d e => by
    show (if G a≠none then G a else _) = some d
    rw [if_pos (by rw [e]; simp)]; exact e
  refine ⟨_,⟨fun a d e => ?_,w.he,ge,fun a h => ?_⟩,key⟩
  · have e' : (if G a≠none then G a else if H a≠none then none else if ∃ d,G' a = some d∧Cln d then G' a else none) = some d := e
    by_cases h1 : G a = none
    · rw [if_neg (fun z => z h1)] at e'
      by_cases h2 : H a = none
      · rw [if_neg (fun z => z h2)] at e'
        by_cases h3 : ∃ d,G' a = some d∧Cln d
        · rw [if_pos h3] at e'
          obtain ⟨d',q1,q2⟩ := h3
          rw [q1] at e'; cases e'
          have ob := w.ok a d q1
          cases ob with
          | lst _ _ => exact q2.lst.elim
          | dic _ _ => exact q2.dic.elim
          | tup r s => exact .tup r (keys _ _ q2.get s)
        · rw [if_neg h3] at e'; cases e'
      · rw [if_pos h2] at e'; cases e'
    · rw [if_pos h1] at e'
      exact (gk a d e').mono ge fun o z => w.he a o z
  · show (if G a≠none then G a else _) = G a
    by_cases h1 : G a = none
    · rw [if_neg (fun z => z h1),if_pos h,h1]
    · rw [if_pos h1]
section
variable {X : Cx} {g : GE} {i : Nat} {m m' m1 : List Md} {r r' : Rho} {w : List (List D)} {G G' : GH} {σ σ' : L2.St} {H H' : Hp} {e : Expr} {f : FE} {st : Stmt} {pos p1 p2 p3 p4 p5 p6 p7 p8 p9 p10 : Pos} {x xa xb y : Str}
theorem SI2.after (s : SI2 X g i m r w G σ H) (wg : Grow X.K G H G' H') : SI2 X g i m r w G' σ H' := by
  obtain ⟨p,as,R,h0,si,hm⟩ := s
  exact zdw R h0 si wg.ge (si.grow wg) hm
noncomputable abbrev lent (i : Nat) (r : Rho) (w : List (List D)) : Rho := r.set i (some (.lst (w.map D.lst)))
noncomputable def tRo (X : Cx) (g : GE) (i : Nat) (m : List Md) (f : FE) : TE := fun σ H Q => ∃ r w G,SI2 X g i m r w G σ H∧∃ d,f (lent i r w) = .ok d∧Cln d∧∀ v G' H',Grow X.K G H G' H'→RG X.K G' v d→SI2 X g i m r w G' σ H'→Q v H'
theorem zjS (hb : ∀ j,j≠i→m[j]?≠some .bw) (h : ∀ g',SE X g' (m.set i .sh) e f) : PE X e (tRo X g i m f) := by
  refine PE.imp (h g) fun σ H Q ⟨r,w,G,s,d,e,hc,k⟩ => ?_
  have gk : GOk X.K G H := by obtain ⟨p,as,R,h0,si,hm⟩ := s; exact si.gok
  obtain ⟨G1,le,hx,si⟩ := s.frz hb
  refine ⟨_,G1,si,?_⟩
  rw [e]
  intro v G' H' wg rv
  obtain ⟨G2,w2,q⟩ := zoU gk le (fun b d h1 h2 hc => by obtain ⟨ds,rfl⟩ := hx b d h1 h2; exact hc.lst) wg
  exact k v G2 H' w2 (q v d hc rv) (s.after w2)
open Classical in
noncomputable def zhy (i j : Nat) (f : FE) : FS2 := fun r w => match f (lent i r w) with
  | .ok d => if Cln d then some (r.set j (some d),w) else none
  | _ => none
theorem zlh {j : Nat} {w' : List (List D)} (h : zhy i j f r w = some (r',w')) : ∃ d,f (lent i r w) = .ok d∧Cln d∧r' = r.set j (some d)∧w' = w := by
  unfold zhy at h
  cases e : f (lent i r w) with
  | ok d =>
    rw [e] at h
    simp only [] at h
    by_cases hc : Cln d
    · rw [if_pos hc] at h; cases h; exact ⟨d,rfl,hc,rfl,rfl⟩
    · rw [if_neg hc] at h; cases h
  | exc x => rw [e] at h; cases h
  | stuck => rw [e] at h; cases h
theorem znB (j : Nat) (hji : i≠j) (hb : ∀ j,j≠i→m[j]?≠some .bw) (hN : X.N.Nodup) (hi : X.N[j]? = some y) (hx : Loc X.env.scope y) (h : ∀ g',SE X g' (m.set i .sh) e f) (hs : swapsWith e (some (.Name y p1)) pos.line X.env = pure false := by rfl)
    (hf : X.fn y = true∨X.env.scope.names.lookup y = some .local := by first | exact .inl rfl | exact .inr rfl | assumption) : SS2 X g i m (.Assign [.Name y p1] e pos) (zhy i j f) (m.set j .sh) := by
  refine PS.imp (zin hN hi hx (zjS (g := g) hb h) hs hf) fun D0 σ H ⟨r,w,G,s,r',w',e,k⟩ => ?_
  obtain ⟨d,e1,hc,rfl,rfl⟩ := zlh e
  refine ⟨r,w',G,s,d,e1,hc,fun v G' H' wg rv s' => k _ G' H' wg.ge ?_⟩
  obtain ⟨p,as,R,h0,si,hm⟩ := s'
  exact ⟨p,as,R,h0,si.set j rv,by rw [List.getElem?_set_ne (Ne.symm hji)]; exact hm⟩
noncomputable def zea (w : List (List D)) (x y : Int) (d : D) : Option (List (List D)) := (ixN w.length x).bind fun j => (w[j]?).bind fun row => (ixN row.length y).map fun k => w.set j (row.set k d)
theorem zjJ {w' : List (List D)} {x y : Int} {d : D} (h : zea w x y d = some w') : ∃ j row k,ixN w.length x = some j∧w[j]? = some row∧ixN row.length y = some k∧w' = w.set j (row.set k d) := by
  unfold zea at h
  cases e1 : ixN w.length x with
  | none => rw [e1] at h; cases h
  | some j =>
    rw [e1] at h
    simp only [Option.bind_some] at h
    cases e2 : w[j]? with
    | none => rw [e2] at h; cases h
    | some row =>
      rw [e2] at h
      simp only [Option.bind_some] at h
      cases e3 : ixN row.length y with
      | none => rw [e3] at h; cases h
      | some k => rw [e3] at h; cases h; exact ⟨j,row,k,rfl,e2,e3,rfl⟩
open Classical in
noncomputable def zhF (i a b : Nat) (f : FE) : FS2 := fun r w => match r[a]?,r[b]?,f (lent i r w) with
  | some (some (.int x)),some (some (.int y)),.ok d => if Cln d then (zea w x y d).map fun w' => (r,w') else none
  | _,_,_ => none
theorem zly {a b : Nat} {w' : List (List D)} (h : zhF i a b f r w = some (r',w')) : ∃ x y d,r[a]? = some (some (.int x))∧r[b]? = some (some (.int y))∧f (lent i r w) = .ok d∧Cln d∧zea w x y d = some w'∧r' = r := by
  unfold zhF at h
  split at h
  · rename_i x y d e1 e2 e3
    by_cases hc : Cln d
    · rw [if_pos hc] at h
      cases e4 : zea w x y d with
      | none => rw [e4] at h; cases h
      | some w1 => rw [e4] at h; cases h; exact ⟨x,y,d,e1,e2,e3,hc,e4,rfl⟩
    · rw [if_neg hc] at h; cases h
  · cases h
theorem znC (a b : Nat) (hm : m[i]? = some .bw) (hb : ∀ j,j≠i→m[j]?≠some .bw) (hma : m[a]? = some .sh) (hmb : m[b]? = some .sh) (hN : X.N[i]? = some x) (hv : Vis X.env.scope x) (hNa : X.N[a]? = some xa) (hva : Vis X.env.scope xa) (hNb : X.N[b]? = some xb) (hvb : Vis X.env.scope xb) (h : ∀ g',SE X g' (m.set i .sh) e f)
    (hd : (x == ("__debug__" : Str)) = false := by decide) (hcd : (x == ("__classdict__" : Str)) = false := by decide) (hda : (xa == ("__debug__" : Str)) = false := by decide) (hcda : (xa == ("__classdict__" : Str)) = false := by decide) (hdb : (xb == ("__debug__" : Str)) = false := by decide) (hcdb : (xb == ("__classdict__" : Str)) = false := by decide)
    (hpa' : zgu (.Name xa p7) := by intro _ _; rfl)
    (ha : ∀ v,assign (.Subscript (.Subscript (.Name x p6) (.Name xa p7) p8) (.Name xb p9) p10) X.env v = (do
      let ov ← holding [v] (eval (.Subscript (.Name x p6) (.Name xa p7) p8) X.env)
      let iv ← holding [v,ov] (eval (.Name xb p9) X.env)
      standAt p10
      holding [v,ov,iv] (setItem ov iv v)
      release [v,ov,iv] []) := by intro _; rfl)
    (hs : swapsWithSole [.Subscript (.Subscript (.Name x p6) (.Name xa p7) p8) (.Name xb p9) p10] e pos.line X.env = pure false := by rfl)
    (hw : swappedStores [.Subscript (.Subscript (.Name x p6) (.Name xa p7) p8) (.Name xb p9) p10] e X.env = pure none := by rfl)
    (h1 : (assignEach [.Subscript (.Subscript (.Name x p6) (.Name xa p7) p8) (.Name xb p9) p10] X.env).map (·.2) = [assign (.Subscript (.Subscript (.Name x p6) (.Name xa p7) p8) (.Name xb p9) p10) X.env] := by rfl) :
    SS2 X g i m (.Assign [.Subscript (.Subscript (.Name x p6) (.Name xa p7) p8) (.Name xb p9) p10] e pos) (zhF i a b f) m := by
  refine PS.imp (zmC (zjS (g := g) hb h) (zmD (znU zkn (zdO hN hv hd hcd) (zdO hNa hva hda hcda) hpa') (zdO hNb hvb hdb hcdb) zii ha) hs hw h1) fun D0 σ H ⟨r,w,G,s,r',w',e,k⟩ => ?_
  obtain ⟨va,vb,d,ea,eb,ef,hc,ep,rfl⟩ := zly e
  refine ⟨r',w,G,s,d,ef,hc,fun v G' H' wg rv s' => ?_⟩
  obtain ⟨p,as,R,h0,si,_⟩ := s'
  have hst : σ[i]? = some (some (V.ref p)) := (si.lk i (some (V.ref p),none) (by show (if i = i then _ else _) = _; rw [if_pos rfl]) hm).1
  obtain ⟨j,row,k1,z1,z2,z3,rfl⟩ := zjJ ep
  obtain ⟨ua,sa,ra⟩ := si.sh a _ ea hma
  obtain ⟨ub,sb,rb⟩ := si.sh b _ eb hmb
  have ra := ra.int si.gok
  have rb := rb.int si.gok
  subst ra
  subst rb
  obtain ⟨q,hq,xs,hx,rs⟩ := Paired.get R.rw z2
  have hl : (as.map V.ref).length = w.length := by rw [List.length_map]; exact Paired.length R.rw
  have at1 : atI (as.map V.ref) va = some (V.ref q) := by
    unfold atI
    rw [hl,z1]
    show (as.map V.ref)[j]? = _
    rw [List.getElem?_map,hq]; rfl
  have hlx := Paired.length rs
  have hqm : q∈as := List.mem_of_getElem? hq
  have nd := List.nodup_cons.mp R.nd
  have hqp : q≠p := by rintro rfl; exact nd.1 hqm
  refine ⟨_,hst,_,sa,p,_,va,_,rfl,rfl,SqL.of R.out,at1,_,sb,q,xs,vb,k1,rfl,rfl,hx,by rw [hlx]; exact z3,?_⟩
  refine k σ G' _ wg.ge ⟨p,as,⟨by rw [zan (Ne.symm hqp)]; exact R.out,R.nd,R.un,?_⟩,h0,SI.row R si hm hb (List.mem_cons_of_mem _ hqm) _,hm⟩
  refine zlH R.rw nd.2 hq ⟨_,zao,Paired.st rv _ rs⟩ fun b' x' hne ⟨xs',e1,e2⟩ => ⟨xs',by rw [zan hne]; exact e1,e2⟩
end
end DL
end
section
namespace DL
open PySem PySem.Spec PyProof.Rows L2
structure TL (K : PySem.W.Frag) (G : GH) (H : Hp) (p a : Addr) (d1 : D) (ds : List D) : Prop where
  tp : ∃ x xs,H p = some (.tup [x,.ref a])∧RG K G x d1∧H a = some (.lst xs)∧RGs K G xs ds
  un : ∀ b∈[p,a],G b = none
  ne : p≠a
theorem TL.isS {K : PySem.W.Frag} {G : GH} {H : Hp} {p a : Addr} {d1 : D} {ds : List D} (t : TL K G H p a d1 ds) : ∀ b∈[p,a],H b≠none := fun b hb => by
  obtain ⟨x,xs,h1,_,h2,_⟩ := t.tp
  rcases List.mem_cons.mp hb with rfl | hb
  · rw [h1]; simp
  · rw [List.mem_singleton.mp hb,h2]; simp
theorem TL.grow {K : PySem.W.Frag} {G G' : GH} {H H' : Hp} {p a : Addr} {d1 : D} {ds : List D} (t : TL K G H p a d1 ds) (w : Grow K G H G' H') : TL K G' H' p a d1 ds := by
  obtain ⟨x,xs,h1,h2,h3,h4⟩ := t.tp
  exact ⟨⟨x,xs,w.he _ _ h1,h2.mono w.ge,w.he _ _ h3,h4.mono w.ge⟩,fun b hb => by rw [w.gf b (t.isS b hb)]; exact t.un b hb,t.ne⟩
noncomputable def RW (K : PySem.W.Frag) (H0 : Hp) (G : GH) (H : Hp) (v : V) (d : D) : Prop := ∃ p a d1 ds,v = .ref p∧d = .tup [d1,.lst ds]∧(∀ b∈[p,a],H0 b = none)∧TL K G H p a d1 ds
noncomputable def spW (K : PySem.W.Frag) (ms : List Md) (F : List D→Res D) : Sp := fun vs H Q _ => ∃ G ds,GOk K G H∧ArgsOk K G H ms vs ds∧fin (F ds) (fun d => ∀ v G' H',Grow K G H G' H'→RW K H G' H' v d→Q v H') fun _ => False
noncomputable abbrev FW := Rho→Res D
noncomputable def SSsW (X : Cx) (g : GE) (m : List Md) (sts : List Stmt) (fs : FW) : Prop :=
  PSs X sts (fun D σ H => ∃ r G,SI X g m r G σ H∧fin (fs r) (fun d => ∀ v G' H',Grow X.K g.gh g.h0 G' H'→RW X.K g.h0 G' H' v d→D.rt v H') fun _ => False)
section
variable {X : Cx} {g : GE} {ro : Bool} {i : Nat} {m m' m1 mb : List Md} {r r' : Rho} {G G' : GH} {σ σ' : L2.St} {H H' : Hp} {e e1 e2 c : Expr} {f f1 f2 : FE} {q : FQ} {st : Stmt} {sts sts1 : List Stmt} {s1 : FS} {fs : FW} {pos p1 p2 p3 p4 apos cpos : Pos} {x y : Str}
noncomputable def andW (s1 : FS) (fs : FW) : FW := fun r => match s1 r with
  | .nx r' => fs r'
  | _ => .stuck
theorem zf5 (h1 : SS X g ro mb m st s1 m1) (h2 : SSsW X g m1 sts fs) : SSsW X g m (st::sts) (andW s1 fs) := by
  refine PSs.imp (zb3 h1.2 h2) fun D σ H ⟨r,G,si,k⟩ => ⟨r,G,si,?_⟩
  unfold andW at k
  cases e : s1 r with
  | nx r' => rw [e] at k; exact fun σ' G' H' _ si' => ⟨r',G',si',k⟩
  | _ => rw [e] at k; exact k.elim
noncomputable def retW (f1 f2 : FE) : FW := fun r => (f1 r).bind fun d1 => (f2 r).bind fun d2 => match d2 with
  | .lst ds => .ok (.tup [d1,.lst ds])
  | _ => .stuck
theorem znI {d : D} (h : retW f1 f2 r = .ok d) : ∃ d1 ds,f1 r = .ok d1∧f2 r = .ok (.lst ds)∧d = .tup [d1,.lst ds] := by
  unfold retW at h
  cases e1 : f1 r with
  | ok d1 =>
    rw [e1] at h
    simp only [bind_ok] at h
    cases e2 : f2 r with
    | ok d2 =>
      rw [e2] at h
      simp only [bind_ok] at h
      cases d2 with
      | lst ds => cases h; exact ⟨d1,ds,rfl,rfl,rfl⟩
      | _ => cases h
    | _ => rw [e2] at h; cases h
  | _ => rw [e1] at h; cases h
theorem znn {x1} (h1 : SE X g m e1 f1) (h2 : SO X g m e2 f2) (hs : starEach [e1,e2] X.env = (false,eval e1 X.env)::starEach [e2] X.env := by rfl) (hs2 : starEach [e2] X.env = (false,eval e2 X.env)::starEach [] X.env := by rfl) :
    SSsW X g m [.Return (some (.Tuple [e1,e2] x1 p1)) pos] (retW f1 f2) := by
  refine PSs.imp (zb3 (zjN (zmE (zcT h1 (zcT h2 zfP hs2) hs))) zfj) fun D σ H ⟨r,G,si,k⟩ => ⟨r,G,si,?_⟩
  cases e : retW f1 f2 r with
  | exc x => rw [e] at k; exact k.elim
  | stuck => rw [e] at k; exact k.elim
  | ok d =>
    rw [e] at k
    obtain ⟨d1,ds,q1,q2,rfl⟩ := znI e
    rw [q1]
    intro v G1 H1 w1 rv
    refine ⟨r,G1,si.grow w1,?_⟩
    rw [q2]
    intro a G2 H2 w2 hn ho
    refine ⟨by rw [sizeLine_eq]; simp,fun p hp => ?_⟩
    have hpa : p≠a := by rintro rfl; exact ho.ob.isS hp
    have w3 := Grow.new w2.ok hp (.tup [v,.ref a])
    have wg := (w1.trans w2).trans w3
    refine k _ G2 _ (si.grow wg).grown ⟨p,a,d1,ds,rfl,rfl,fun b hb => ?_,?_,fun b hb => ?_,hpa⟩
    · rcases List.mem_cons.mp hb with rfl | hb
      · exact si.new ((w1.trans w2).back hp)
      · rw [List.mem_singleton.mp hb]; exact si.new (w1.back hn)
    · cases ho.ob with
      | lst z1 z2 => exact ⟨v,_,zao,rv.mono w2.ge,by rw [zan (Ne.symm hpa)]; exact z1,z2⟩
    · rcases List.mem_cons.mp hb with rfl | hb
      · exact w2.ok.isN hp
      · rw [List.mem_singleton.mp hb]; exact ho.un
end
section
variable {P : Program} {w : World} {K : PySem.W.Frag} {mg : Str → Option Value} {base : Heap}
structure CalleeW (P : Program) (w : World) (K : PySem.W.Frag) (mg : Str→Option Value) (base : Heap) (x : Str) (ps : List Str) (k : Nat) (ms : List Md) (F : List D→Res D) : Prop where
  ex : ∃ f fd,mg x = some (.ref f)∧PySem.W.keepIn K (.ref f) = true∧zfK K fd ps []∧FnOk P w K mg base CX0 k f fd ps (spW K ms F)
theorem zom {x : Str} {st : Stmt} {N ps : List Str} {k : Nat} {ms : List Md} {fs : FW} (A : DefAt K mg x st) (S : FnScope N ps (zac st)) (hms : ms.length = ps.length)
    (hb : ∀ (kV doc pm : Value) (an : Option Addr) (cdv ct : Value) (us : List Value),us.length = ps.length→bindArgs (PySem.W.fnOf x x (zcV st) (zbM st) (zac st) .none kV doc pm an cdv ct) ⟨us,[]⟩ = pure (ps.zip us))
    (hbody : ∀ (f : Addr) (cdv : Value) (A : Around) (outer : List Env) (s : Shared) (H : Hp) (g : GE) (E : XK),Room k (A.deeper (envOfC x (zac st) s.heap.objs.size f cdv)) →
      SSsW (cxOf CX0 P w K mg base N x (zac st) f cdv A outer s H E).nox g (zex N.length ms) (zbM st) fs) :
    CalleeW P w K mg base x ps (k + 1) ms fun ds => fs (zap N.length ds) := by
  obtain ⟨f,fd,h1,F⟩ := A.ex
  refine ⟨f,fd,h1,F.kp,F.binds hb,?_⟩
  refine F.ok S (fun vs H Q E ⟨G,ds,gk,rs,q⟩ => rs.len.1.trans hms) fun cdv A outer s H vs Q E hr h => ?_
  obtain ⟨G,ds,gk,rs,q⟩ := h
  have hpl : ps.length≤N.length := by have := congrArg List.length S.pre; rw [List.length_take] at this; omega
  exact ⟨_,hbody f cdv A outer s H ⟨G,H,fun _ => none⟩ E hr,zap N.length ds,G,zic gk rs (by omega),q⟩
end
section
variable {X : Cx} {g : GE} {ro : Bool} {i : Nat} {m m' m1 mb ms : List Md} {r r' : Rho} {G G' : GH} {σ σ' : L2.St} {H H' : Hp} {e c : Expr} {es : List Expr} {q : FQ} {st : Stmt} {sts sts1 : List Stmt} {fl : Rho → Res (List D)} {F : List D → Res D} {k : Nat} {ps : List Str} {pos p1 p2 p3 p4 apos cpos : Pos} {x y : Str} {d1 : D} {ds : List D}
noncomputable def SI3 (X : Cx) (g : GE) (i : Nat) (m : List Md) (r : Rho) (d1 : D) (ds : List D) (G : GH) (st : L2.St) (H : Hp) : Prop :=
  ∃ p a,TL X.K G H p a d1 ds∧(∀ b∈[p,a],g.h0 b = none)∧SI X (zcl g H [p,a] i p) m r G st H∧m[i]? = some .bw
theorem SI3.after (s : SI3 X g i m r d1 ds G σ H) (wg : Grow X.K G H G' H') : SI3 X g i m r d1 ds G' σ H' := by
  obtain ⟨p,a,t,h0,si,hm⟩ := s
  refine ⟨p,a,t.grow wg,h0,?_,hm⟩
  rw [ziy (H := H) fun b hb => ?_]
  · exact si.grow wg
  · cases e : H b with
    | none => exact absurd e (t.isS b hb)
    | some o => rw [wg.he b o e]
theorem SI3.frz (s : SI3 X g i m r d1 ds G σ H) (hb : ∀ j,j≠i→m[j]?≠some .bw) : ∃ G',Gle G G'∧(∀ b d,G b = none→G' b = some d→¬ Cln d)∧SI X g (m.set i .sh) (r.set i (some (.tup [d1,.lst ds]))) G' σ H := by
  obtain ⟨p,a,t,h0,si,hm⟩ := s
  obtain ⟨x,xs,h1,h2,h3,h4⟩ := t.tp
  have ua := t.un a (List.mem_cons_of_mem _ List.mem_cons_self)
  have up := t.un p List.mem_cons_self
  have g1 : GOk X.K (gset G a (.lst ds)) H := si.gok.gset ua (.lst (.inl h3) h4)
  have up1 : gset G a (.lst ds) p = none := by rw [zaR t.ne]; exact up
  have g2 : GOk X.K (gset (gset G a (.lst ds)) p (.tup [d1,.lst ds])) H := g1.gset up1 (.tup (.inl h1) (.cons (h2.mono (za4 ua)) (.cons (.ref zas) .nil)))
  refine ⟨_,Gle.trans (za4 ua) (za4 up1),fun b d hn e hc => ?_,zix si hm h0 t.isS hb (Gle.trans (za4 ua) (za4 up1)) g2 (fun b hb => ?_) zas⟩
  · by_cases hbp : b = p
    · subst hbp; rw [zas] at e; cases e
      exact (hc.get _ (List.mem_cons_of_mem _ List.mem_cons_self)).lst
    · rw [zaR hbp] at e
      by_cases hba : b = a
      · subst hba; rw [zas] at e; cases e; exact hc.lst
      · rw [zaR hba,hn] at e; cases e
  · rw [zaR (by rintro rfl; exact hb List.mem_cons_self),zaR (by rintro rfl; exact hb (List.mem_cons_of_mem _ List.mem_cons_self))]
noncomputable abbrev F3 := Rho→D→List D→Option Rho
noncomputable def S3s (X : Cx) (g : GE) (i : Nat) (m : List Md) (sts : List Stmt) (f : F3) : Prop :=
  PSs X sts (fun D σ H => ∃ r d1 ds G,SI3 X g i m r d1 ds G σ H∧∃ r',f r d1 ds = some r'∧∀ σ' G' H',Gle G G'→SI X g (m.set i .sh) r' G' σ' H'→D.nx σ' H')
noncomputable def if3 (i : Nat) (q : FQ) (f : F3) : F3 := fun r d1 ds => match q (r.set i (some (.tup [d1,.lst ds]))) with
  | .ok false => f r d1 ds
  | _ => none
theorem znA {f : F3} (hb : ∀ j,j≠i→m[j]?≠some .bw) (hc : ∀ g',SQ X g' (m.set i .sh) c q) (h : S3s X g i m sts f) : S3s X g i m (.If c sts1 [] pos::sts) (if3 i q f) := by
  have hn : PSs X sts1 (fun _ _ _ => False) := fun pins s σ H D I h => h.elim
  refine PSs.imp (zb3 (zpO (hc g) hn zfj) h) fun D σ H ⟨r,d1,ds,G,s,r',e,k⟩ => ?_
  have gk : GOk X.K G H := by obtain ⟨p,a,t,h0,si,hm⟩ := s; exact si.gok
  obtain ⟨G1,le,hx,si⟩ := s.frz hb
  refine ⟨_,G1,si,?_⟩
  unfold if3 at e
  cases z : q (r.set i (some (.tup [d1,.lst ds]))) with
  | exc x => rw [z] at e; cases e
  | stuck => rw [z] at e; cases e
  | ok b =>
    rw [z] at e
    cases b with
    | true => cases e
    | false =>
      intro G' H' wg
      obtain ⟨G2,w2,_⟩ := zoU gk le hx wg
      rw [if_neg Bool.false_ne_true]
      exact ⟨r,d1,ds,G2,s.after w2,r',e,fun σ' G'' H'' le' si' => k σ' G'' H'' (Gle.trans w2.ge le') si'⟩
theorem zlq {j} (hm : m[i]? = some .bw) (hb : ∀ j,j≠i→m[j]?≠some .bw) (hN : X.N[i]? = some x) (hv : Vis X.env.scope x)
    (hd : (x == ("__debug__" : Str)) = false := by decide) (hcd : (x == ("__classdict__" : Str)) = false := by decide) (hpl : zgu (.Constant (.int 1) j p3) := by intro _ _; rfl)
    (hbase : attributeBase (.Subscript (.Name x p2) (.Constant (.int 1) j p3) p1) "clear" X.env (eval (.Subscript (.Name x p2) (.Constant (.int 1) j p3) p1) X.env) = eval (.Subscript (.Name x p2) (.Constant (.int 1) j p3) p1) X.env := by rfl) (hline : (apos.endLine == cpos.line) = true := by rfl) :
    S3s X g i m [.Expr (.Call (.Attribute (.Subscript (.Name x p2) (.Constant (.int 1) j p3) p1) "clear" apos) [] [] cpos) pos] (fun r _ _ => some (r.set i none)) := by
  refine PSs.imp (zb3 (zhG (zpV PySem.F.plainAttrs_list PySem.F.slot_list_clear PySem.F.type_list_clear zlR (znU zmY (zdO hN hv hd hcd) zmF hpl) hbase hline)) zfj) fun D σ H ⟨r,d1,ds,G,⟨p,a,t,h0,si,_⟩,r',e,k⟩ => ?_
  cases e
  have hst : σ[i]? = some (some (V.ref p)) := (si.lk i (some (V.ref p),none) (by show (if i = i then _ else _) = _; rw [if_pos rfl]) hm).1
  obtain ⟨x,xs,h1,h2,h3,h4⟩ := t.tp
  refine ⟨_,hst,p,_,1,V.ref a,rfl,rfl,SqT.of h1,rfl,.inl ⟨rfl,_,SqL.of h3⟩,a,xs,rfl,rfl,h3,?_⟩
  have hlt : i < m.length := (List.getElem?_eq_some_iff.mp hm).1
  have ham : a∈[p,a] := List.mem_cons_of_mem _ List.mem_cons_self
  have h0' : ∀ b,b∉[p,a]→(zcl g H [p,a] i p).h0 b = g.h0 b := fun b hb => by show (if b∈[p,a] then H b else g.h0 b) = _; rw [if_neg hb]
  have h0i : ∀ b,b∈[p,a]→(zcl g H [p,a] i p).h0 b≠none := fun b hb => by show (if b∈[p,a] then H b else g.h0 b)≠_; rw [if_pos hb]; exact t.isS b hb
  have nin : ∀ b,g.h0 b≠none→b∉[p,a] := fun b h z => h (h0 b z)
  have mne : ∀ {j x},i≠j→(m.set i .sh)[j]? = some x→m[j]? = some x := fun hij h => by rw [List.getElem?_set_ne hij] at h; exact h
  have rne : ∀ {j d},(r.set i none)[j]? = some (some d)→i≠j∧r[j]? = some (some d) := fun {j d} h => by
    by_cases hij : i = j
    · subst hij
      rw [List.getElem?_set_self (by rw [si.lr,← si.lm]; exact hlt)] at h; cases h
    · rw [List.getElem?_set_ne hij] at h; exact ⟨hij,h⟩
  refine k σ G _ (Gle.refl G) ⟨fun b d e => ?_,fun b o e => ?_,si.ge,fun b h => ?_,by simpa using si.lm,by simpa using si.lr,fun j d z1 z2 => ?_,fun j d z1 z2 => ?_,fun j d z1 z2 => ?_,fun j k b d e hjk z1 z2 m1 m2 y1 y2 => ?_,fun j o hj hm' => ?_⟩
  · have hba : b≠a := by rintro rfl; rw [t.un b ham] at e; cases e
    exact (si.gok b d e).mono (fun _ _ z => z) fun o z => by rw [zan hba]; exact z
  · have hn := nin b (by rw [e]; simp)
    have hba : b≠a := by rintro rfl; exact hn ham
    rw [zan hba]
    exact si.old b o (by rw [h0' b hn]; exact e)
  · exact si.gf b (by rw [h0' b (nin b h)]; exact h)
  · obtain ⟨hij,z1⟩ := rne z1
    exact si.sh j d z1 (mne hij z2)
  · obtain ⟨hij,z1⟩ := rne z1
    obtain ⟨b,y1,y2,y3⟩ := si.ow j d z1 (mne hij z2)
    have hn : b∉[p,a] := fun z => h0i b z y3
    have hba : b≠a := by rintro rfl; exact hn ham
    exact ⟨b,y1,⟨y2.un,y2.ob.mono (fun _ _ z => z) fun o z => by rw [zan hba]; exact z⟩,by rw [← h0' b hn]; exact y3⟩
  · obtain ⟨hij,z1⟩ := rne z1
    exact absurd (mne hij z2) (hb j (Ne.symm hij))
  · obtain ⟨hij,z1⟩ := rne z1
    obtain ⟨hik,z2⟩ := rne z2
    exact si.dis j k b d e hjk z1 z2 (mne hij m1) (mne hik m2) y1 y2
  · by_cases hij : i = j
    · subst hij; rw [List.getElem?_set_self hlt] at hm'; cases hm'
    · exact absurd (mne hij hm') (hb j (Ne.symm hij))
noncomputable def newW (i : Nat) (fl : Rho→Res (List D)) (F : List D→Res D) (f : F3) : FS := fun r => match zaq fl [] F r with
  | .ok (.tup [d1,.lst ds]) => (match f (r.set i none) d1 ds with
    | some r' => .nx r'
    | none => .stuck)
  | _ => .stuck
theorem zoi {f : F3} {D0 : Ends} (h : oTo X g ro m' mb G D0 (newW i fl F f r)) : ∃ zs d1 ds r',fl r = .ok zs∧F zs = .ok (.tup [d1,.lst ds])∧f (r.set i none) d1 ds = some r'∧oTo X g ro m' mb G D0 (.nx r') := by
  unfold newW at h
  split at h
  · rename_i d1 ds e
    split at h
    · rename_i r' e2
      unfold zaq at e
      cases ez : fl r with
      | ok zs =>
        rw [ez] at e
        simp only [bind_ok,List.append_nil] at e
        cases ef : F zs with
        | ok d => rw [ef] at e; cases e; exact ⟨zs,d1,ds,r',rfl,ef,e2,h⟩
        | exc x => rw [ef] at e; cases e
        | stuck => rw [ef] at e; cases e
      | exc x => rw [ez] at e; cases e
      | stuck => rw [ez] at e; cases e
    · exact h.elim
  · exact h.elim
theorem znp {f : F3} (i : Nat) {y : Str} (hlt : i < m.length) (hN : X.N.Nodup) (hi : X.N[i]? = some y) (hx : Loc X.env.scope y) (cl : CalleeW X.prog X.w X.K X.mg X.base x ps k ms F) (hr : Room k X.A) (ha : SAM X g m (e::es) ms fl) (h : S3s X g i (m.set i .bw) sts f) (hme : (m.set i .bw).set i .sh = m := by rfl) (hg : Gl X x := by rfl)
    (hdb : (x == ("__debug__" : Str)) = false := by decide) (he : starEach (e::es) X.env = (false,eval e X.env)::starEach es X.env := by rfl) (hpl : (backTo p2 (starEach es X.env)).any (·.1) = false := by rfl)
    (hs : swapsWith (.Call (.Name x p1) (e::es) [] p2) (some (.Name y p3)) pos.line X.env = pure false := by rfl) (hf : X.fn y = true∨X.env.scope.names.lookup y = some .local := by first | exact .inl rfl | exact .inr rfl | assumption) :
    SSs X g ro mb m (.Assign [.Name y p3] (.Call (.Name x p1) (e::es) [] p2) pos::sts) (newW i fl F f) m := by
  obtain ⟨fa,fd,z1,z2,z3,G1⟩ := cl.ex
  refine ⟨rfl,PSs.imp (zb3 (zin hN hi hx (zhH G1 hr hg z1 z2 z3 .nil znY ha hdb he hpl) hs hf) h) fun D0 σ H ⟨r,G,si,q⟩ => ⟨r,G,si,?_⟩⟩
  obtain ⟨zs,d1,ds,r',e1,e2,e3,q⟩ := zoi q
  rw [e1]
  intro vs G' H' w' rs
  refine ⟨G',zs,w'.ok,by rw [List.append_nil]; exact rs,?_⟩
  rw [e2]
  rintro v G2 H2 w2 ⟨p,a,d1',ds',rfl,e4,hn,t⟩
  cases e4
  have wg := w'.trans w2
  have hn' : ∀ b∈[p,a],H b = none := fun b hb => w'.back (hn b hb)
  refine ⟨_,d1,ds,G2,⟨p,a,t,fun b hb => si.new (hn' b hb),si.hold wg hlt t.un t.isS hn',by rw [List.getElem?_set_self hlt]⟩,r',e3,fun σ' G'' H'' le si' => ?_⟩
  rw [hme] at si'
  exact q σ' G'' H'' (Gle.trans wg.ge le) si'
end
end DL
end
section
namespace DL
section
open PySem PyProof.Rows PySem.W PySem.Calls
variable {prog : Program} {w : World} {A : Around} {E : Value → Shared → Prop} {s : Shared} {l : Addr} {vs : List Value} {ns : List Int}
theorem zhg {Q : List Value→Shared→Prop} (hl : IsTup s.heap l vs.toArray) (h : ∀ H1,H1 = (s.heap.push (seqObj "list" #[] 0)).update s.heap.objs.size (Obj.mapSeq (·++vs.toArray))→Q vs { s with heap := H1 }) (hsz : vs.length≤sizeLine) : wpAny (model prog w) A (collect (.ref l)) Q E s := by
  obtain ⟨o,ho,hc,n,hd⟩ := hl
  have ho2 : (s.heap.push (seqObj "list" #[] 0)).get? l = some o := Heap.get?_push_of_some _ ho
  have hnew : (s.heap.push (seqObj "list" #[] 0)).get? s.heap.objs.size = some (seqObj "list" #[] 0) := Heap.get?_push_size _ rfl
  unfold collect
  refine wpAny_bind (wpAny_runValue (codeAny_builtin entry_proto_collect' (show wpAny _ _ (do again (.builtin "list.__iadd__" ⟨[← newList [],.ref l],[]⟩)) _ _ s from
    wpAny_bind (wpAny_newList (wpAny_pure ⟨Code.quiet_builtin _ (by decide +kernel),codeAny_builtin entry_list_iadd' ?_⟩)))))
  show wpAny _ _ (PySem.Builtin.List.listExtendWith (.ref s.heap.objs.size) (.ref l) (.ref s.heap.objs.size)) _ _ { s with heap := s.heap.push (seqObj "list" #[] 0) }
  unfold PySem.Builtin.List.listExtendWith
  refine wpAny_bind (wpAny_typeOf (T := "tuple") ⟨o,ho2,hc⟩ ?_)
  have hq : (Value.type "tuple" == Value.type "tuple") = true := by rfl
  rw [if_pos (by rw [hq,Bool.or_true])]
  refine wpAny_bind (listItems_at ho2 hd (wpAny_bind (listItems_at (xs := #[]) (n := 0) hnew rfl ?_)))
  rw [if_neg (by simp)]
  refine wpAny_bind (listUpdate_at (xs := #[]) (n := 0) hnew rfl (wpAny_pure ?_) (Nat.zero_le _) (by show (#[]++vs.toArray).size≤sizeLine + 1; rw [Array.size_append,List.size_toArray]; show 0 + vs.length≤_; omega))
  refine wpAny_bind (wpAny_load (get?_update_seq hnew _) ?_)
  have e : ((#[] : Array Value)++vs.toArray).toList = vs := by simp
  show wpAny _ _ (pure ((#[] : Array Value)++vs.toArray).toList) Q E _
  rw [e]
  exact wpAny_pure (h _ rfl)
theorem zhw {Q : Value→Shared→Prop} (hl : IsTup s.heap l vs.toArray) (hI : IntsAre vs ns) (h64 : vs.length < 64)
    (h : ∀ (out : Array Value) (ns' : List Int),IntsAre out.toList ns'→ns'.Perm ns→ns'.Pairwise (·≤·)→Q (.ref (s.heap.objs.size + 1)) { s with heap := sortedAll s.heap vs out }) : wpAny (model prog w) A (call (.builtin "sorted") [.ref l]) Q E s := by
  refine Calls.call_function_entry kind_sorted plain_sorted entry_sorted (args_sorted1 _) ?_
  unfold Builtin.«sorted»
  refine wpAny_bind (m := checkCount "sorted" 1 1 _) (wpAny_pure (wpAny_bind (zhg hl (fun H1 e1 => ?_) (by rw [sizeLine_eq]; omega))))
  refine wpAny_bind (wpAny_newList ?_ (by rw [sizeLine_eq]; omega))
  have hsz : H1.objs.size = s.heap.objs.size + 1 := by rw [e1,Heap.size_update,size_push']
  have hoL : (H1.push (seqObj "list" vs.toArray 0)).get? (s.heap.objs.size + 1) = some (seqObj "list" vs.toArray 0) := by rw [← hsz]; exact Heap.get?_push_size _ rfl
  show wpAny _ _ _ _ _ { s with heap := H1.push (seqObj "list" vs.toArray 0) }
  rw [show ({ s with heap := H1 } : Shared).heap.objs.size = s.heap.objs.size + 1 from hsz]
  refine wpAny_bind (wpAny_holding (wpAny_call_entry slot_list_sort ⟨_,hoL,rfl⟩ entry_list_sort (list_sort_tree hoL hI h64 fun out ns' a1 a2 a3 => ⟨_,rfl,wpAny_pure ⟨_,rfl,?_⟩⟩) (args_list_sort _)))
  have := h out ns' a1 a2 a3
  unfold sortedAll at this
  rw [← e1] at this
  exact this
end
open PySem PySem.Spec PyProof.Rows L2
section
variable {X : Cx} {pins : List (Addr × Obj)} {σ : L2.St} {H : Hp} {s : Shared}
theorem zhi : zdh X (.builtin "sorted") (fun xs H Q => ∃ p ks,xs = [.ref p]∧SqT X.K H p (ks.map V.int)∧ks.length < 64∧∀ l,H l = none→Q (.ref l) (upd H l (.lst ((srtI ks).map V.int)))) := by
  intro pins s σ H xs us Q I r h
  obtain ⟨p,ks,rfl,hq,h64,q⟩ := h
  obtain ⟨u,rfl,rx⟩ := zeT r
  cases rx
  obtain ⟨its,rv,pl,hz⟩ := I.tuple hq
  have ia : IntsAre its ks := by simpa using zfV rv
  have hil := IntsAre.length ia
  obtain ⟨mF,F⟩ := I.fr
  refine zhw pl ia (by omega) fun out ns' a1 a2 a3 => ?_
  obtain ⟨c,he⟩ := sortedAll_at s.heap its out
  have hDs : s.heap.get? (s.heap.objs.size + 1) = none := Heap.get?_none_of_le (Nat.le_succ _)
  have kp : ∀ b o,s.heap.get? b = some o→(sortedAll s.heap its out).get? b = some o := fun _ _ => sortedAll_old
  have e : ns' = srtI ks := zni (a2.trans (zff ks).symm) a3 (zhv ks)
  subst e
  have hlt : X.env.locals < s.heap.objs.size := I.lt
  refine ⟨.ref _,_,Inv.laidN (t' := _) (its := out.toList) I hDs (Nat.ne_of_gt (Nat.lt_succ_of_lt hlt)) (fun b o _ z => kp b o z) (fun m ⟨o,es,ep,z1,z2⟩ => ⟨o,es,ep,kp _ _ z1,z2⟩) (by simpa using he) (ze6 a1) ?_,rfl,q _ (I.hok.fresh (Nat.le_succ _))⟩
  rw [List.length_map,a2.length_eq,sizeLine_eq]; omega
end
noncomputable def zih : List D→Option D
  | [.tup ds] => (zdf ds).bind fun ks => if ks.length < 64 then some (.lst ((srtI ks).map .int)) else none
  | _ => none
section
variable {X : Cx} {g : GE} {m : List Md} {a b : Expr} {fl : Rho → Res (List D)} {fa fb : FE} {pos p : Pos}
theorem zj2 {k : Nat} (hr : Room k X.A) (hg : Gl X "sorted") (hm : X.mg "sorted" = none) (ha : SAB X g m [a] fl) (hs : starEach [a] X.env = (false,eval a X.env)::starEach [] X.env := by rfl) :
    SO X g m (.Call (.Name "sorted" p) [a] [] pos) (fC fl zih) := by
  refine zpp (R := fun xs H Q => ∃ p ks,xs = [.ref p]∧SqT X.K H p (ks.map V.int)∧ks.length < 64∧∀ l,H l = none→Q (.ref l) (upd H l (.lst ((srtI ks).map V.int)))) ?_ (zdr zhi hg hm (by first | exact PyProof.Rows.boot_sorted | rfl) ha (by decide) (by decide) hs rfl)
  intro G H vs ds d Q gk rs e q
  unfold zih at e
  split at e
  · rename_i zs
    cases ek : zdf zs with
    | none => rw [ek] at e; cases e
    | some ks =>
      rw [ek] at e
      have e' : (if ks.length < 64 then some (D.lst ((srtI ks).map .int)) else none) = some d := e
      by_cases h64 : ks.length < 64
      · rw [if_pos h64] at e'
        cases e'
        cases rs with
        | cons r1 t =>
          cases t
          obtain ⟨b,xs,rfl,s,r⟩ := r1.tup gk
          have ex := ziE gk r ek
          subst ex
          refine ⟨b,ks,rfl,s,h64,fun l hl' => q l G _ (Grow.new gk hl' _) hl' ⟨gk.isN hl',.lst zao ?_⟩⟩
          have : ∀ l : List Int,RGs X.K G (l.map V.int) (l.map D.int) := fun l => by
            induction l with
            | nil => exact .nil
            | cons x l ih => exact .cons (.scl (.int x)) ih
          exact this _
      · rw [if_neg h64] at e'; cases e'
  · cases e
end
end DL
end
section
namespace Rg
theorem zgi {α : Type} [DecidableEq α] : ∀ {l m : List α},l.Nodup→(∀ x∈l,x∈m)→l.length≤m.length
  | [],_,_,_ => Nat.zero_le _
  | a::l,m,hn,hs => by
    have hn' := List.nodup_cons.mp hn
    have h1 := zgi (l := l) (m := m.erase a) hn'.2 fun x hx => by
      have hxa : x≠a := by rintro rfl; exact hn'.1 hx
      exact (List.mem_erase_of_ne hxa).mpr (hs x (List.mem_cons_of_mem _ hx))
    have ha : a∈m := hs a List.mem_cons_self
    rw [List.length_erase_of_mem ha] at h1
    have := List.length_pos_of_mem ha
    simp only [List.length_cons]; omega
structure S where
  line : List Nat
  things : List Nat
section
variable (W : Nat → List Nat) (O : Nat → Option Nat)
noncomputable def best (row things : List Nat) : Nat := (row.find? fun x => decide (x∈things)).getD 0
noncomputable def tgt (s : S) (h : Nat) : Nat := best (W h) s.things
noncomputable def pt (s : S) (x : Nat) : Nat := (s.line.find? fun h => decide (O h = some x)).getD (s.line.headD 0)
noncomputable def nxt (s : S) (h : Nat) : Nat := pt O s (tgt W s h)
noncomputable def minus (s : S) (C : List Nat) : S := ⟨s.line.filter fun h => decide (h∉C),s.things.filter fun x => decide (x∉C.map (tgt W s))⟩
noncomputable def it {α : Type} (f : α→α) : Nat→α→α
  | 0,x => x
  | n + 1,x => it f n (f x)
structure Ok (s : S) : Prop where
  nl : s.line.Nodup
  nt : s.things.Nodup
  le : s.line.length≤s.things.length
  row : ∀ h∈s.line,∀ x∈s.things,x∈W h
  inj : ∀ h k x,O h = some x→O k = some x→h = k
  own : ∀ h∈s.line,∀ x,O h = some x→x∈s.things
structure Cyc (s : S) (C : List Nat) : Prop where
  sub : ∀ h∈C,h∈s.line
  cl : ∀ h∈C,nxt W O s h∈C
  per : ∀ h∈C,∃ k,it (nxt W O s) (k + 1) h = h
variable {W O}
theorem zmk {row things : List Nat} (h : ∃ x∈row,x∈things) : best row things∈things := by
  unfold best
  cases e : row.find? fun x => decide (x∈things) with
  | none =>
    obtain ⟨x,h1,h2⟩ := h
    have := List.find?_eq_none.mp e x h1
    simp [h2] at this
  | some x => have := List.find?_some e; simpa using this
variable {s : S}
theorem Cyc.it_mem {C : List Nat} (c : Cyc W O s C) {h : Nat} (hh : h∈C) : ∀ n,it (nxt W O s) n h∈C := by
  intro n
  induction n generalizing h with
  | zero => exact hh
  | succ n ih => exact ih (c.cl h hh)
theorem Cyc.out {C E : List Nat} (c : Cyc W O s C) (e : Cyc W O s E) {h : Nat} (hc : h∈C) (he : h∉E) : nxt W O s h∉E := by
  intro z
  obtain ⟨k,hk⟩ := c.per h hc
  exact he (by rw [← hk]; exact e.it_mem z k)
noncomputable def less (E C : List Nat) : List Nat := E.filter fun h => decide (h∉C)
inductive TTC (W : Nat→List Nat) (O : Nat→Option Nat) (a : Nat→Nat) : S→Prop where
  | nil {s : S} : s.line = []→TTC W O a s
  | step {s : S} (C : List Nat) : Cyc W O s C→(∀ h∈C,a h = tgt W s h)→TTC W O a (minus W s C)→TTC W O a s
end
end Rg
end
section
namespace Rg
section
variable {W : Nat → List Nat} {O : Nat → Option Nat} {s : S} {a : Nat → Nat}
theorem least {P : Nat→Prop} : (∃ n,P n)→∃ n,P n∧∀ k,k < n→¬ P k := by
  rintro ⟨n,hn⟩
  induction n using Nat.strongRecOn with
  | _ n ih =>
    by_cases h : ∃ k,k < n∧P k
    · obtain ⟨k,h1,h2⟩ := h; exact ih k h1 h2
    · exact ⟨n,hn,fun k hk hp => h ⟨k,hk,hp⟩⟩
end
end Rg
end
section
namespace Rg
section
variable {W W' : Nat → List Nat} {O : Nat → Option Nat} {s : S} {a b : Nat → Nat}
end
end Rg
end
section
namespace Rg
section
variable (W : Nat → List Nat) (d : Nat → Nat)
variable {W d}
end
end Rg
end
section
namespace Fq
theorem ziA (a : Int) (b : Nat) : Int.gcd a b = Int.gcd b (a % (b : Int)) := by
  refine Nat.dvd_antisymm (Int.dvd_gcd (Int.gcd_dvd_right _ _) ?_) (Int.dvd_gcd ?_ (Int.gcd_dvd_left _ _))
  · rw [Int.emod_def]
    exact Int.dvd_sub (Int.gcd_dvd_left _ _) (Int.dvd_trans (Int.gcd_dvd_right a b) (Int.dvd_mul_right _ _))
  · have h := Int.mul_ediv_add_emod a b
    rw [← h]
    exact Int.dvd_add (Int.dvd_trans (Int.gcd_dvd_left (b : Int) _) (Int.dvd_mul_right _ _)) (by rw [h]; exact Int.gcd_dvd_right _ _)
theorem zgm (t : Int) {b : Nat} (h : 0 < b) : 0 < Int.gcd t b := Nat.pos_of_ne_zero fun z => by
  have := Int.gcd_eq_zero_iff.mp z
  omega
noncomputable def low (t : Int) (b : Nat) : Int × Nat := (t / (Int.gcd t b : Int),b / Int.gcd t b)
noncomputable def ziT (a b : Int × Nat) : Int × Nat := low (a.1 * b.2 + b.1 * a.2) (a.2 * b.2)
noncomputable def Same (a b : Int × Nat) : Prop := a.1 * (b.2 : Int) = b.1 * (a.2 : Int)
theorem zgg (t : Int) {b : Nat} (h : 0 < b) : Int.gcd (low t b).1 ((low t b).2 : Nat) = 1 := by
  have := Int.gcd_ediv_gcd_ediv_gcd (zgm t h)
  unfold low
  rw [Int.natCast_ediv]
  exact this
theorem zdV (t : Int) {b : Nat} (h : 0 < b) : 0 < (low t b).2 := by
  have h1 : Int.gcd t b ∣ b := Int.natCast_dvd_natCast.mp (Int.gcd_dvd_right t b)
  exact Nat.div_pos (Nat.le_of_dvd h h1) (zgm t h)
theorem zqm (t : Int) (b : Nat) : (low t b).2≤b := Nat.div_le_self _ _
theorem zoo (t : Int) (b : Nat) : (low t b).1.natAbs≤t.natAbs := Int.natAbs_ediv_le_natAbs _ _
theorem zdu (t : Int) (b : Nat) : Same (low t b) (t,b) := by
  unfold Same low
  have h1 : (Int.gcd t b : Int) ∣ t := Int.gcd_dvd_left t b
  have h2 : (Int.gcd t b : Int) ∣ (b : Int) := Int.gcd_dvd_right t b
  obtain ⟨x,hx⟩ := h1
  obtain ⟨y,hy⟩ := h2
  generalize hg : (Int.gcd t b : Int) = g at hx hy
  show t / g * (b : Int) = t * ((b / Int.gcd t b : Nat) : Int)
  rw [Int.natCast_ediv,hg]
  by_cases z : g = 0
  · subst z
    rw [Int.zero_mul] at hx hy
    rw [hx,hy]; simp
  · rw [hx,hy,Int.mul_ediv_cancel_left _ z,Int.mul_ediv_cancel_left _ z]
    rw [← Int.mul_assoc,Int.mul_comm x g]
structure Bd (k : Nat) (a : Int × Nat) : Prop where
  pos : 0 < a.2
  bot : a.2 < 2 ^ k
  top : a.1.natAbs < 2 ^ k
theorem Bd.low {k : Nat} {t : Int} {b : Nat} (h : 0 < b) (h1 : b < 2 ^ k) (h2 : t.natAbs < 2 ^ k) : Bd k (low t b) :=
  ⟨zdV t h,Nat.lt_of_le_of_lt (zqm t b) h1,Nat.lt_of_le_of_lt (zoo t b) h2⟩
theorem zeq {a b k l : Nat} (h1 : a < 2 ^ k) (h2 : b < 2 ^ l) : a * b < 2 ^ (k + l) := by
  rw [Nat.pow_add]
  exact Nat.mul_lt_mul'' h1 h2
theorem zb4 {k l : Nat} {a b : Int × Nat} (ha : Bd k a) (hb : Bd l b) : 0 < a.2 * b.2∧a.2 * b.2 < 2 ^ (k + l) := ⟨Nat.mul_pos ha.pos hb.pos,zeq ha.bot hb.bot⟩
theorem zlC {k l : Nat} {a b : Int × Nat} (ha : Bd k a) (hb : Bd l b) : (a.1 * b.2 + b.1 * a.2).natAbs < 2 ^ (k + l + 1) := by
  have h1 : (a.1 * (b.2 : Int)).natAbs < 2 ^ (k + l) := by rw [Int.natAbs_mul,Int.natAbs_natCast]; exact zeq ha.top hb.bot
  have h2 : (b.1 * (a.2 : Int)).natAbs < 2 ^ (k + l) := by rw [Int.natAbs_mul,Int.natAbs_natCast,Nat.add_comm k l]; exact zeq hb.top ha.bot
  have h3 := Int.natAbs_add_le (a.1 * (b.2 : Int)) (b.1 * (a.2 : Int))
  rw [Nat.pow_succ]
  omega
theorem Bd.plus {k l : Nat} {a b : Int × Nat} (ha : Bd k a) (hb : Bd l b) : Bd (k + l + 1) (ziT a b) := by
  obtain ⟨h1,h2⟩ := zb4 ha hb
  exact Bd.low h1 (Nat.lt_of_lt_of_le h2 (Nat.pow_le_pow_right (by omega) (by omega))) (zlC ha hb)
noncomputable def zkd (a b : Int × Nat) : Bool := decide (a.1 * (b.2 : Int) < b.1 * (a.2 : Int))
end Fq
end
section
namespace Rg
theorem zoJ {α : Type} (f : α→Nat) (os : List α) : ∀ P : List Nat,P.Nodup→(P.map fun t => os.countP fun o => decide (f o = t)).sum = os.countP fun o => decide (f o∈P)
  | [],_ => by simp
  | t::P,hn => by
    have hn' := List.nodup_cons.mp hn
    rw [List.map_cons,List.sum_cons,zoJ f os P hn'.2]
    clear hn
    induction os with
    | nil => rfl
    | cons o os ih =>
      rw [List.countP_cons,List.countP_cons,List.countP_cons,← ih]
      by_cases h1 : f o = t
      · have h2 : f o∉P := by rw [h1]; exact hn'.1
        simp [h1,hn'.1]; omega
      · by_cases h2 : f o∈P
        · simp [h1,h2]; omega
        · simp [h1,h2]
end Rg
namespace Fq
noncomputable def W (N : Nat) (a : Int × Nat) (S : Nat) : Prop := 0 < a.2∧a.1 * (N : Int) = (S : Int) * (a.2 : Int)
theorem W.low {N c : Nat} (hN : 0 < N) : W N (low c N) c := by
  have := zdu (c : Int) N
  exact ⟨zdV _ hN,this⟩
theorem W.plus {N S c : Nat} {a b : Int × Nat} (ha : W N a S) (hb : W N b c) : W N (ziT a b) (S + c) := by
  have hp : 0 < a.2 * b.2 := Nat.mul_pos ha.1 hb.1
  refine ⟨zdV _ hp,?_⟩
  have h := zdu (a.1 * (b.2 : Int) + b.1 * (a.2 : Int)) (a.2 * b.2)
  unfold Same at h
  unfold ziT
  generalize Fq.low (a.1 * (b.2 : Int) + b.1 * (a.2 : Int)) (a.2 * b.2) = p at h ⊢
  have h1 := ha.2
  have h2 := hb.2
  have hq : ((a.2 * b.2 : Nat) : Int)≠0 := by omega
  refine Int.eq_of_mul_eq_mul_right hq ?_
  have e1 : p.1 * (N : Int) * ((a.2 * b.2 : Nat) : Int) = (p.1 * ((a.2 * b.2 : Nat) : Int)) * (N : Int) := by
    rw [Int.mul_assoc,Int.mul_comm (N : Int),← Int.mul_assoc]
  rw [e1,h]
  show (a.1 * (b.2 : Int) + b.1 * (a.2 : Int)) * (p.2 : Int) * (N : Int) = (((S + c : Nat) : Int)) * (p.2 : Int) * ((a.2 * b.2 : Nat) : Int)
  have e2 : (a.1 * (b.2 : Int) + b.1 * (a.2 : Int)) * (p.2 : Int) * (N : Int) = ((a.1 * (N : Int)) * (b.2 : Int) + (b.1 * (N : Int)) * (a.2 : Int)) * (p.2 : Int) := by
    rw [Int.add_mul,Int.add_mul,Int.add_mul]
    congr 1
    · simp only [Int.mul_assoc,Int.mul_comm,Int.mul_left_comm]
    · simp only [Int.mul_assoc,Int.mul_comm,Int.mul_left_comm]
  rw [e2,h1,h2,Int.natCast_add,Int.natCast_mul]
  simp only [Int.add_mul]
  congr 1 <;> simp only [Int.mul_assoc,Int.mul_comm,Int.mul_left_comm]
theorem W.ge {N S S' : Nat} {a b : Int × Nat} (hN : 0 < N) (ha : W N a S) (hb : W N b S') (h : S'≤S) : zkd a b = false := by
  refine decide_eq_false fun hlt => ?_
  have h1 := Int.mul_lt_mul_of_pos_right hlt (show (0 : Int) < (N : Int) by omega)
  have e1 : a.1 * (b.2 : Int) * (N : Int) = (S : Int) * ((a.2 : Int) * (b.2 : Int)) := by
    rw [Int.mul_assoc,Int.mul_comm (b.2 : Int),← Int.mul_assoc,ha.2,Int.mul_assoc]
  have e2 : b.1 * (a.2 : Int) * (N : Int) = (S' : Int) * ((a.2 : Int) * (b.2 : Int)) := by
    rw [Int.mul_assoc,Int.mul_comm (a.2 : Int),← Int.mul_assoc,hb.2,Int.mul_assoc,Int.mul_comm (b.2 : Int)]
  rw [e1,e2] at h1
  have hp : (0 : Int)≤(a.2 : Int) * (b.2 : Int) := by
    rw [← Int.natCast_mul]; exact Int.natCast_nonneg _
  have := Int.lt_of_mul_lt_mul_right h1 hp
  omega
end Fq
end
section
namespace Fq
theorem zbJ {t u : Int} {b d : Nat} (hb : 0 < b) (hd : 0 < d) (h : t * (d : Int) = u * (b : Int)) : low t b = low u d := by
  have s1 : (low t b).1 * (b : Int) = t * ((low t b).2 : Int) := zdu t b
  have s2 : (low u d).1 * (d : Int) = u * ((low u d).2 : Int) := zdu u d
  have c1 := zgg t hb
  have c2 := zgg u hd
  have p1 := zdV t hb
  have p2 := zdV u hd
  generalize low t b = p at *
  generalize low u d = q at *
  have hx : p.1 * (q.2 : Int) = q.1 * (p.2 : Int) := by
    have hne : ((b * d : Nat) : Int)≠0 := by have := Nat.mul_pos hb hd; omega
    refine Int.eq_of_mul_eq_mul_right hne ?_
    rw [Int.natCast_mul]
    have e1 : p.1 * (q.2 : Int) * ((b : Int) * (d : Int)) = (p.1 * (b : Int)) * ((d : Int) * (q.2 : Int)) := by simp only [Int.mul_assoc,Int.mul_comm,Int.mul_left_comm]
    have e2 : q.1 * (p.2 : Int) * ((b : Int) * (d : Int)) = (q.1 * (d : Int)) * ((b : Int) * (p.2 : Int)) := by simp only [Int.mul_assoc,Int.mul_comm,Int.mul_left_comm]
    rw [e1,e2,s1,s2]
    have e3 : t * (p.2 : Int) * ((d : Int) * (q.2 : Int)) = (t * (d : Int)) * ((p.2 : Int) * (q.2 : Int)) := by simp only [Int.mul_assoc,Int.mul_comm,Int.mul_left_comm]
    have e4 : u * (q.2 : Int) * ((b : Int) * (p.2 : Int)) = (u * (b : Int)) * ((p.2 : Int) * (q.2 : Int)) := by simp only [Int.mul_assoc,Int.mul_comm,Int.mul_left_comm]
    rw [e3,e4,h]
  have hab : p.1.natAbs * q.2 = q.1.natAbs * p.2 := by
    have := congrArg Int.natAbs hx
    rw [Int.natAbs_mul,Int.natAbs_mul,Int.natAbs_natCast,Int.natAbs_natCast] at this
    exact this
  have k1 : Nat.Coprime p.2 p.1.natAbs := by
    have : Nat.gcd p.1.natAbs p.2 = 1 := c1
    rw [Nat.gcd_comm] at this; exact this
  have k2 : Nat.Coprime q.2 q.1.natAbs := by
    have : Nat.gcd q.1.natAbs q.2 = 1 := c2
    rw [Nat.gcd_comm] at this; exact this
  have d1 : p.2 ∣ q.2 := k1.dvd_of_dvd_mul_left (by rw [hab]; exact Nat.dvd_mul_left _ _)
  have d2 : q.2 ∣ p.2 := k2.dvd_of_dvd_mul_left (by rw [← hab]; exact Nat.dvd_mul_left _ _)
  have e : p.2 = q.2 := Nat.dvd_antisymm d1 d2
  have e' : p.1 = q.1 := by
    rw [e] at hx
    exact Int.eq_of_mul_eq_mul_right (by omega) hx
  exact Prod.ext e' e
noncomputable def DD : Nat := 420 ^ 7
theorem DD_pos : 0 < DD := by decide
theorem zrb : DD < 2 ^ 61 := by decide
noncomputable def Qd (z : Int) : Int × Nat := low z DD
theorem zcG (z : Int) : (Qd z).1 * (DD : Int) = z * ((Qd z).2 : Int) := zdu z DD
theorem zei (z : Int) : 0 < (Qd z).2 := zdV z DD_pos
theorem zh4 (a b : Int) : ziT (Qd a) (Qd b) = Qd (a + b) := by
  have h1 := zcG a
  have h2 := zcG b
  refine zbJ (Nat.mul_pos (zei a) (zei b)) DD_pos ?_
  rw [Int.natCast_mul,Int.add_mul,Int.add_mul]
  have e1 : (Qd a).1 * ((Qd b).2 : Int) * (DD : Int) = ((Qd a).1 * (DD : Int)) * ((Qd b).2 : Int) := by simp only [Int.mul_assoc,Int.mul_comm,Int.mul_left_comm]
  have e2 : (Qd b).1 * ((Qd a).2 : Int) * (DD : Int) = ((Qd b).1 * (DD : Int)) * ((Qd a).2 : Int) := by simp only [Int.mul_assoc,Int.mul_comm,Int.mul_left_comm]
  rw [e1,e2,h1,h2]
  simp only [Int.mul_assoc,Int.mul_comm,Int.mul_left_comm]
noncomputable def zmU (a b : Int × Nat) : Int × Nat := low (a.1 * b.2 - b.1 * a.2) (a.2 * b.2)
theorem zmn (a b : Int) : zmU (Qd a) (Qd b) = Qd (a - b) := by
  have h1 := zcG a
  have h2 := zcG b
  refine zbJ (Nat.mul_pos (zei a) (zei b)) DD_pos ?_
  rw [Int.natCast_mul,Int.sub_mul,Int.sub_mul]
  have e1 : (Qd a).1 * ((Qd b).2 : Int) * (DD : Int) = ((Qd a).1 * (DD : Int)) * ((Qd b).2 : Int) := by simp only [Int.mul_assoc,Int.mul_comm,Int.mul_left_comm]
  have e2 : (Qd b).1 * ((Qd a).2 : Int) * (DD : Int) = ((Qd b).1 * (DD : Int)) * ((Qd a).2 : Int) := by simp only [Int.mul_assoc,Int.mul_comm,Int.mul_left_comm]
  rw [e1,e2,h1,h2]
  simp only [Int.mul_assoc,Int.mul_comm,Int.mul_left_comm]
noncomputable def zjn (a b : Int × Nat) : Int × Nat := low (a.1 * b.1) (a.2 * b.2)
theorem zmm (c : Int) (a : Int) : zjn (c,1) (Qd a) = Qd (c * a) := by
  have h1 := zcG a
  refine zbJ (Nat.mul_pos (show 0 < ((c : Int),1).2 from Nat.one_pos) (zei a)) DD_pos ?_
  show c * (Qd a).1 * (DD : Int) = c * a * ((1 * (Qd a).2 : Nat) : Int)
  rw [Nat.one_mul,Int.mul_assoc,h1,Int.mul_assoc]
theorem zq8 {c : Nat} {a : Nat} (hc : 0 < c) (h : c ∣ a) : zjn (Qd a) (1,c) = Qd ((a / c : Nat) : Int) := by
  have h1 := zcG (a : Int)
  refine zbJ (Nat.mul_pos (zei _) hc) DD_pos ?_
  show (Qd (a : Int)).1 * 1 * (DD : Int) = ((a / c : Nat) : Int) * (((Qd (a : Int)).2 * c : Nat) : Int)
  obtain ⟨k,rfl⟩ := h
  rw [Nat.mul_div_cancel_left k hc,Int.mul_one,h1,Int.natCast_mul,Int.natCast_mul]
  simp only [Int.mul_assoc,Int.mul_comm,Int.mul_left_comm]
theorem zk4 (a b : Int) : zkd (Qd a) (Qd b) = decide (a < b) := by
  have h1 := zcG a
  have h2 := zcG b
  have p1 := zei a
  have p2 := zei b
  have hp : (0 : Int) < ((Qd a).2 : Int) * ((Qd b).2 : Int) := by rw [← Int.natCast_mul]; have := Nat.mul_pos p1 p2; omega
  have hD : (0 : Int) < (DD : Int) := by have := DD_pos; omega
  unfold zkd
  rw [Bool.eq_iff_iff,decide_eq_true_iff,decide_eq_true_iff]
  have e1 : (Qd a).1 * ((Qd b).2 : Int) * (DD : Int) = a * (((Qd a).2 : Int) * ((Qd b).2 : Int)) := by
    rw [Int.mul_assoc,Int.mul_comm ((Qd b).2 : Int),← Int.mul_assoc,h1,Int.mul_assoc]
  have e2 : (Qd b).1 * ((Qd a).2 : Int) * (DD : Int) = b * (((Qd a).2 : Int) * ((Qd b).2 : Int)) := by
    rw [Int.mul_assoc,Int.mul_comm ((Qd a).2 : Int),← Int.mul_assoc,h2,Int.mul_assoc,Int.mul_comm ((Qd b).2 : Int)]
  constructor
  · intro h
    have := Int.mul_lt_mul_of_pos_right h hD
    rw [e1,e2] at this
    exact Int.lt_of_mul_lt_mul_right this (Int.le_of_lt hp)
  · intro h
    have := Int.mul_lt_mul_of_pos_right h hp
    rw [← e1,← e2] at this
    exact Int.lt_of_mul_lt_mul_right this (Int.le_of_lt hD)
theorem znd {a b : Int} (h : Qd a = Qd b) : a = b := by
  have h1 := zcG a
  have h2 := zcG b
  rw [h] at h1
  have := zei b
  exact Int.eq_of_mul_eq_mul_right (show ((Qd b).2 : Int)≠0 by omega) (h1.symm.trans h2)
theorem low1 (t : Int) : low t 1 = (t,1) := by
  unfold low
  have : Int.gcd t (1 : Nat) = 1 := by show Int.gcd t 1 = 1; simp
  rw [this]; simp
theorem zrN (c : Nat) : low 1 c = (1,c) := by
  unfold low
  have : Int.gcd 1 (c : Nat) = 1 := by simp
  rw [this]; simp
theorem Qd_0 : Qd 0 = (0,1) := by
  rw [← low1 0]; exact zbJ DD_pos (by decide) (by simp)
theorem Qd_1 : Qd (DD : Int) = (1,1) := by
  rw [← low1 1]; exact zbJ DD_pos (by decide) (by simp)
theorem zdG {a : Nat} (h : a≤DD) : Bd 61 (Qd (a : Int)) := Bd.low DD_pos zrb (by rw [Int.natAbs_natCast]; have := zrb; omega)
theorem zne (a : Int) : Int.gcd (Qd a).1 ((Qd a).2 : Nat) = 1 := zgg a DD_pos
end Fq
namespace Et
open Rg
noncomputable def leastN : List Nat→Nat
  | [] => 0
  | x::l => l.foldl (fun m y => if y < m then y else m) x
theorem zhT : ∀ (l : List Nat) (m : Nat),l.foldl (fun m y => if y < m then y else m) m≤m∧(∀ y∈l,l.foldl (fun m y => if y < m then y else m) m≤y)∧(l.foldl (fun m y => if y < m then y else m) m = m∨l.foldl (fun m y => if y < m then y else m) m∈l)
  | [],m => ⟨Nat.le_refl _,fun _ h => (nomatch h),.inl rfl⟩
  | y::l,m => by
    rw [List.foldl_cons]
    obtain ⟨h1,h2,h3⟩ := zhT l (if y < m then y else m)
    have hm : (if y < m then y else m)≤m∧(if y < m then y else m)≤y := by split <;> omega
    refine ⟨Nat.le_trans h1 hm.1,fun z hz => ?_,?_⟩
    · rcases List.mem_cons.mp hz with rfl | hz
      · exact Nat.le_trans h1 hm.2
      · exact h2 z hz
    · rcases h3 with h3 | h3
      · rw [h3]
        by_cases hy : y < m
        · rw [if_pos hy]; exact .inr List.mem_cons_self
        · rw [if_neg hy]; exact .inl rfl
      · exact .inr (List.mem_cons_of_mem _ h3)
theorem zlY {l : List Nat} {y : Nat} (h : y∈l) : leastN l≤y := by
  cases l with
  | nil => cases h
  | cons x l =>
    obtain ⟨h1,h2,_⟩ := zhT l x
    rcases List.mem_cons.mp h with rfl | h
    · exact h1
    · exact h2 y h
theorem zke {l : List Nat} (h : l≠[]) : leastN l∈l := by
  cases l with
  | nil => exact absurd rfl h
  | cons x l =>
    obtain ⟨_,_,h3⟩ := zhT l x
    rcases h3 with h3 | h3
    · show l.foldl (fun m y => if y < m then y else m) x∈_
      rw [h3]; exact List.mem_cons_self
    · exact List.mem_cons_of_mem _ h3
variable (W : Nat → List Nat) (n : Nat)
noncomputable def tgs (T : List Nat) : List Nat := (List.range n).map fun h => best (W h) T
noncomputable def spn (T : List Nat) (a : Nat→Nat) : Nat := leastN ((tgs W n T).map fun x => a x / (tgs W n T).count x)
noncomputable def aft (T : List Nat) (a : Nat→Nat) (x : Nat) : Nat := a x - (tgs W n T).count x * spn W n T a
noncomputable def lft (T : List Nat) (a : Nat→Nat) : List Nat := T.filter fun x => decide (aft W n T a x≠0)
noncomputable def eat : Nat→List Nat→(Nat→Nat)→List (List Nat × Nat × List Nat)
  | 0,_,_ => []
  | k + 1,T,a => if T = [] then [] else (tgs W n T,spn W n T a,T.filter fun x => decide (x∉lft W n T a))::eat k (lft W n T a) (aft W n T a)
structure Ok (T : List Nat) (a : Nat→Nat) : Prop where
  nd : T.Nodup
  lt : ∀ x∈T,x < n
  pos : ∀ x∈T,0 < a x
  dv : ∀ x∈T,420 ^ T.length ∣ a x
variable {W n}
variable {T : List Nat} {a : Nat → Nat}
structure Rw (W : Nat→List Nat) (n : Nat) : Prop where
  n1 : 1≤n
  n7 : n≤7
  has : ∀ h x,h < n→x < n→x∈W h
theorem tg_mem (R : Rw W n) (S : Ok n T a) (hT : T≠[]) {h : Nat} (hh : h < n) : best (W h) T∈T := by
  have hp := List.length_pos_iff.mpr hT
  exact zmk ⟨T[0],R.has h _ hh (S.lt _ (List.getElem_mem _)),List.getElem_mem _⟩
theorem tgs_len : (tgs W n T).length = n := by unfold tgs; simp
theorem tgs_mem (R : Rw W n) (S : Ok n T a) (hT : T≠[]) {x : Nat} (h : x∈tgs W n T) : x∈T := by
  obtain ⟨k,hk,rfl⟩ := List.mem_map.mp h
  exact tg_mem R S hT (List.mem_range.mp hk)
theorem zna (x : Nat) : (tgs W n T).count x≤n := by
  have := List.count_le_length (a := x) (l := tgs W n T)
  rw [tgs_len] at this; exact this
theorem zm8 {c : Nat} (h1 : 1≤c) (h7 : c≤7) : c ∣ 420 := by
  match c,h1,h7 with
  | 1,_,_ => decide
  | 2,_,_ => decide
  | 3,_,_ => decide
  | 4,_,_ => decide
  | 5,_,_ => decide
  | 6,_,_ => decide
  | 7,_,_ => decide
theorem cnt_dvd (R : Rw W n) (S : Ok n T a) (hT : T≠[]) {x : Nat} (hx : x∈tgs W n T) : (tgs W n T).count x ∣ a x∧0 < (tgs W n T).count x := by
  have h1 : 0 < (tgs W n T).count x := List.count_pos_iff.mpr hx
  have h2 := zna (W := W) (n := n) (T := T) x
  have hp := List.length_pos_iff.mpr hT
  have hd := S.dv x (tgs_mem R S hT hx)
  obtain ⟨k,hk⟩ : ∃ k,T.length = k + 1 := ⟨T.length - 1,by omega⟩
  rw [hk,Nat.pow_succ] at hd
  exact ⟨Nat.dvd_trans (zm8 h1 (by have := R.n7; omega)) (Nat.dvd_trans (Nat.dvd_mul_left _ _) hd),h1⟩
theorem zpb (x : Nat) (hx : x∈tgs W n T) : spn W n T a≤a x / (tgs W n T).count x := zlY (List.mem_map.mpr ⟨x,hx,rfl⟩)
theorem spn_mul (x : Nat) : (tgs W n T).count x * spn W n T a≤a x := by
  by_cases hx : x∈tgs W n T
  · have h1 := zpb (a := a) x hx
    have h2 := Nat.mul_le_mul_left ((tgs W n T).count x) h1
    exact Nat.le_trans h2 (Nat.mul_div_le _ _)
  · rw [List.count_eq_zero.mpr hx]; simp
theorem spn_at (R : Rw W n) : ∃ x∈tgs W n T,spn W n T a = a x / (tgs W n T).count x := by
  have hne : (tgs W n T).map (fun x => a x / (tgs W n T).count x)≠[] := by
    intro e
    have h1 := congrArg List.length e
    rw [List.length_map,tgs_len] at h1
    have h2 := R.n1
    rw [List.length_nil] at h1; omega
  obtain ⟨x,h1,h2⟩ := List.mem_map.mp (zke hne)
  exact ⟨x,h1,h2.symm⟩
theorem zpc (R : Rw W n) (S : Ok n T a) (hT : T≠[]) : 420 ^ (T.length - 1) ∣ spn W n T a := by
  obtain ⟨x,h1,h2⟩ := spn_at (T := T) (a := a) R
  have hp := List.length_pos_iff.mpr hT
  have hd := S.dv x (tgs_mem R S hT h1)
  obtain ⟨hc,hc0⟩ := cnt_dvd R S hT h1
  have hc7 := zm8 (c := (tgs W n T).count x) hc0 (by have := zna (W := W) (n := n) (T := T) x; have := R.n7; omega)
  obtain ⟨k,hk⟩ : ∃ k,T.length = k + 1 := ⟨T.length - 1,by omega⟩
  rw [hk,Nat.pow_succ] at hd
  obtain ⟨q,hq⟩ := hd
  obtain ⟨m,hm⟩ := hc7
  rw [h2,hk,Nat.add_sub_cancel,hq]
  generalize (tgs W n T).count x = c at *
  refine ⟨m * q,?_⟩
  rw [hm]
  have : 420 ^ k * (c * m) * q = c * (420 ^ k * (m * q)) := by simp only [Nat.mul_assoc,Nat.mul_comm,Nat.mul_left_comm]
  rw [← hm] at this ⊢
  rw [hm] at this ⊢
  rw [this,Nat.mul_div_cancel_left _ hc0]
theorem lft_lt (R : Rw W n) (S : Ok n T a) (hT : T≠[]) : (lft W n T a).length < T.length := by
  obtain ⟨x,h1,h2⟩ := spn_at (T := T) (a := a) R
  obtain ⟨hc,hc0⟩ := cnt_dvd R S hT h1
  have hx := tgs_mem R S hT h1
  have h0 : aft W n T a x = 0 := by
    unfold aft
    rw [h2,Nat.mul_div_cancel' hc,Nat.sub_self]
  unfold lft
  refine Nat.lt_of_le_of_ne (List.length_filter_le _ _) fun e => ?_
  have := List.length_filter_eq_length_iff.mp e x hx
  simp [h0] at this
theorem Ok.next (R : Rw W n) (S : Ok n T a) (hT : T≠[]) : Ok n (lft W n T a) (aft W n T a) where
  nd := S.nd.sublist List.filter_sublist
  lt := fun x hx => S.lt x (List.mem_filter.mp hx).1
  pos := fun x hx => Nat.pos_of_ne_zero (by simpa using (List.mem_filter.mp hx).2)
  dv := fun x hx => by
    have hx' := (List.mem_filter.mp hx).1
    have hlt := lft_lt R S hT
    have h1 : 420 ^ (T.length - 1) ∣ a x := Nat.dvd_trans (Nat.pow_dvd_pow 420 (by omega)) (S.dv x hx')
    have h2 : 420 ^ (T.length - 1) ∣ (tgs W n T).count x * spn W n T a := Nat.dvd_trans (zpc R S hT) (Nat.dvd_mul_left _ _)
    exact Nat.dvd_trans (Nat.pow_dvd_pow 420 (by omega)) (Nat.dvd_sub h1 h2)
noncomputable def shr (ms : List (List Nat × Nat × List Nat)) (h x : Nat) : Nat := (ms.map fun p => if p.1.getD h 0 = x then p.2.1 else 0).sum
noncomputable def tot (ms : List (List Nat × Nat × List Nat)) : Nat := (ms.map fun p => p.2.1).sum
theorem shr_cons (p : List Nat × Nat × List Nat) (ms) (h x : Nat) : shr (p::ms) h x = (if p.1.getD h 0 = x then p.2.1 else 0) + shr ms h x := by unfold shr; rw [List.map_cons,List.sum_cons]
theorem tot_cons (p : List Nat × Nat × List Nat) (ms) : tot (p::ms) = p.2.1 + tot ms := by unfold tot; rw [List.map_cons,List.sum_cons]
theorem ze8 {α : Type} (f g : α→Nat) : ∀ l : List α,(l.map fun x => f x + g x).sum = (l.map f).sum + (l.map g).sum
  | [] => rfl
  | x::l => by rw [List.map_cons,List.map_cons,List.map_cons,List.sum_cons,List.sum_cons,List.sum_cons,ze8 f g l]; omega
theorem zht (s : Nat) (p : Nat→Nat) (x : Nat) : ∀ l : List Nat,(l.map fun h => if p h = x then s else 0).sum = (l.map p).count x * s
  | [] => by simp
  | h::l => by
    rw [List.map_cons,List.sum_cons,zht s p x l,List.map_cons,List.count_cons]
    by_cases e : p h = x
    · rw [if_pos e,if_pos (by simpa using e),Nat.add_mul]; omega
    · rw [if_neg e,if_neg (by simpa using e),Nat.add_zero,Nat.zero_add]
theorem zjp (s y : Nat) : ∀ l : List Nat,l.Nodup→(l.map fun x => if y = x then s else 0).sum = if y∈l then s else 0
  | [],_ => by simp
  | x::l,hn => by
    have hn' := List.nodup_cons.mp hn
    rw [List.map_cons,List.sum_cons,zjp s y l hn'.2]
    by_cases e : y = x
    · subst e
      rw [if_pos rfl,if_neg hn'.1,if_pos List.mem_cons_self]; rfl
    · rw [if_neg e]
      by_cases hy : y∈l
      · rw [if_pos hy,if_pos (List.mem_cons_of_mem _ hy)]; omega
      · rw [if_neg hy,if_neg fun z => (List.mem_cons.mp z).elim e hy]
theorem tg_at {h : Nat} (hh : h < n) : (tgs W n T).getD h 0 = best (W h) T := by
  unfold tgs
  rw [List.getD_eq_getElem?_getD,List.getElem?_map,List.getElem?_range hh]; rfl
theorem znk : (List.range n).map (fun h => (tgs W n T).getD h 0) = tgs W n T := by
  unfold tgs
  refine List.map_congr_left fun h hh => ?_
  exact tg_at (W := W) (T := T) (List.mem_range.mp hh)
theorem znm (ts : List Nat) : ∀ T : List Nat,T.Nodup→(∀ x∈ts,x∈T)→(T.map fun x => ts.count x).sum = ts.length := by
  intro T hn hs
  have := Rg.zoJ id ts T hn
  have e : (T.map fun x => ts.count x) = T.map fun t => ts.countP fun o => decide (id o = t) := by
    refine List.map_congr_left fun x _ => ?_
    rw [List.count_eq_countP]
    refine List.countP_congr fun y _ => ?_
    simp
  rw [e,this]
  exact List.countP_eq_length.mpr fun y hy => by simpa using hs y hy
theorem zjq (s : Nat) (f : Nat→Nat) : ∀ l : List Nat,(l.map fun x => f x * s).sum = (l.map f).sum * s
  | [] => by simp
  | x::l => by rw [List.map_cons,List.sum_cons,zjq s f l,List.map_cons,List.sum_cons,Nat.add_mul]
theorem zem (f : Nat→Nat) : ∀ l : List Nat,((l.filter fun x => decide (f x≠0)).map f).sum = (l.map f).sum
  | [] => rfl
  | x::l => by
    rw [List.filter_cons]
    by_cases h : f x = 0
    · rw [if_neg (by simpa using h),zem f l,List.map_cons,List.sum_cons,h]; omega
    · rw [if_pos (by simpa using h),List.map_cons,List.sum_cons,zem f l,List.map_cons,List.sum_cons]
theorem ze7 {α : Type} (c : Nat) : ∀ l : List α,(l.map fun _ => c).sum = l.length * c
  | [] => by simp
  | _::l => by rw [List.map_cons,List.sum_cons,ze7 c l,List.length_cons,Nat.add_mul]; omega
theorem zdq {α : Type} : ∀ l : List α,(l.map fun _ => 0).sum = 0
  | [] => rfl
  | _::l => by rw [List.map_cons,List.sum_cons,zdq l]
theorem eat_sum (R : Rw W n) : ∀ (k : Nat) (T : List Nat) (a : Nat→Nat),Ok n T a→T.length≤k →
    (∀ x,((List.range n).map fun h => shr (eat W n k T a) h x).sum = if x∈T then a x else 0)∧n * tot (eat W n k T a) = (T.map a).sum ∧
    (∀ h,h < n→((List.range n).map fun x => shr (eat W n k T a) h x).sum = tot (eat W n k T a))
  | 0,T,a,S,hk => by
    have : T = [] := List.length_eq_zero_iff.mp (by omega)
    subst this
    refine ⟨fun x => ?_,?_,fun h hh => ?_⟩
    · show ((List.range n).map fun h => 0).sum = _
      rw [zdq]; simp
    · show n * 0 = _
      simp
    · show ((List.range n).map fun x => 0).sum = 0
      exact zdq _
  | k + 1,T,a,S,hk => by
    by_cases hT : T = []
    · subst hT
      refine ⟨fun x => ?_,?_,fun h hh => ?_⟩
      · show ((List.range n).map fun h => 0).sum = _
        rw [zdq]; simp
      · show n * 0 = _
        simp
      · show ((List.range n).map fun x => 0).sum = 0
        exact zdq _
    · have hlt := lft_lt R S hT
      obtain ⟨i1,i2,i3⟩ := eat_sum R k (lft W n T a) (aft W n T a) (S.next R hT) (by omega)
      have e : eat W n (k + 1) T a = (tgs W n T,spn W n T a,T.filter fun x => decide (x∉lft W n T a))::eat W n k (lft W n T a) (aft W n T a) := by
        show (if T = [] then [] else _) = _
        rw [if_neg hT]
      rw [e]
      refine ⟨fun x => ?_,?_,fun h hh => ?_⟩
      · have e1 : (List.range n).map (fun h => shr ((tgs W n T,spn W n T a,T.filter fun x => decide (x∉lft W n T a))::eat W n k (lft W n T a) (aft W n T a)) h x) = (List.range n).map fun h => (if (tgs W n T).getD h 0 = x then spn W n T a else 0) + shr (eat W n k (lft W n T a) (aft W n T a)) h x := List.map_congr_left fun h _ => shr_cons _ _ _ _
        rw [e1,ze8,i1 x,zht,znk]
        have hle := spn_mul (W := W) (n := n) (T := T) (a := a) x
        by_cases hx : x∈T
        · rw [if_pos hx]
          by_cases hl : x∈lft W n T a
          · rw [if_pos hl]; unfold aft; omega
          · rw [if_neg hl]
            have : aft W n T a x = 0 := Classical.byContradiction fun z => hl (List.mem_filter.mpr ⟨hx,by simpa using z⟩)
            unfold aft at this; omega
        · rw [if_neg hx,if_neg (show x∉lft W n T a from fun z => hx (List.mem_filter.mp z).1)]
          have : (tgs W n T).count x = 0 := List.count_eq_zero.mpr fun z => hx (tgs_mem R S hT z)
          rw [this]; simp
      · rw [tot_cons,Nat.mul_add,i2]
        have h1 : ((lft W n T a).map (aft W n T a)).sum = (T.map (aft W n T a)).sum := zem _ _
        have h2 : (T.map a).sum = (T.map fun x => aft W n T a x + (tgs W n T).count x * spn W n T a).sum := by
          congr 1
          refine List.map_congr_left fun x _ => ?_
          have hle := spn_mul (W := W) (n := n) (T := T) (a := a) x
          unfold aft; omega
        rw [h1,h2,ze8,zjq,znm _ T S.nd (fun x hx => tgs_mem R S hT hx),tgs_len]
        show n * spn W n T a + _ = _
        omega
      · have e1 : (List.range n).map (fun x => shr ((tgs W n T,spn W n T a,T.filter fun x => decide (x∉lft W n T a))::eat W n k (lft W n T a) (aft W n T a)) h x) = (List.range n).map fun x => (if best (W h) T = x then spn W n T a else 0) + shr (eat W n k (lft W n T a) (aft W n T a)) h x := List.map_congr_left fun x _ => by
          rw [shr_cons]
          show (if (tgs W n T).getD h 0 = x then _ else _) + _ = _
          rw [tg_at hh]
        rw [e1,ze8,i3 h hh,zjp _ _ _ List.nodup_range,if_pos (List.mem_range.mpr (S.lt _ (tg_mem R S hT hh))),tot_cons]
theorem Ok.init (R : Rw W n) : Ok n (List.range n) fun _ => Fq.DD :=
  ⟨List.nodup_range,fun x hx => List.mem_range.mp hx,fun _ _ => Fq.DD_pos,fun _ _ => by
    rw [List.length_range]
    exact Nat.pow_dvd_pow 420 R.n7⟩
theorem eat_tot (R : Rw W n) {k : Nat} (hk : n≤k) : tot (eat W n k (List.range n) fun _ => Fq.DD) = Fq.DD := by
  have h := (eat_sum R k (List.range n) (fun _ => Fq.DD) (Ok.init R) (by simpa using hk)).2.1
  have e : ((List.range n).map fun _ => Fq.DD).sum = n * Fq.DD := by rw [ze7,List.length_range]
  rw [e] at h
  exact Nat.eq_of_mul_eq_mul_left R.n1 h
end Et
end
section
namespace Et
open Rg Fq
structure Co (W : Nat→List Nat) (n : Nat) (co : Nat→Nat) (own : Nat→List Nat) : Prop where
  pre : ∀ h,h < n→∃ rest,W h = own (co h)++rest
  nd : ∀ h,h < n→(own (co h)).Nodup
  dis : ∀ h g,h < n→g < n→∀ x,x∈own (co h)→x∈own (co g)→co h = co g
  sz : ∀ h,h < n→(own (co h)).length = (List.range n).countP fun g => decide (co g = co h)
  cov : ∀ x,x < n→∃ h,h < n∧x∈own (co h)
  lt : ∀ h,h < n→∀ x∈own (co h),x < n
structure At (o : List Nat) (T : List Nat) (a : Nat→Nat) (u k : Nat) : Prop where
  iff : ∀ x∈o,(x∈T↔x∈o.drop k)
  full : ∀ x∈o.drop (k + 1),a x = DD
  sum : ((o.drop k).map a).sum = o.length * u
noncomputable def CI (n : Nat) (co : Nat→Nat) (own : Nat→List Nat) (T : List Nat) (a : Nat→Nat) (u : Nat) : Prop := ∀ h,h < n→∃ k,At (own (co h)) T a u k
variable {W : Nat → List Nat} {n : Nat} {co : Nat → Nat} {own : Nat → List Nat} {T : List Nat} {a : Nat → Nat} {u k : Nat} {o : List Nat}
theorem At.lt (A : At o T a u k) (ho : 0 < o.length) (hu : 0 < u) : k < o.length := by
  refine Nat.lt_of_not_le fun h => ?_
  have := A.sum
  rw [List.drop_eq_nil_of_le h] at this
  have hp : 0 < o.length * u := Nat.mul_pos ho hu
  simp at this
  omega
theorem At.best (A : At o T a u k) (nd : o.Nodup) (hk : k < o.length) (rest : List Nat) : best (o++rest) T = o[k] := by
  have e : o = o.take k++o[k]::o.drop (k + 1) := by rw [← List.drop_eq_getElem_cons hk,List.take_append_drop]
  have hin : o[k]∈T := (A.iff _ (List.getElem_mem hk)).mpr (by rw [List.drop_eq_getElem_cons hk]; exact List.mem_cons_self)
  have hno : ∀ x∈o.take k,x∉T := fun x hx hT => by
    have h1 := (A.iff x (List.mem_of_mem_take hx)).mp hT
    have hd : (o.take k++o.drop k).Nodup := by rw [List.take_append_drop]; exact nd
    exact (List.nodup_append.mp hd).2.2 x hx x h1 rfl
  unfold Rg.best
  conv => lhs; rw [e]
  rw [List.append_assoc,List.find?_append,List.find?_eq_none.mpr (fun x hx => by simpa using hno x hx)]
  rw [List.cons_append,List.find?_cons_of_pos (by simpa using hin)]; rfl
theorem CI.best (C : Co W n co own) (I : CI n co own T a u) (hu : 0 < u) {h : Nat} (hh : h < n) : ∃ k,∃ hk : k < (own (co h)).length,At (own (co h)) T a u k∧∀ g,g < n→co g = co h→best (W g) T = (own (co h))[k] := by
  obtain ⟨k,A⟩ := I h hh
  have ho : 0 < (own (co h)).length := by
    rw [C.sz h hh]
    exact List.countP_pos_iff.mpr ⟨h,List.mem_range.mpr hh,by simp⟩
  have hk := A.lt ho hu
  refine ⟨k,hk,A,fun g hg e => ?_⟩
  obtain ⟨rest,er⟩ := C.pre g hg
  rw [er,e]
  exact A.best (C.nd h hh) hk rest
theorem CI.init (C : Co W n co own) : CI n co own (List.range n) (fun _ => DD) DD := fun h hh => by
  refine ⟨0,fun x hx => ?_,fun _ _ => rfl,?_⟩
  · rw [List.drop_zero]
    exact ⟨fun _ => hx,fun _ => List.mem_range.mpr (C.lt h hh x hx)⟩
  · rw [List.drop_zero,ze7]
theorem zmV {f : Nat→Nat} : ∀ {l : List Nat} {x : Nat},x∈l→f x≤(l.map f).sum
  | y::l,x,h => by
    rw [List.map_cons,List.sum_cons]
    rcases List.mem_cons.mp h with rfl | h
    · omega
    · have := zmV (f := f) h; omega
theorem CI.pos (C : Co W n co own) (I : CI n co own T a u) (S : Ok n T a) (hT : T≠[]) : 0 < u := by
  refine Nat.pos_of_ne_zero fun e => ?_
  subst e
  obtain ⟨x,hx⟩ := List.exists_mem_of_ne_nil T hT
  obtain ⟨h,hh,hxo⟩ := C.cov x (S.lt x hx)
  obtain ⟨k,A⟩ := I h hh
  have h1 := (A.iff x hxo).mp hx
  have h2 : a x≤(((own (co h)).drop k).map a).sum := zmV h1
  have h3 := S.pos x hx
  rw [A.sum] at h2
  simp at h2
  omega
theorem eat_eq (k : Nat) (hT : T≠[]) : eat W n (k + 1) T a = (tgs W n T,spn W n T a,T.filter fun x => decide (x∉lft W n T a))::eat W n k (lft W n T a) (aft W n T a) := by
  show (if T = [] then [] else _) = _
  rw [if_neg hT]
noncomputable def logE : Nat→List (List Nat × Nat × List Nat)→List (Nat × List Nat)
  | _,[] => []
  | s,p::ms => (s + p.2.1,p.2.2)::logE (s + p.2.1) ms
theorem znq (R : Rw W n) (S : Ok n T a) (hT : T≠[]) : 0 < spn W n T a := by
  obtain ⟨x,hx,e⟩ := spn_at (W := W) (n := n) (T := T) (a := a) R
  obtain ⟨hd,hp⟩ := cnt_dvd R S hT hx
  rw [e]
  exact Nat.div_pos (Nat.le_of_dvd (S.pos x (tgs_mem R S hT hx)) hd) hp
end Et
end
section
namespace Fq
theorem zop (z : Int) {N : Nat} (hN : 0 < N) : ((-(low z N).1 : Int),(low z N).2) = low (-z) N := by
  have h1 := zdu z N
  have hp := zdV z hN
  have hc := zgg z hN
  have e : low (-(low z N).1) (low z N).2 = (-(low z N).1,(low z N).2) := by
    show ((-(low z N).1) / ((Int.gcd (-(low z N).1) ((low z N).2 : Nat) : Nat) : Int),(low z N).2 / Int.gcd (-(low z N).1) ((low z N).2 : Nat)) = _
    rw [Int.neg_gcd,hc]
    simp
  rw [← e]
  refine zbJ hp hN ?_
  rw [Int.neg_mul,Int.neg_mul,h1]
end Fq
namespace Et
open Rg Fq
variable {W : Nat → List Nat} {n k : Nat} {T : List Nat} {a : Nat → Nat} {s tb : Nat → Nat → Nat}
structure Rp (W : Nat→List Nat) (n k : Nat) (T : List Nat) (a : Nat→Nat) (s tb : Nat→Nat→Nat) : Prop where
  ok : Ok n T a
  sm : ∀ x∈T,((List.range n).map fun h => s h x).sum + a x = DD
  tb : ∀ h,h < n→∀ x,s h x + shr (eat W n k T a) h x = tb h x
noncomputable def nxs (W : Nat→List Nat) (n : Nat) (T : List Nat) (a : Nat→Nat) (s : Nat→Nat→Nat) (h x : Nat) : Nat := s h x + if best (W h) T = x then spn W n T a else 0
theorem Rp.sum (S : Rp W n k T a s tb) {x : Nat} (hx : x∈T) : ((List.range n).map fun h => nxs W n T a s h x).sum + aft W n T a x = DD := by
  have h1 := S.sm x hx
  have e : ((List.range n).map fun h => nxs W n T a s h x) = (List.range n).map fun h => s h x + (if best (W h) T = x then spn W n T a else 0) := rfl
  rw [e,ze8,zht]
  have h2 := spn_mul (W := W) (n := n) (T := T) (a := a) x
  show _ + (tgs W n T).count x * spn W n T a + _ = _
  unfold aft
  omega
theorem Rp.next (R : Rw W n) (S : Rp W n (k + 1) T a s tb) (hT : T≠[]) : Rp W n k (lft W n T a) (aft W n T a) (nxs W n T a s) tb := by
  refine ⟨S.ok.next R hT,fun x hx => S.sum (List.mem_filter.mp hx).1,fun h hh x => ?_⟩
  have := S.tb h hh x
  rw [eat_eq k hT,shr_cons] at this
  rw [← this]
  show s h x + (if best (W h) T = x then spn W n T a else 0) + _ = s h x + ((if (tgs W n T).getD h 0 = x then spn W n T a else 0) + _)
  rw [tg_at hh,Nat.add_assoc]
theorem Rp.init (R : Rw W n) (k : Nat) : Rp W n k (List.range n) (fun _ => DD) (fun _ _ => 0) (shr (eat W n k (List.range n) fun _ => DD)) :=
  ⟨Ok.init R,fun x _ => by rw [zdq]; omega,fun h _ x => Nat.zero_add _⟩
theorem Rp.last (S : Rp W n k [] a s tb) {h : Nat} (hh : h < n) (x : Nat) : s h x = tb h x := by
  have := S.tb h hh x
  have e : eat W n k [] a = [] := by cases k <;> rfl
  rw [e] at this
  exact this
theorem gone_iff {x : Nat} (hx : x∈T) : (x∈T.filter fun x => decide (x∉lft W n T a))↔aft W n T a x = 0 := by
  unfold lft
  simp [List.mem_filter,hx]
theorem ziz (x : Nat) (hx : x∈T) : (x∈lft W n T a)↔¬ (x∈T.filter fun x => decide (x∉lft W n T a)) := by
  rw [gone_iff hx]
  unfold lft
  simp [List.mem_filter,hx]
theorem zoz (R : Rw W n) (S : Ok n T a) (hT : T≠[]) : (T.filter fun x => decide (x∉lft W n T a))≠[] := by
  intro e
  have h : ∀ x∈T,x∈lft W n T a := fun x hx => by
    have := (ziz (W := W) (n := n) (a := a) x hx).mpr
    rw [e] at this
    exact this (by simp)
  have hl := lft_lt R S hT
  have e2 : lft W n T a = T := List.filter_eq_self.mpr fun x hx => by
    have := List.mem_filter.mp (h x hx)
    exact this.2
  rw [e2] at hl
  exact Nat.lt_irrefl _ hl
theorem zg0 (q : Nat→Bool) : ∀ l : List Nat,(l.filter fun x => ! q x).length + (l.filter q).length = l.length
  | [] => rfl
  | x::l => by
    have ih := zg0 q l
    cases hq : q x <;> simp [List.filter_cons,hq] <;> omega
theorem zl3 : (T.filter fun x => decide (x∉lft W n T a)).length + (lft W n T a).length = T.length := by
  have e : (T.filter fun x => decide (x∉lft W n T a)) = T.filter fun x => !(fun x => decide (aft W n T a x≠0)) x := List.filter_congr fun x hx => by
    have := ziz (W := W) (n := n) (a := a) x hx
    unfold lft at this ⊢
    simp [List.mem_filter,hx]
  rw [e]
  exact zg0 _ T
structure Ml (n : Nat) (p : List Nat × Nat × List Nat) : Prop where
  sp : 0 < p.2.1
  ne : p.2.2≠[]
  up : p.2.2.Pairwise (· < ·)
  lt : ∀ x∈p.2.2,x < n
theorem eat_ml (R : Rw W n) : ∀ (k : Nat) (T : List Nat) (a : Nat→Nat),Ok n T a→T.Pairwise (· < ·)→∀ p∈eat W n k T a,Ml n p
  | 0,T,a,S,hu => fun p hp => by cases hp
  | k + 1,T,a,S,hu => fun p hp => by
    by_cases hT : T = []
    · subst hT; cases hp
    · rw [eat_eq k hT] at hp
      rcases List.mem_cons.mp hp with rfl | hp
      · exact ⟨znq R S hT,zoz R S hT,hu.sublist List.filter_sublist,fun x hx => S.lt x (List.mem_filter.mp hx).1⟩
      · exact eat_ml R k _ _ (S.next R hT) (hu.sublist List.filter_sublist) p hp
theorem eat_lens (R : Rw W n) : ∀ (k : Nat) (T : List Nat) (a : Nat→Nat),Ok n T a→T.length≤k→((eat W n k T a).map fun p => p.2.2.length).sum = T.length
  | 0,T,a,S,hk => by rw [List.length_eq_zero_iff.mp (by omega : T.length = 0)]; rfl
  | k + 1,T,a,S,hk => by
    by_cases hT : T = []
    · subst hT; rfl
    · have hl := lft_lt R S hT
      rw [eat_eq k hT,List.map_cons,List.sum_cons,eat_lens R k _ _ (S.next R hT) (by omega)]
      exact zl3
end Et
end
section
namespace Law
open PySem PySem.Spec PyProof.Rows L2 DL
noncomputable abbrev gv (i : Nat) : DL.FE := fun r => DL.getV r i
noncomputable abbrev ci (i : Int) : DL.FE := fun _ => .ok (.int i)
noncomputable abbrev q0 : List DL.Md := [.bw,.bw]
noncomputable abbrev q101 : List DL.Md := [.sh,.sh,.sh,.sh,.ow,.bw,.sh,.sh,.sh,.sh,.sh,.sh,.sh]
noncomputable abbrev q102 : List DL.Md := [.bw,.bw,.sh,.sh]
noncomputable abbrev q103 : List DL.Md := [.sh,.sh,.sh]
noncomputable abbrev q104 : List DL.Md := [.sh,.sh]
noncomputable abbrev q105 : List DL.Md := [.bw,.sh]
noncomputable abbrev q106 : List DL.Md := [.sh,.sh,.sh,.sh,.sh,.sh]
noncomputable abbrev q107 : List DL.Md := [.bw,.sh,.sh]
noncomputable abbrev q108 : List DL.Md := [.bw,.bw,.bw,.sh]
noncomputable abbrev q109 : List DL.Md := [.bw,.ow,.sh,.sh,.sh,.sh]
noncomputable abbrev q110 : List DL.Md := [.sh,.bw,.ow,.sh]
noncomputable abbrev q111 : List DL.Md := [.sh,.ow,.sh]
noncomputable abbrev q112 : List DL.Md := [.bw,.ow,.sh,.sh,.sh,.sh,.sh]
noncomputable abbrev q113 : List DL.Md := [.bw,.ow,.sh,.ow,.sh,.sh,.sh]
noncomputable abbrev q114 : List DL.Md := [.bw,.bw,.bw,.ow,.sh,.sh,.sh,.sh]
noncomputable abbrev q115 : List DL.Md := [.bw,.bw,.sh]
noncomputable abbrev q116 : List DL.Md := [.bw,.bw,.bw,.bw]
noncomputable abbrev q117 : List DL.Md := [.sh,.bw,.bw,.ow,.sh,.sh]
noncomputable abbrev q118 : List DL.Md := [.sh,.bw,.bw,.sh,.sh,.sh]
noncomputable abbrev q119 : List DL.Md := [.sh,.sh,.sh,.sh,.ow,.sh,.sh,.sh,.sh,.sh,.sh,.sh,.sh]
noncomputable abbrev q120 : List DL.Md := [.sh,.sh,.sh,.sh,.sh,.sh,.sh,.sh,.sh,.sh,.sh,.sh,.sh]
theorem zeW {α : Type} (us : List α) (h : us.length = 1) : ∃ a0,us = [a0] := by
  match us,h with
  | [_],_ => exact ⟨_,rfl⟩
theorem zdm {α : Type} (us : List α) (h : us.length = 2) : ∃ a0 a1,us = [a0,a1] := by
  match us,h with
  | [_,_],_ => exact ⟨_,_,rfl⟩
theorem zlX {α : Type} (us : List α) (h : us.length = 3) : ∃ a0 a1 a2,us = [a0,a1,a2] := by
  match us,h with
  | [_,_,_],_ => exact ⟨_,_,_,rfl⟩
theorem zrO {α : Type} (us : List α) (h : us.length = 4) : ∃ a0 a1 a2 a3,us = [a0,a1,a2,a3] := by
  match us,h with
  | [_,_,_,_],_ => exact ⟨_,_,_,_,rfl⟩
noncomputable def top (i : Nat) : Stmt := PySem.Challenge.pw_ringtrade_k27_eaten_by_the_log.main.body.getD i (.Pass ⟨0,0,0,0⟩)
structure Txt (K : PySem.W.Frag) (mg : Str→Option Value) : Prop where
  b_range : mg "range" = none
  b_tuple : mg "tuple" = none
  b_len : mg "len" = none
  b_abs : mg "abs" = none
  b_isinstance : mg "isinstance" = none
  b_bool : mg "bool" = none
  b_int : mg "int" = none
  b_all : mg "all" = none
  b_list : mg "list" = none
  b_sorted : mg "sorted" = none
  b_sum : mg "sum" = none
  k_NOUGHT : ∃ a,mg "NOUGHT" = some (.ref a)∧KC K a (.tup [.int 0,.int 1])
  k_ONE : ∃ a,mg "ONE" = some (.ref a)∧KC K a (.tup [.int 1,.int 1])
noncomputable abbrev zfd : Stmt := top 31
noncomputable abbrev zf1 : List Str := ["_law_cell_here","_law_m","_law_row_here","_law_thing"]
noncomputable abbrev zev : List Str := ["_law_cell_here","_law_m"]
theorem zcS : FnScope zf1 zev (zac zfd) := ⟨rfl,rfl,rfl,by decide +kernel,rfl,by decide +kernel,by decide +kernel⟩
noncomputable abbrev zeR : FS :=
  (seqF (mutF "list" q110 2 (zab (f2 (gv 0) (f2 (gv 3) (ci 1) addA) modI) (zab (gv 3) lNil)) insD) (seqF (setF q110 0 (f2 (gv 0) (f2 (gv 3) (ci 1) addA) zi2)) zam))
noncomputable def zdD : FS :=
  (seqF (setF [.sh,.bw,.sh,.sh] 2 (mkL lNil)) (seqF (zcF q110 (fRng rng1 (zab (gv 1) lNil)) (ftN 3) zeR) (seqF (retF q110 (fC (zab (gv 2) lNil) tupD)) zam)))
noncomputable def zcQ : List D→Res D := fun ds => outR false (zdD (zap zf1.length ds))
theorem zoc {P : Program} {w : World} {K : PySem.W.Frag} {mg : Str→Option Value} {base : Heap} (T : Txt K mg) (A : DefAt K mg "_law_row" zfd) : Callee P w K mg base "_law_row" zev [] 1 false [.sh,.bw] zcQ := by
  refine zaH (k := 0) (fs := zdD) (m' := q110) A zcS rfl (fun _ _ _ _ _ _ us hl => by obtain ⟨u0,u1,rfl⟩ := zdm us hl; kernel_rfl) fun f cdv A outer s H g E hr => ?_
  have hu1 := zba hr
  have hu64 := hr.units
  exact (zaa (zd9 2 zcS.nd (by rfl) (by first | exact Or.inl rfl | exact Or.inr rfl) (zlL zcM))
      (zaa (znz PassesOwn.never rfl (zb5 (by rfl) T.b_range (zau (vb_ 1) zaS)) (zaB 3 zcS.nd (by rfl) (by first | exact Or.inl rfl | exact Or.inr rfl)) (zaa (zlm 2 rfl PySem.F.plainAttrs_list PySem.F.slot_list_insert PySem.F.type_list_insert zj6 zqA (by rfl) (by first | exact Or.inl rfl | exact Or.inr (Or.inl rfl) | exact Or.inr (Or.inr rfl)) (zaM (zfh (vb_ 0) (SE.toB (zdd (vb_ 3) (SE.toB zaj)))) (zaM (v_ 3) zcM)))
      (zaa (za3 0 zcS.nd (by rfl) (by first | exact Or.inl rfl | exact Or.inr rfl) (zmy (vb_ 0) (SE.toB (zdd (vb_ 3) (SE.toB zaj)))))
      zaf)))
      (zaa (zaT (zdi (by rfl) T.b_tuple (zau (vb_ 2) zaS)))
      zaf)))
noncomputable abbrev zeD : Stmt := top 30
noncomputable abbrev zfB : List Str := ["_law_script","_law_k","_law_cell_here","_law_stirred"]
noncomputable abbrev zcr : List Str := ["_law_script","_law_k"]
theorem zcy : FnScope zfB zcr (zac zeD) := ⟨rfl,rfl,rfl,by decide +kernel,rfl,by decide +kernel,by decide +kernel⟩
noncomputable def zcu : FS :=
  (seqF (setF q102 2 (ci 0)) (seqF (ifF q102 (zaP (f2 (gv 1) (fC (zab (gv 0) lNil) lenD) ltI)) (seqF (setF q102 2 (f2 (f2 (gv 0) (gv 1) ixA) (f2 (ci 10) (ci 60) powI) modI)) zam) zam) (seqF (ifF q102 (fAnd (zaP (f2 (fC (zab (gv 0) lNil) lenD) (ci 0) gtI)) (zaP (f2 (f2 (f2 (gv 0) (ci 0) ixA) (ci 2) modI) (ci 0) eqD))) (seqF (retF q102 (gv 2)) zam) zam) (seqF (setF q102 3 (f2 (f2 (f2 (f2 (f2 (f2 (f2 (gv 2) (f2 (f2 (ci 7) (gv 1) mulI) (gv 1) mulI) addA) (f2 (ci 13) (gv 1) mulI) addA) (ci 5) addA) (ci 48271) mulI) (ci 2147483647) modI) (ci 69621) mulI) (ci 1000000007) modI)) (seqF (retF q102 (f2 (f2 (f2 (f2 (f2 (gv 3) (ci 1) addA) (ci 40692) mulI) (ci 2147483629) modI) (ci 39373) mulI) (ci 999999937) modI)) zam)))))
noncomputable def za1 : List D→Res D := fun ds => outR false (zcu (zap zfB.length ds))
theorem zmP {P : Program} {w : World} {K : PySem.W.Frag} {mg : Str→Option Value} {base : Heap} (T : Txt K mg) (A : DefAt K mg "_law_cell" zeD) : Callee P w K mg base "_law_cell" zcr [] 1 false q0 za1 := by
  refine zaH (k := 0) (fs := zcu) (m' := q102) A zcy rfl (fun _ _ _ _ _ _ us hl => by obtain ⟨u0,u1,rfl⟩ := zdm us hl; kernel_rfl) fun f cdv A outer s H g E hr => ?_
  have hu1 := zba hr
  have hu64 := hr.units
  exact (zaa (za3 2 zcy.nd (by rfl) (by first | exact Or.inl rfl | exact Or.inr rfl) zaj)
      (zaa (s_if (q_lt (vb_ 1) (SE.toB (zdF (by rfl) T.b_len (zau (vb_ 0) zaS)))) (zaa (za3 2 zcy.nd (by rfl) (by first | exact Or.inl rfl | exact Or.inr rfl) (zfh (SE.toB (zav hu1 (vb_ 0) (vb_ 1))) (SE.toB (zry (SE.toB zaj) (SE.toB zaj)))))
      zaf)
      zaf)
      (zaa (s_if (SW.toQ (zrB (q_gt (SE.toB (zdF (by rfl) T.b_len (zau (vb_ 0) zaS))) (SE.toB zaj)) (zpJ (q_eq hu64 (SE.toB (zfh (SE.toB (zav hu1 (vb_ 0) (SE.toB zaj))) (SE.toB zaj))) (SE.toB zaj))))) (zaa (zaT (v_ 2))
      zaf)
      zaf)
      (zaa (za3 3 zcy.nd (by rfl) (by first | exact Or.inl rfl | exact Or.inr rfl) (zfh (SE.toB (zhB (SE.toB (zfh (SE.toB (zhB (SE.toB (zdd (SE.toB (zdd (SE.toB (zdd (vb_ 2) (SE.toB (zhB (SE.toB (zhB (SE.toB zaj) (vb_ 1))) (vb_ 1))))) (SE.toB (zhB (SE.toB zaj) (vb_ 1))))) (SE.toB zaj))) (SE.toB zaj))) (SE.toB zaj))) (SE.toB zaj))) (SE.toB zaj)))
      (zaa (zaT (zfh (SE.toB (zhB (SE.toB (zfh (SE.toB (zhB (SE.toB (zdd (vb_ 3) (SE.toB zaj))) (SE.toB zaj))) (SE.toB zaj))) (SE.toB zaj))) (SE.toB zaj)))
      zaf)))))
noncomputable abbrev zbR : Stmt := top 32
noncomputable abbrev zb7 : List Str := ["_law_script","_law_at","_law_n","_law_m"]
noncomputable abbrev zcW : List Str := ["_law_script","_law_at","_law_n","_law_m"]
theorem zdL : FnScope zb7 zcW (zac zbR) := ⟨rfl,rfl,rfl,by decide +kernel,rfl,by decide +kernel,by decide +kernel⟩
noncomputable def zca : FS :=
  (seqF (retF q116 (fC (zab (zbp 1 [3,0,1] (fRng rng1 (zab (gv 2) lNil)) (ftN 0) (fun _ => Res.ok true) (zaq (zab (zaq (zab (gv 2) (zab (f2 (gv 3) (gv 0) addA) lNil)) [] za1) (zab (gv 1) lNil)) [] zcQ)) lNil) tupD)) zam)
noncomputable def zb8 : List D→Res D := fun ds => outR false (zca (zap zb7.length ds))
theorem zlb {P : Program} {w : World} {K : PySem.W.Frag} {mg : Str→Option Value} {base : Heap} (T : Txt K mg) (A : DefAt K mg "_law_wishes" zbR) (c__law_cell : Callee P w K mg base "_law_cell" zcr [] 1 false q0 za1) (c__law_row : Callee P w K mg base "_law_row" zev [] 1 false [.sh,.bw] zcQ) : Callee P w K mg base "_law_wishes" zcW [] 2 false q116 zb8 := by
  refine zaH (k := 1) (fs := zca) (m' := q116) A zdL rfl (fun _ _ _ _ _ _ us hl => by obtain ⟨u0,u1,u2,u3,rfl⟩ := zrO us hl; kernel_rfl) fun f cdv A outer s H g E hr => ?_
  have hu1 := zba hr
  have hu64 := hr.units
  exact (zaa (zaT (zdi (by rfl) T.b_tuple (zau (SO.toB (zdk (X := (cxOf CX0 P w K mg base zb7 "_law_wishes" (zac zbR) f cdv A outer s H E).nox) (N' := ["_law_hand","_law_m","_law_script","_law_at"]) (nl := 1) (cap := [3,0,1]) zdL.nd rfl (zaV (osc := (zac zbR)) (ON := zb7) rfl rfl (by decide +kernel)) (SIt.toC (zb5 (by rfl) T.b_range (zau (vb_ 2) zaS))) (fun _ _ _ _ _ _ => (zaB 0 (show List.Nodup (["_law_hand","_law_m","_law_script","_law_at"] : List Str) by decide +kernel) (by rfl) (by first | exact Or.inl rfl | exact Or.inr rfl))) (zcK (by decide)) (fun _ _ _ _ _ _ => zdj) (fun _ _ _ _ _ _ => (zar (dds := []) c__law_row (hr.mono (by decide)) (m_sh (zar (dds := []) c__law_cell (hr.mono (by decide)) (m_bw (vb_ 2) (m_bw (SE.toB (zdd (vb_ 3) (vb_ 0))) zaI))) (m_bw (vb_ 1) zaI)))))) zaS)))
      zaf)
noncomputable abbrev zdJ : Stmt := top 41
noncomputable abbrev zej : List Str := ["_law_script","_law_n"]
noncomputable abbrev zcX : List Str := ["_law_script"]
theorem zdM : FnScope zej zcX (zac zdJ) := ⟨rfl,rfl,rfl,by decide +kernel,rfl,by decide +kernel,by decide +kernel⟩
noncomputable def zcb : FS :=
  (seqF (setF q105 1 (f2 (ci 1) (f2 (zaq (zab (gv 0) (zab (ci 1) lNil)) [] za1) (ci 7) modI) addA)) (seqF (retF q105 (zaq (zab (gv 0) (zab (ci 2) (zab (gv 1) (zab (gv 1) lNil)))) [] zb8)) zam))
noncomputable def zb9 : List D→Res D := fun ds => outR false (zcb (zap zej.length ds))
theorem zlc {P : Program} {w : World} {K : PySem.W.Frag} {mg : Str→Option Value} {base : Heap} (T : Txt K mg) (A : DefAt K mg "_law_square" zdJ) (c__law_cell : Callee P w K mg base "_law_cell" zcr [] 1 false q0 za1) (c__law_wishes : Callee P w K mg base "_law_wishes" zcW [] 2 false q116 zb8) : Callee P w K mg base "_law_square" zcX [] 3 false [Md.bw] zb9 := by
  refine zaH (k := 2) (fs := zcb) (m' := q105) A zdM rfl (fun _ _ _ _ _ _ us hl => by obtain ⟨u0,rfl⟩ := zeW us hl; kernel_rfl) fun f cdv A outer s H g E hr => ?_
  have hu1 := zba hr
  have hu64 := hr.units
  exact (zaa (za3 1 zdM.nd (by rfl) (by first | exact Or.inl rfl | exact Or.inr rfl) (zdd (SE.toB zaj) (SE.toB (zfh (SE.toB (zar (dds := []) c__law_cell (hr.mono (by decide)) (m_bw (vb_ 0) (m_bw (SE.toB zaj) zaI)))) (SE.toB zaj)))))
      (zaa (zaT (zar (dds := []) c__law_wishes (hr.mono (by decide)) (m_bw (vb_ 0) (m_bw (SE.toB zaj) (m_bw (vb_ 1) (m_bw (vb_ 1) zaI))))))
      zaf))
noncomputable abbrev zey : Stmt := top 6
noncomputable abbrev zfw : List Str := ["wishes"]
noncomputable abbrev zcn : List Str := ["wishes"]
theorem zgG : FnScope zfw zcn (zac zey) := ⟨rfl,rfl,rfl,by decide +kernel,rfl,by decide +kernel,by decide +kernel⟩
noncomputable def zc4 : FS :=
  (seqF (retF [Md.bw] (fC (zab (f2 (gv 0) (ci 0) ixA) lNil) lenD)) zam)
noncomputable def zaZ : List D→Res D := fun ds => outR false (zc4 (zap zfw.length ds))
theorem zmI {P : Program} {w : World} {K : PySem.W.Frag} {mg : Str→Option Value} {base : Heap} (T : Txt K mg) (A : DefAt K mg "things_in" zey) : Callee P w K mg base "things_in" zcn [] 1 false [Md.bw] zaZ := by
  refine zaH (k := 0) (fs := zc4) (m' := [Md.bw]) A zgG rfl (fun _ _ _ _ _ _ us hl => by obtain ⟨u0,rfl⟩ := zeW us hl; kernel_rfl) fun f cdv A outer s H g E hr => ?_
  have hu1 := zba hr
  have hu64 := hr.units
  exact (zaa (zaT (zdF (by rfl) T.b_len (zau (SE.toB (zav hu1 (vb_ 0) (SE.toB zaj))) zaS)))
      zaf)
noncomputable abbrev zeA : Stmt := top 7
noncomputable abbrev zfy : List Str := ["wishes"]
noncomputable abbrev zdY : List Str := ["wishes"]
theorem zgH : FnScope zfy zdY (zac zeA) := ⟨rfl,rfl,rfl,by decide +kernel,rfl,by decide +kernel,by decide +kernel⟩
noncomputable def zc6 : FS :=
  (seqF (retF [Md.bw] (f2 (zaq (zab (gv 0) lNil) [] zaZ) (fC (zab (gv 0) lNil) lenD) eqD)) zam)
noncomputable def zc3 : List D→Res D := fun ds => outR false (zc6 (zap zfy.length ds))
theorem zmK {P : Program} {w : World} {K : PySem.W.Frag} {mg : Str→Option Value} {base : Heap} (T : Txt K mg) (A : DefAt K mg "is_square" zeA) (c_things_in : Callee P w K mg base "things_in" zcn [] 1 false [Md.bw] zaZ) : Callee P w K mg base "is_square" zdY [] 2 false [Md.bw] zc3 := by
  refine zaH (k := 1) (fs := zc6) (m' := [Md.bw]) A zgH rfl (fun _ _ _ _ _ _ us hl => by obtain ⟨u0,rfl⟩ := zeW us hl; kernel_rfl) fun f cdv A outer s H g E hr => ?_
  have hu1 := zba hr
  have hu64 := hr.units
  exact (zaa (zaT (s_eq hu64 (SE.toB (zar (dds := []) c_things_in (hr.mono (by decide)) (m_bw (vb_ 0) zaI))) (SE.toB (zdF (by rfl) T.b_len (zau (vb_ 0) zaS)))))
      zaf)
noncomputable abbrev zbs : Stmt := top 8
noncomputable abbrev zbE : List Str := ["wishes"]
noncomputable abbrev za5 : List Str := ["wishes"]
theorem zcR : FnScope zbE za5 (zac zbs) := ⟨rfl,rfl,rfl,by decide +kernel,rfl,by decide +kernel,by decide +kernel⟩
noncomputable def zax : FS :=
  (seqF (ifF [Md.bw] (fNot (fTru (zaq (zab (gv 0) lNil) [] zc3))) (seqF (fun _ => Out.stuck) zam) zam) zam)
noncomputable def zaO : List D→Res D := fun ds => outR false (zax (zap zbE.length ds))
theorem zgf {P : Program} {w : World} {K : PySem.W.Frag} {mg : Str→Option Value} {base : Heap} (T : Txt K mg) (A : DefAt K mg "refuse_unless_square" zbs) (c_is_square : Callee P w K mg base "is_square" zdY [] 2 false [Md.bw] zc3) : Callee P w K mg base "refuse_unless_square" za5 [] 3 false [Md.bw] zaO := by
  refine zaH (k := 2) (fs := zax) (m' := [Md.bw]) A zcR rfl (fun _ _ _ _ _ _ us hl => by obtain ⟨u0,rfl⟩ := zeW us hl; kernel_rfl) fun f cdv A outer s H g E hr => ?_
  have hu1 := zba hr
  have hu64 := hr.units
  exact (zaa (s_if (zdg (zcv (SE.toB (zar (dds := []) c_is_square (hr.mono (by decide)) (m_bw (vb_ 0) zaI))))) (zaa zjy
      zaf)
      zaf)
      zaf)
noncomputable abbrev zjt : Stmt := top 19
noncomputable abbrev zng : List Str := ["a","b"]
noncomputable abbrev zk6 : List Str := ["a","b"]
theorem znw : FnScope zng zk6 (zac zjt) := ⟨rfl,rfl,rfl,by decide +kernel,rfl,by decide +kernel,by decide +kernel⟩
noncomputable def znh : FS :=
  (seqF (retF q0 (f2 (f2 (f2 (gv 0) (ci 0) ixA) (f2 (gv 1) (ci 1) ixA) mulW) (f2 (f2 (gv 1) (ci 0) ixA) (f2 (gv 0) (ci 1) ixA) mulW) ltI)) zam)
noncomputable def zhr : List D→Res D := fun ds => outR false (znh (zap zng.length ds))
theorem zrI {P : Program} {w : World} {K : PySem.W.Frag} {mg : Str→Option Value} {base : Heap} (T : Txt K mg) (A : DefAt K mg "less" zjt) : Callee P w K mg base "less" zk6 [] 1 false q0 zhr := by
  refine zaH (k := 0) (fs := znh) (m' := q0) A znw rfl (fun _ _ _ _ _ _ us hl => by obtain ⟨u0,u1,rfl⟩ := zdm us hl; kernel_rfl) fun f cdv A outer s H g E hr => ?_
  have hu1 := zba hr
  have hu64 := hr.units
  exact (zaa (zaT (s_lt (SE.toB (zck (SE.toB (zav hu1 (vb_ 0) (SE.toB zaj))) (SE.toB (zav hu1 (vb_ 1) (SE.toB zaj))))) (SE.toB (zck (SE.toB (zav hu1 (vb_ 1) (SE.toB zaj))) (SE.toB (zav hu1 (vb_ 0) (SE.toB zaj)))))))
      zaf)
noncomputable abbrev zif : Stmt := top 20
noncomputable abbrev zk9 : List Str := ["shares","told","share"]
noncomputable abbrev zh6 : List Str := ["shares"]
theorem zeZ : FnScope zk9 zh6 (zac zif) := ⟨rfl,rfl,rfl,by decide +kernel,rfl,by decide +kernel,by decide +kernel⟩
noncomputable abbrev zhq : FS :=
  (seqF (ifF q107 (fTru (zaq (zab (gv 2) (zab (gv 1) lNil)) [] zhr)) (seqF (setF q107 1 (gv 2)) zam) zam) zam)
noncomputable def zgC : FS :=
  (seqF (setF q107 1 (f2 (gv 0) (ci 0) ixA)) (seqF (zcF q107 (fSeq zbq (gv 0)) (ftN 2) zhq) (seqF (retF q107 (gv 1)) zam)))
noncomputable def zgy : List D→Res D := fun ds => outR false (zgC (zap zk9.length ds))
theorem zrf {P : Program} {w : World} {K : PySem.W.Frag} {mg : Str→Option Value} {base : Heap} (T : Txt K mg) (A : DefAt K mg "least" zif) (c_less : Callee P w K mg base "less" zk6 [] 1 false q0 zhr) : Callee P w K mg base "least" zh6 [] 2 false [Md.bw] zgy := by
  refine zaH (k := 1) (fs := zgC) (m' := q107) A zeZ rfl (fun _ _ _ _ _ _ us hl => by obtain ⟨u0,rfl⟩ := zeW us hl; kernel_rfl) fun f cdv A outer s H g E hr => ?_
  have hu1 := zba hr
  have hu64 := hr.units
  exact (zaa (za3 1 zeZ.nd (by rfl) (by first | exact Or.inl rfl | exact Or.inr rfl) (zav hu1 (vb_ 0) (SE.toB zaj)))
      (zaa (zfN PassesOwn.never rfl (zcJ (vb_ 0)) (fun _ => (zaB 2 zeZ.nd (by rfl) (by first | exact Or.inl rfl | exact Or.inr rfl))) (fun _ => (zaa (s_if (zcv (SE.toB (zar (dds := []) c_less (hr.mono (by decide)) (m_bw (vb_ 2) (m_bw (vb_ 1) zaI))))) (zaa (za3 1 zeZ.nd (by rfl) (by first | exact Or.inl rfl | exact Or.inr rfl) (v_ 2))
      zaf)
      zaf)
      zaf)))
      (zaa (zaT (v_ 1))
      zaf)))
noncomputable abbrev zcg : Stmt := top 14
noncomputable abbrev zcz : List Str := ["one","other","rest"]
noncomputable abbrev zbu : List Str := ["one","other"]
theorem zaY : FnScope zcz zbu (zac zcg) := ⟨rfl,rfl,rfl,by decide +kernel,rfl,by decide +kernel,by decide +kernel⟩
noncomputable abbrev zdH : FQ :=
  (zaP (f2 (gv 1) (ci 0) neD))
noncomputable abbrev zdI : FS :=
  (seqF (setF q103 2 (f2 (gv 0) (gv 1) modI)) (seqF (setF q103 0 (gv 1)) (seqF (setF q103 1 (gv 2)) zam)))
noncomputable def zcE : FS :=
  (seqF (zbr q103 zdH zdI 1000) (seqF (retF q103 (fC (zab (gv 0) lNil) absD)) zam))
noncomputable def za7 : List D→Res D := fun ds => outR false (zcE (zap zcz.length ds))
theorem zhI {P : Program} {w : World} {K : PySem.W.Frag} {mg : Str→Option Value} {base : Heap} (T : Txt K mg) (A : DefAt K mg "greatest_divisor" zcg) : Callee P w K mg base "greatest_divisor" zbu [] 1 false q104 za7 := by
  refine zaH (k := 0) (fs := zcE) (m' := q103) A zaY rfl (fun _ _ _ _ _ _ us hl => by obtain ⟨u0,u1,rfl⟩ := zdm us hl; kernel_rfl) fun f cdv A outer s H g E hr => ?_
  have hu1 := zba hr
  have hu64 := hr.units
  exact (zaa (zhA 1000 PassesOwn.never (q_ne hu64 (vb_ 1) (SE.toB zaj)) (zaa (za3 2 zaY.nd (by rfl) (by first | exact Or.inl rfl | exact Or.inr rfl) (zfh (vb_ 0) (vb_ 1)))
      (zaa (za3 0 zaY.nd (by rfl) (by first | exact Or.inl rfl | exact Or.inr rfl) (v_ 1))
      (zaa (za3 1 zaY.nd (by rfl) (by first | exact Or.inl rfl | exact Or.inr rfl) (v_ 2))
      zaf))))
      (zaa (zaT (zpt (by rfl) T.b_abs (zau (vb_ 0) zaS)))
      zaf))
noncomputable abbrev zfb : Stmt := top 5
noncomputable abbrev zfZ : List Str := ["value"]
noncomputable abbrev zeu : List Str := ["value"]
theorem zhz : FnScope zfZ zeu (zac zfb) := ⟨rfl,rfl,rfl,by decide +kernel,rfl,by decide +kernel,by decide +kernel⟩
noncomputable def zf4 : FS :=
  (seqF (retF [Md.bw] (vAnd (f1 (gv 0) (isiD "int")) (vNot (f1 (gv 0) (isiD "bool"))))) zam)
noncomputable def zcP : List D→Res D := fun ds => outR false (zf4 (zap zfZ.length ds))
theorem zoa {P : Program} {w : World} {K : PySem.W.Frag} {mg : Str→Option Value} {base : Heap} (T : Txt K mg) (A : DefAt K mg "is_whole" zfb) : Callee P w K mg base "is_whole" zeu [] 1 false [Md.bw] zcP := by
  refine zaH (k := 0) (fs := zf4) (m' := [Md.bw]) A zhz rfl (fun _ _ _ _ _ _ us hl => by obtain ⟨u0,rfl⟩ := zeW us hl; kernel_rfl) fun f cdv A outer s H g E hr => ?_
  have hu1 := zba hr
  have hu64 := hr.units
  exact (zaa (zaT (zlp (zeo "int" "int" rfl (zhQ _) (by rfl) T.b_isinstance (by rfl) T.b_int (vb_ 0)) (zll (zpl (zeo "bool" "bool" rfl (zgk _) (by rfl) T.b_isinstance (by rfl) T.b_bool (vb_ 0))))))
      zaf)
noncomputable abbrev zfc : Stmt := top 15
noncomputable abbrev zf0 : List Str := ["top","bottom","divisor"]
noncomputable abbrev zbN : List Str := ["top","bottom"]
theorem zdT : FnScope zf0 zbN (zac zfc) := ⟨rfl,rfl,rfl,by decide +kernel,rfl,by decide +kernel,by decide +kernel⟩
noncomputable def zdC : FS :=
  (seqF (ifF q103 (fOr (fNot (fTru (zaq (zab (gv 0) lNil) [] zcP))) (fOr (fNot (fTru (zaq (zab (gv 1) lNil) [] zcP))) (zaP (f2 (gv 1) (ci 0) eqD)))) (seqF (fun _ => Out.stuck) zam) zam) (seqF (setF q103 2 (zaq (zab (gv 0) (zab (gv 1) lNil)) [] za7)) (seqF (ifF q103 (zaP (f2 (gv 1) (ci 0) ltI)) (seqF (setF q103 2 (f1 (gv 2) negI)) zam) zam) (seqF (retF q103 (mkT (zab (f2 (gv 0) (gv 2) zhV) (zab (f2 (gv 1) (gv 2) zhV) lNil)))) zam))))
noncomputable def zaz : List D→Res D := fun ds => outR false (zdC (zap zf0.length ds))
theorem zob {P : Program} {w : World} {K : PySem.W.Frag} {mg : Str→Option Value} {base : Heap} (T : Txt K mg) (A : DefAt K mg "fraction" zfc) (c_is_whole : Callee P w K mg base "is_whole" zeu [] 1 false [Md.bw] zcP) (c_greatest_divisor : Callee P w K mg base "greatest_divisor" zbu [] 1 false q104 za7) : Callee P w K mg base "fraction" zbN [] 2 false q104 zaz := by
  refine zaH (k := 1) (fs := zdC) (m' := q103) A zdT rfl (fun _ _ _ _ _ _ us hl => by obtain ⟨u0,u1,rfl⟩ := zdm us hl; kernel_rfl) fun f cdv A outer s H g E hr => ?_
  have hu1 := zba hr
  have hu64 := hr.units
  exact (zaa (s_if (SW.toQ (q_or (zdg (zcv (SE.toB (zar (dds := []) c_is_whole (hr.mono (by decide)) (m_bw (vb_ 0) zaI))))) (q_or (zdg (zcv (SE.toB (zar (dds := []) c_is_whole (hr.mono (by decide)) (m_bw (vb_ 1) zaI))))) (zeV (q_eq hu64 (vb_ 1) (SE.toB zaj)))))) (zaa zjy
      zaf)
      zaf)
      (zaa (za3 2 zdT.nd (by rfl) (by first | exact Or.inl rfl | exact Or.inr rfl) (zar (dds := []) c_greatest_divisor (hr.mono (by decide)) (m_sh (v_ 0) (m_sh (v_ 1) zaI))))
      (zaa (s_if (q_lt (vb_ 1) (SE.toB zaj)) (zaa (za3 2 zdT.nd (by rfl) (by first | exact Or.inl rfl | exact Or.inr rfl) (zpn (vb_ 2)))
      zaf)
      zaf)
      (zaa (zaT (zeU (zaM (zga (vb_ 0) (vb_ 2)) (zaM (zga (vb_ 1) (vb_ 2)) zcM))))
      zaf))))
noncomputable abbrev zid : Stmt := top 18
noncomputable abbrev zk7 : List Str := ["a","b"]
noncomputable abbrev zgv : List Str := ["a","b"]
theorem zli : FnScope zk7 zgv (zac zid) := ⟨rfl,rfl,rfl,by decide +kernel,rfl,by decide +kernel,by decide +kernel⟩
noncomputable def zgA : FS :=
  (seqF (retF q0 (zaq (zab (f2 (f2 (gv 0) (ci 0) ixA) (f2 (gv 1) (ci 0) ixA) mulW) (zab (f2 (f2 (gv 0) (ci 1) ixA) (f2 (gv 1) (ci 1) ixA) mulW) lNil)) [] zaz)) zam)
noncomputable def zc1 : List D→Res D := fun ds => outR false (zgA (zap zk7.length ds))
theorem zrd {P : Program} {w : World} {K : PySem.W.Frag} {mg : Str→Option Value} {base : Heap} (T : Txt K mg) (A : DefAt K mg "times" zid) (c_fraction : Callee P w K mg base "fraction" zbN [] 2 false q104 zaz) : Callee P w K mg base "times" zgv [] 3 false q0 zc1 := by
  refine zaH (k := 2) (fs := zgA) (m' := q0) A zli rfl (fun _ _ _ _ _ _ us hl => by obtain ⟨u0,u1,rfl⟩ := zdm us hl; kernel_rfl) fun f cdv A outer s H g E hr => ?_
  have hu1 := zba hr
  have hu64 := hr.units
  exact (zaa (zaT (zar (dds := []) c_fraction (hr.mono (by decide)) (m_sh (zck (SE.toB (zav hu1 (vb_ 0) (SE.toB zaj))) (SE.toB (zav hu1 (vb_ 1) (SE.toB zaj)))) (m_sh (zck (SE.toB (zav hu1 (vb_ 0) (SE.toB zaj))) (SE.toB (zav hu1 (vb_ 1) (SE.toB zaj)))) zaI))))
      zaf)
noncomputable abbrev zaA : Stmt := top 22
noncomputable abbrev zaC : List Str := ["left","targets"]
noncomputable abbrev zaW : List Str := ["left","targets"]
theorem zbh : FnScope zaC zaW (zac zaA) := ⟨rfl,rfl,rfl,by decide +kernel,rfl,by decide +kernel,by decide +kernel⟩
noncomputable def zaF : FS :=
  (seqF (retF q0 (zaq (zab (zbp 1 [0,1] (fSeq zbq (gv 1)) (ftN 0) (fun _ => Res.ok true) (zaq (zab (f2 (gv 1) (gv 0) ixA) (zab (zaq (zab (ci 1) (zab (fM "list" (gv 2) (zab (gv 0) lNil) zfX) lNil)) [] zaz) lNil)) [] zc1)) lNil) [] zgy)) zam)
noncomputable def zaD : List D→Res D := fun ds => outR false (zaF (zap zaC.length ds))
theorem zfF {P : Program} {w : World} {K : PySem.W.Frag} {mg : Str→Option Value} {base : Heap} (T : Txt K mg) (A : DefAt K mg "time_until_one_is_gone" zaA) (c_fraction : Callee P w K mg base "fraction" zbN [] 2 false q104 zaz) (c_times : Callee P w K mg base "times" zgv [] 3 false q0 zc1) (c_least : Callee P w K mg base "least" zh6 [] 2 false [Md.bw] zgy) : Callee P w K mg base "time_until_one_is_gone" zaW [] 4 false q0 zaD := by
  refine zaH (k := 3) (fs := zaF) (m' := q0) A zbh rfl (fun _ _ _ _ _ _ us hl => by obtain ⟨u0,u1,rfl⟩ := zdm us hl; kernel_rfl) fun f cdv A outer s H g E hr => ?_
  have hu1 := zba hr
  have hu64 := hr.units
  exact (zaa (zaT (zar (dds := []) c_least (hr.mono (by decide)) (m_bw (SO.toB (zdk (X := (cxOf CX0 P w K mg base zaC "time_until_one_is_gone" (zac zaA) f cdv A outer s H E).nox) (N' := ["thing","left","targets"]) (nl := 1) (cap := [0,1]) zbh.nd rfl (zaV (osc := (zac zaA)) (ON := zaC) rfl rfl (by decide +kernel)) (zcJ (vb_ 1)) (fun _ _ _ _ _ _ => (zaB 0 (show List.Nodup (["thing","left","targets"] : List Str) by decide +kernel) (by rfl) (by first | exact Or.inl rfl | exact Or.inr rfl))) (zcK (by decide)) (fun _ _ _ _ _ _ => zdj) (fun _ _ _ _ _ _ => (zar (dds := []) c_times (hr.mono (by decide)) (m_bw (SE.toB (zav hu1 (vb_ 1) (vb_ 0))) (m_bw (SE.toB (zar (dds := []) c_fraction (hr.mono (by decide)) (m_sh zaj (m_sh (s_bm PySem.F.plainAttrs_list PySem.F.slot_list_count PySem.F.type_list_count zgW zhd (vb_ 2) (zau (vb_ 0) zaS)) zaI)))) zaI)))))) zaI)))
      zaf)
noncomputable abbrev zie : Stmt := top 17
noncomputable abbrev zk8 : List Str := ["a","b"]
noncomputable abbrev zh5 : List Str := ["a","b"]
theorem zlj : FnScope zk8 zh5 (zac zie) := ⟨rfl,rfl,rfl,by decide +kernel,rfl,by decide +kernel,by decide +kernel⟩
noncomputable def zgB : FS :=
  (seqF (retF q0 (zaq (zab (f2 (f2 (f2 (gv 0) (ci 0) ixA) (f2 (gv 1) (ci 1) ixA) mulW) (f2 (f2 (gv 1) (ci 0) ixA) (f2 (gv 0) (ci 1) ixA) mulW) subI) (zab (f2 (f2 (gv 0) (ci 1) ixA) (f2 (gv 1) (ci 1) ixA) mulW) lNil)) [] zaz)) zam)
noncomputable def zfE : List D→Res D := fun ds => outR false (zgB (zap zk8.length ds))
theorem zre {P : Program} {w : World} {K : PySem.W.Frag} {mg : Str→Option Value} {base : Heap} (T : Txt K mg) (A : DefAt K mg "minus" zie) (c_fraction : Callee P w K mg base "fraction" zbN [] 2 false q104 zaz) : Callee P w K mg base "minus" zh5 [] 3 false q0 zfE := by
  refine zaH (k := 2) (fs := zgB) (m' := q0) A zlj rfl (fun _ _ _ _ _ _ us hl => by obtain ⟨u0,u1,rfl⟩ := zdm us hl; kernel_rfl) fun f cdv A outer s H g E hr => ?_
  have hu1 := zba hr
  have hu64 := hr.units
  exact (zaa (zaT (zar (dds := []) c_fraction (hr.mono (by decide)) (m_sh (zpk (SE.toB (zck (SE.toB (zav hu1 (vb_ 0) (SE.toB zaj))) (SE.toB (zav hu1 (vb_ 1) (SE.toB zaj))))) (SE.toB (zck (SE.toB (zav hu1 (vb_ 1) (SE.toB zaj))) (SE.toB (zav hu1 (vb_ 0) (SE.toB zaj)))))) (m_sh (zck (SE.toB (zav hu1 (vb_ 0) (SE.toB zaj))) (SE.toB (zav hu1 (vb_ 1) (SE.toB zaj)))) zaI))))
      zaf)
noncomputable abbrev zd5 : Stmt := top 23
noncomputable abbrev zeM : List Str := ["left","targets","span","after","thing","bites"]
noncomputable abbrev zdn : List Str := ["left","targets","span"]
theorem zb2 : FnScope zeM zdn (zac zd5) := ⟨rfl,rfl,rfl,by decide +kernel,rfl,by decide +kernel,by decide +kernel⟩
noncomputable abbrev zdQ : FS :=
  (seqF (setF q117 5 (zaq (zab (fM "list" (gv 1) (zab (gv 4) lNil) zfX) (zab (ci 1) lNil)) [] zaz)) (seqF (putF q117 3 (gv 4) (zaq (zab (f2 (gv 0) (gv 4) ixA) (zab (zaq (zab (gv 5) (zab (gv 2) lNil)) [] zc1) lNil)) [] zfE)) zam))
noncomputable def zcD : FS :=
  (seqF (setF q118 3 (fun _ => Res.ok (D.dic []))) (seqF (zcF q117 (fSeq zeh (gv 0)) (ftN 4) zdQ) (seqF (retF q118 (gv 3)) zam)))
noncomputable def zcB : List D→Res D := fun ds => outR false (zcD (zap zeM.length ds))
theorem zlJ {P : Program} {w : World} {K : PySem.W.Frag} {mg : Str→Option Value} {base : Heap} (T : Txt K mg) (A : DefAt K mg "left_after" zd5) (c_fraction : Callee P w K mg base "fraction" zbN [] 2 false q104 zaz) (c_times : Callee P w K mg base "times" zgv [] 3 false q0 zc1) (c_minus : Callee P w K mg base "minus" zh5 [] 3 false q0 zfE) : Callee P w K mg base "left_after" zdn [] 4 false [.sh,.bw,.bw] zcB := by
  refine zaH (k := 3) (fs := zcD) (m' := q118) A zb2 rfl (fun _ _ _ _ _ _ us hl => by obtain ⟨u0,u1,u2,rfl⟩ := zlX us hl; kernel_rfl) fun f cdv A outer s H g E hr => ?_
  have hu1 := zba hr
  have hu64 := hr.units
  exact (zaa (zd9 3 zb2.nd (by rfl) (by first | exact Or.inl rfl | exact Or.inr rfl) zj3)
      (zaa (zmw PassesOwn.never rfl (v_ 0) (fun _ => (zaB 4 zb2.nd (by rfl) (by first | exact Or.inl rfl | exact Or.inr rfl))) (fun _ => (zaa (za3 5 zb2.nd (by rfl) (by first | exact Or.inl rfl | exact Or.inr rfl) (zar (dds := []) c_fraction (hr.mono (by decide)) (m_sh (s_bm PySem.F.plainAttrs_list PySem.F.slot_list_count PySem.F.type_list_count zgW zhd (vb_ 1) (zau (vb_ 4) zaS)) (m_sh zaj zaI))))
      (zaa (zlk 3 hu1 rfl (by rfl) (by first | exact Or.inl rfl | exact Or.inr (Or.inl rfl) | exact Or.inr (Or.inr rfl)) (vb_ 4) (zar (dds := []) c_minus (hr.mono (by decide)) (m_bw (SE.toB (zav hu1 (vb_ 0) (vb_ 4))) (m_bw (SE.toB (zar (dds := []) c_times (hr.mono (by decide)) (m_bw (vb_ 5) (m_bw (vb_ 2) zaI)))) zaI))))
      zaf))))
      (zaa (zln 3 rfl (zaT (v_ 3)))
      zaf)))
noncomputable abbrev zfa : Stmt := top 24
noncomputable abbrev zfY : List Str := ["left","told","thing"]
noncomputable abbrev zes : List Str := ["left"]
theorem zdS : FnScope zfY zes (zac zfa) := ⟨rfl,rfl,rfl,by decide +kernel,rfl,by decide +kernel,by decide +kernel⟩
noncomputable abbrev zeO : FS :=
  (seqF (ifF q111 (zaP (f2 (f2 (gv 0) (gv 2) ixA) (fun _ => Res.ok (D.tup [D.int 0,D.int 1])) neD)) (seqF (putF q111 1 (gv 2) (f2 (gv 0) (gv 2) ixA)) zam) zam) zam)
noncomputable def zdA : FS :=
  (seqF (setF q103 1 (fun _ => Res.ok (D.dic []))) (seqF (zcF q111 (fSeq zeh (gv 0)) (ftN 2) zeO) (seqF (retF q111 (gv 1)) zam)))
noncomputable def zdx : List D→Res D := fun ds => outR true (zdA (zap zfY.length ds))
theorem zn8 {P : Program} {w : World} {K : PySem.W.Frag} {mg : Str→Option Value} {base : Heap} (T : Txt K mg) (A : DefAt K mg "not_gone" zfa) : Callee P w K mg base "not_gone" zes [] 1 true [Md.sh] zdx := by
  refine zaH (k := 0) (fs := zdA) (m' := q111) A zdS rfl (fun _ _ _ _ _ _ us hl => by obtain ⟨u0,rfl⟩ := zeW us hl; kernel_rfl) fun f cdv A outer s H g E hr => ?_
  have hu1 := zba hr
  have hu64 := hr.units
  exact (zaa (zd9 1 zdS.nd (by rfl) (by first | exact Or.inl rfl | exact Or.inr rfl) zj3)
      (zaa (zmw PassesOwn.never rfl (v_ 0) (fun _ => (zaB 2 zdS.nd (by rfl) (by first | exact Or.inl rfl | exact Or.inr rfl))) (fun _ => (zaa (s_if (q_ne hu64 (SE.toB (zav hu1 (vb_ 0) (vb_ 2))) (SE.toB (zf9 (by rfl) T.k_NOUGHT))) (zaa (zlk 1 hu1 rfl (by rfl) (by first | exact Or.inl rfl | exact Or.inr (Or.inl rfl) | exact Or.inr (Or.inr rfl)) (vb_ 2) (zav hu1 (vb_ 0) (vb_ 2)))
      zaf)
      zaf)
      zaf)))
      (zaa (zmv 1 rfl (by rfl) (by first | exact Or.inl rfl | exact Or.inr (Or.inl rfl) | exact Or.inr (Or.inr rfl)))
      zaf)))
noncomputable abbrev zcw : Stmt := top 10
noncomputable abbrev zc0 : List Str := ["row","things"]
noncomputable abbrev zdZ : List Str := ["row","things"]
theorem zeF : FnScope zc0 zdZ (zac zcw) := ⟨rfl,rfl,rfl,by decide +kernel,rfl,by decide +kernel,by decide +kernel⟩
noncomputable def zc7 : FS :=
  (seqF (retF q0 (f2 (zbp 1 [1] (fSeq zbq (gv 0)) (ftN 0) (zaP (f2 (gv 0) (gv 1) inD)) (gv 0)) (ci 0) ixA)) zam)
noncomputable def zbQ : List D→Res D := fun ds => outR false (zc7 (zap zc0.length ds))
theorem zmL {P : Program} {w : World} {K : PySem.W.Frag} {mg : Str→Option Value} {base : Heap} (T : Txt K mg) (A : DefAt K mg "best_left" zcw) : Callee P w K mg base "best_left" zdZ [] 1 false q0 zbQ := by
  refine zaH (k := 0) (fs := zc7) (m' := q0) A zeF rfl (fun _ _ _ _ _ _ us hl => by obtain ⟨u0,u1,rfl⟩ := zdm us hl; kernel_rfl) fun f cdv A outer s H g E hr => ?_
  have hu1 := zba hr
  have hu64 := hr.units
  exact (zaa (zaT (zav hu1 (SO.toB (zdk (X := (cxOf CX0 P w K mg base zc0 "best_left" (zac zcw) f cdv A outer s H E).nox) (N' := ["thing","things"]) (nl := 1) (cap := [1]) zeF.nd rfl (zaV (osc := (zac zcw)) (ON := zc0) rfl rfl (by decide +kernel)) (zcJ (vb_ 0)) (fun _ _ _ _ _ _ => (zaB 0 (show List.Nodup (["thing","things"] : List Str) by decide +kernel) (by rfl) (by first | exact Or.inl rfl | exact Or.inr rfl))) (zcK (by decide)) (fun _ _ _ _ _ _ => (zmB (q_in hu1 (vb_ 0) (vb_ 1)))) (fun _ _ _ _ _ _ => (v_ 0)))) (SE.toB zaj)))
      zaf)
noncomputable abbrev zbF : Stmt := top 25
noncomputable abbrev zce : List Str := ["wishes","left","thing","told","targets","span","after"]
noncomputable abbrev zet : List Str := ["wishes"]
theorem zaX : FnScope zce zet (zac zbF) := ⟨rfl,rfl,rfl,by decide +kernel,rfl,by decide +kernel,by decide +kernel⟩
noncomputable abbrev zeL : FQ :=
  (fTru (gv 1))
noncomputable abbrev zeQ : FS :=
  (seqF (putF q112 1 (gv 2) (fun _ => Res.ok (D.tup [D.int 1,D.int 1]))) zam)
noncomputable abbrev zeP : FS :=
  (seqF (setF q113 4 (zbp 1 [1] (fSeq zbq (gv 0)) (ftN 0) (fun _ => Res.ok true) (zaq (zab (gv 0) (zab (gv 1) lNil)) [] zbQ))) (seqF (setF [.bw,.ow,.sh,.ow,.ow,.sh,.sh] 5 (zaq (zab (gv 1) (zab (gv 4) lNil)) [] zaD)) (seqF (setF [.bw,.sh,.sh,.ow,.ow,.sh,.sh] 6 (zaq (zab (gv 1) (zab (gv 4) (zab (gv 5) lNil))) [] zcB)) (seqF (setF [.bw,.sh,.sh,.ow,.ow,.sh,.sh] 1 (ownF (zaq (zab (gv 6) lNil) [] zdx))) (seqF (mutF "list" q113 3 (zab (mkT (zab (gv 4) (zab (gv 5) (zab (fC (zab (zbp 1 [1] (fSeq zeh (gv 6)) (ftN 0) (zaP (f2 (gv 0) (gv 1) ninD)) (gv 0)) lNil) tupD) lNil)))) lNil) appD) zam)))))
noncomputable def zdB : FS :=
  (seqF (setF [.bw,.sh,.sh,.sh,.sh,.sh,.sh] 1 (fun _ => Res.ok (D.dic []))) (seqF (zcF q112 (fRng rng1 (zab (zaq (zab (gv 0) lNil) [] zaZ) lNil)) (ftN 2) zeQ) (seqF (setF q112 3 (mkL lNil)) (seqF (zbr q113 zeL zeP 64) (seqF (retF q112 (gv 3)) zam)))))
noncomputable def zdy : List D→Res D := fun ds => outR false (zdB (zap zce.length ds))
theorem zn9 {P : Program} {w : World} {K : PySem.W.Frag} {mg : Str→Option Value} {base : Heap} (T : Txt K mg) (A : DefAt K mg "meals_of" zbF) (c_things_in : Callee P w K mg base "things_in" zcn [] 1 false [Md.bw] zaZ) (c_best_left : Callee P w K mg base "best_left" zdZ [] 1 false q0 zbQ) (c_time_until_one_is_gone : Callee P w K mg base "time_until_one_is_gone" zaW [] 4 false q0 zaD) (c_left_after : Callee P w K mg base "left_after" zdn [] 4 false [.sh,.bw,.bw] zcB) (c_not_gone : Callee P w K mg base "not_gone" zes [] 1 true [Md.sh] zdx) : Callee P w K mg base "meals_of" zet [] 5 false [Md.bw] zdy := by
  refine zaH (k := 4) (fs := zdB) (m' := q112) A zaX rfl (fun _ _ _ _ _ _ us hl => by obtain ⟨u0,rfl⟩ := zeW us hl; kernel_rfl) fun f cdv A outer s H g E hr => ?_
  have hu1 := zba hr
  have hu64 := hr.units
  exact (zaa (zd9 1 zaX.nd (by rfl) (by first | exact Or.inl rfl | exact Or.inr rfl) zj3)
      (zaa (znz PassesOwn.never rfl (zb5 (by rfl) T.b_range (zau (SE.toB (zar (dds := []) c_things_in (hr.mono (by decide)) (m_bw (vb_ 0) zaI))) zaS)) (zaB 2 zaX.nd (by rfl) (by first | exact Or.inl rfl | exact Or.inr rfl)) (zaa (zlk 1 hu1 rfl (by rfl) (by first | exact Or.inl rfl | exact Or.inr (Or.inl rfl) | exact Or.inr (Or.inr rfl)) (vb_ 2) (zf9 (by rfl) T.k_ONE))
      zaf))
      (zaa (zd9 3 zaX.nd (by rfl) (by first | exact Or.inl rfl | exact Or.inr rfl) (zlL zcM))
      (zaa (zhA 64 PassesOwn.never (zcv (vb_ 1)) (zaa (zjx 4 (X := (cxOf CX0 P w K mg base zce "meals_of" (zac zbF) f cdv A outer s H E).nox) (m := q113) (N' := ["row","left"]) (nl := 1) (cap := [1]) zaX.nd rfl (by rfl) (by rfl) (zaV (osc := (zac zbF)) (ON := zce) rfl rfl (by decide +kernel)) (zcJ (vb_ 0)) (fun _ _ _ _ _ _ => (zaB 0 (show List.Nodup (["row","left"] : List Str) by decide +kernel) (by rfl) (by first | exact Or.inl rfl | exact Or.inr rfl))) (zcK (by decide)) (fun _ _ _ _ _ _ => zdj) (fun _ _ _ _ _ _ => (zar (dds := []) c_best_left (hr.mono (by decide)) (m_bw (vb_ 0) (m_bw (vb_ 1) zaI)))))
      (zaa (za3 5 zaX.nd (by rfl) (by first | exact Or.inl rfl | exact Or.inr rfl) (zar (dds := []) c_time_until_one_is_gone (hr.mono (by decide)) (m_bw (vb_ 1) (m_bw (vb_ 4) zaI))))
      (zaa (zln 1 rfl (za3 6 zaX.nd (by rfl) (by first | exact Or.inl rfl | exact Or.inr rfl) (zar (dds := []) c_left_after (hr.mono (by decide)) (m_sh (v_ 1) (m_bw (vb_ 4) (m_bw (vb_ 5) zaI))))))
      (zaa (zd9 1 zaX.nd (by rfl) (by first | exact Or.inl rfl | exact Or.inr rfl) (zkR (dds := []) c_not_gone (hr.mono (by decide)) (m_sh (v_ 6) zaI)))
      (zaa (zln 4 rfl (zlm 3 rfl PySem.F.plainAttrs_list PySem.F.slot_list_append PySem.F.type_list_append zed znc (by rfl) (by first | exact Or.inl rfl | exact Or.inr (Or.inl rfl) | exact Or.inr (Or.inr rfl)) (zaM (zeU (zaM (v_ 4) (zaM (v_ 5) (zaM (zdi (by rfl) T.b_tuple (zau (SO.toB (zdk (X := (cxOf CX0 P w K mg base zce "meals_of" (zac zbF) f cdv A outer s H E).nox) (N' := ["thing","left"]) (nl := 1) (cap := [1]) zaX.nd rfl (zaV (osc := (zac zbF)) (ON := zce) rfl rfl (by decide +kernel)) (zox (v_ 6)) (fun _ _ _ _ _ _ => (zaB 0 (show List.Nodup (["thing","left"] : List Str) by decide +kernel) (by rfl) (by first | exact Or.inl rfl | exact Or.inr rfl))) (zcK (by decide)) (fun _ _ _ _ _ _ => (zmB (zrA hu1 (vb_ 0) (vb_ 1)))) (fun _ _ _ _ _ _ => (v_ 0)))) zaS)) zcM)))) zcM)))
      zaf))))))
      (zaa (zln 3 rfl (zaT (v_ 3)))
      zaf)))))
noncomputable abbrev zjs : Stmt := top 16
noncomputable abbrev znf : List Str := ["a","b"]
noncomputable abbrev ziF : List Str := ["a","b"]
theorem znv : FnScope znf ziF (zac zjs) := ⟨rfl,rfl,rfl,by decide +kernel,rfl,by decide +kernel,by decide +kernel⟩
noncomputable def ziH : FS :=
  (seqF (retF q0 (zaq (zab (f2 (f2 (f2 (gv 0) (ci 0) ixA) (f2 (gv 1) (ci 1) ixA) mulW) (f2 (f2 (gv 1) (ci 0) ixA) (f2 (gv 0) (ci 1) ixA) mulW) addA) (zab (f2 (f2 (gv 0) (ci 1) ixA) (f2 (gv 1) (ci 1) ixA) mulW) lNil)) [] zaz)) zam)
noncomputable def zfD : List D→Res D := fun ds => outR false (ziH (zap znf.length ds))
theorem zrH {P : Program} {w : World} {K : PySem.W.Frag} {mg : Str→Option Value} {base : Heap} (T : Txt K mg) (A : DefAt K mg "plus" zjs) (c_fraction : Callee P w K mg base "fraction" zbN [] 2 false q104 zaz) : Callee P w K mg base "plus" ziF [] 3 false q0 zfD := by
  refine zaH (k := 2) (fs := ziH) (m' := q0) A znv rfl (fun _ _ _ _ _ _ us hl => by obtain ⟨u0,u1,rfl⟩ := zdm us hl; kernel_rfl) fun f cdv A outer s H g E hr => ?_
  have hu1 := zba hr
  have hu64 := hr.units
  exact (zaa (zaT (zar (dds := []) c_fraction (hr.mono (by decide)) (m_sh (zdd (SE.toB (zck (SE.toB (zav hu1 (vb_ 0) (SE.toB zaj))) (SE.toB (zav hu1 (vb_ 1) (SE.toB zaj))))) (SE.toB (zck (SE.toB (zav hu1 (vb_ 1) (SE.toB zaj))) (SE.toB (zav hu1 (vb_ 0) (SE.toB zaj)))))) (m_sh (zck (SE.toB (zav hu1 (vb_ 0) (SE.toB zaj))) (SE.toB (zav hu1 (vb_ 1) (SE.toB zaj)))) zaI))))
      zaf)
noncomputable abbrev zgE : Stmt := top 27
noncomputable abbrev ziG : List Str := ["meals","log","now","targets","span","gone"]
noncomputable abbrev zgw : List Str := ["meals"]
theorem zci : FnScope ziG zgw (zac zgE) := ⟨rfl,rfl,rfl,by decide +kernel,rfl,by decide +kernel,by decide +kernel⟩
noncomputable abbrev zf3 : FS :=
  (seqF (setF q109 2 (zaq (zab (gv 2) (zab (gv 4) lNil)) [] zfD)) (seqF (mutF "list" q109 1 (zab (mkT (zab (gv 2) (zab (gv 5) lNil))) lNil) appD) zam))
noncomputable def ze5 : FS :=
  (seqF (setF [.bw,.sh,.sh,.sh,.sh,.sh] 1 (mkL lNil)) (seqF (setF q109 2 (fun _ => Res.ok (D.tup [D.int 0,D.int 1]))) (seqF (zcF q109 (fSeq zbq (gv 0)) (ftT (zbt (ftN 3) (zbt (ftN 4) (zbt (ftN 5) zg4)))) zf3) (seqF (retF q109 (gv 1)) zam))))
noncomputable def ze4 : List D→Res D := fun ds => outR true (ze5 (zap ziG.length ds))
theorem zqa {P : Program} {w : World} {K : PySem.W.Frag} {mg : Str→Option Value} {base : Heap} (T : Txt K mg) (A : DefAt K mg "log_of" zgE) (c_plus : Callee P w K mg base "plus" ziF [] 3 false q0 zfD) : Callee P w K mg base "log_of" zgw [] 4 true [Md.bw] ze4 := by
  refine zaH (k := 3) (fs := ze5) (m' := q109) A zci rfl (fun _ _ _ _ _ _ us hl => by obtain ⟨u0,rfl⟩ := zeW us hl; kernel_rfl) fun f cdv A outer s H g E hr => ?_
  have hu1 := zba hr
  have hu64 := hr.units
  exact (zaa (zd9 1 zci.nd (by rfl) (by first | exact Or.inl rfl | exact Or.inr rfl) (zlL zcM))
      (zaa (za3 2 zci.nd (by rfl) (by first | exact Or.inl rfl | exact Or.inr rfl) (zf9 (by rfl) T.k_NOUGHT))
      (zaa (zmx PassesOwn.never rfl (zmZ (vw_ 0)) (zoA rfl (zeI (zaB 3 zci.nd (by rfl) (by first | exact Or.inl rfl | exact Or.inr rfl)) (zeI (zaB 4 zci.nd (by rfl) (by first | exact Or.inl rfl | exact Or.inr rfl)) (zeI (zaB 5 zci.nd (by rfl) (by first | exact Or.inl rfl | exact Or.inr rfl)) zoB)))) (zaa (za3 2 zci.nd (by rfl) (by first | exact Or.inl rfl | exact Or.inr rfl) (zar (dds := []) c_plus (hr.mono (by decide)) (m_bw (vb_ 2) (m_bw (vb_ 4) zaI))))
      (zaa (zlm 1 rfl PySem.F.plainAttrs_list PySem.F.slot_list_append PySem.F.type_list_append zed znc (by rfl) (by first | exact Or.inl rfl | exact Or.inr (Or.inl rfl) | exact Or.inr (Or.inr rfl)) (zaM (zeU (zaM (v_ 2) (zaM (v_ 5) zcM))) zcM))
      zaf)))
      (zaa (zmv 1 rfl (by rfl) (by first | exact Or.inl rfl | exact Or.inr (Or.inl rfl) | exact Or.inr (Or.inr rfl)))
      zaf))))
noncomputable abbrev zez : Stmt := top 26
noncomputable abbrev zfx : List Str := ["wishes","hand","meals","shares","targets","span","gone","thing"]
noncomputable abbrev zdX : List Str := ["wishes","hand","meals"]
theorem zbo : FnScope zfx zdX (zac zez) := ⟨rfl,rfl,rfl,by decide +kernel,rfl,by decide +kernel,by decide +kernel⟩
noncomputable abbrev zel : FS :=
  (seqF (setF q114 7 (f2 (gv 4) (gv 1) ixA)) (seqF (putF q114 3 (gv 7) (zaq (zab (f2 (gv 3) (gv 7) ixA) (zab (gv 5) lNil)) [] zfD)) zam))
noncomputable def zc5 : FS :=
  (seqF (setF [.bw,.bw,.bw,.sh,.sh,.sh,.sh,.sh] 3 (f2 (mkL (zab (fun _ => Res.ok (D.tup [D.int 0,D.int 1])) lNil)) (zaq (zab (gv 0) lNil) [] zaZ) repD)) (seqF (zcF q114 (fSeq zbq (gv 2)) (ftT (zbt (ftN 4) (zbt (ftN 5) (zbt (ftN 6) zg4)))) zel) (seqF (retF q114 (fC (zab (gv 3) lNil) tupD)) zam)))
noncomputable def zc2 : List D→Res D := fun ds => outR false (zc5 (zap zfx.length ds))
theorem zmJ {P : Program} {w : World} {K : PySem.W.Frag} {mg : Str→Option Value} {base : Heap} (T : Txt K mg) (A : DefAt K mg "shares_of" zez) (c_things_in : Callee P w K mg base "things_in" zcn [] 1 false [Md.bw] zaZ) (c_plus : Callee P w K mg base "plus" ziF [] 3 false q0 zfD) : Callee P w K mg base "shares_of" zdX [] 4 false [.bw,.bw,.bw] zc2 := by
  refine zaH (k := 3) (fs := zc5) (m' := q114) A zbo rfl (fun _ _ _ _ _ _ us hl => by obtain ⟨u0,u1,u2,rfl⟩ := zlX us hl; kernel_rfl) fun f cdv A outer s H g E hr => ?_
  have hu1 := zba hr
  have hu64 := hr.units
  exact (zaa (zd9 3 zbo.nd (by rfl) (by first | exact Or.inl rfl | exact Or.inr rfl) (zrJ (zlL (zaM (zf9 (by rfl) T.k_NOUGHT) zcM)) (SE.toB (zar (dds := []) c_things_in (hr.mono (by decide)) (m_bw (vb_ 0) zaI)))))
      (zaa (zmx PassesOwn.never rfl (zmZ (vw_ 2)) (zoA rfl (zeI (zaB 4 zbo.nd (by rfl) (by first | exact Or.inl rfl | exact Or.inr rfl)) (zeI (zaB 5 zbo.nd (by rfl) (by first | exact Or.inl rfl | exact Or.inr rfl)) (zeI (zaB 6 zbo.nd (by rfl) (by first | exact Or.inl rfl | exact Or.inr rfl)) zoB)))) (zaa (za3 7 zbo.nd (by rfl) (by first | exact Or.inl rfl | exact Or.inr rfl) (zav hu1 (vb_ 4) (vb_ 1)))
      (zaa (zlk 3 hu1 rfl (by rfl) (by first | exact Or.inl rfl | exact Or.inr (Or.inl rfl) | exact Or.inr (Or.inr rfl)) (vb_ 7) (zar (dds := []) c_plus (hr.mono (by decide)) (m_bw (SE.toB (zav hu1 (vb_ 3) (vb_ 7))) (m_bw (vb_ 5) zaI))))
      zaf)))
      (zaa (zaT (zdi (by rfl) T.b_tuple (zau (vb_ 3) zaS)))
      zaf)))
noncomputable abbrev zeY : Stmt := top 28
noncomputable abbrev zgx : List Str := ["wishes","meals","table"]
noncomputable abbrev zh7 : List Str := ["wishes"]
theorem ze0 : FnScope zgx zh7 (zac zeY) := ⟨rfl,rfl,rfl,by decide +kernel,rfl,by decide +kernel,by decide +kernel⟩
noncomputable def zgD : FW :=
  (andW (zmc q107 (zaq (zab (gv 0) lNil) [] zaO)) (andW (setF q107 1 (zaq (zab (gv 0) lNil) [] zdy)) (andW (setF q107 2 (fC (zab (zbp 1 [0,1] (fRng rng1 (zab (fC (zab (gv 0) lNil) lenD) lNil)) (ftN 0) (fun _ => Res.ok true) (zaq (zab (gv 1) (zab (gv 0) (zab (gv 2) lNil))) [] zc2)) lNil) tupD)) (retW (gv 2) (ownF (zaq (zab (gv 1) lNil) [] ze4))))))
noncomputable def zgz : List D→Res D := fun ds => zgD (zap zgx.length ds)
theorem zrg {P : Program} {w : World} {K : PySem.W.Frag} {mg : Str→Option Value} {base : Heap} (T : Txt K mg) (A : DefAt K mg "eaten" zeY) (c_refuse_unless_square : Callee P w K mg base "refuse_unless_square" za5 [] 3 false [Md.bw] zaO) (c_meals_of : Callee P w K mg base "meals_of" zet [] 5 false [Md.bw] zdy) (c_shares_of : Callee P w K mg base "shares_of" zdX [] 4 false [.bw,.bw,.bw] zc2) (c_log_of : Callee P w K mg base "log_of" zgw [] 4 true [Md.bw] ze4) : CalleeW P w K mg base "eaten" zh7 6 [Md.bw] zgz := by
  refine zom (k := 5) (fs := zgD) A ze0 rfl (fun _ _ _ _ _ _ us hl => by obtain ⟨u0,rfl⟩ := zeW us hl; kernel_rfl) fun f cdv A outer s H g E hr => ?_
  have hu1 := zba hr
  have hu64 := hr.units
  exact (zf5 (ro := false) (mb := []) (zpo (zar (dds := []) c_refuse_unless_square (hr.mono (by decide)) (m_bw (vb_ 0) zaI)))
      (zf5 (ro := false) (mb := []) (za3 1 ze0.nd (by rfl) (by first | exact Or.inl rfl | exact Or.inr rfl) (zar (dds := []) c_meals_of (hr.mono (by decide)) (m_bw (vb_ 0) zaI)))
      (zf5 (ro := false) (mb := []) (za3 2 ze0.nd (by rfl) (by first | exact Or.inl rfl | exact Or.inr rfl) (zdi (by rfl) T.b_tuple (zau (SO.toB (zdk (X := (cxOf CX0 P w K mg base zgx "eaten" (zac zeY) f cdv A outer s H E).nox) (N' := ["hand","wishes","meals"]) (nl := 1) (cap := [0,1]) ze0.nd rfl (zaV (osc := (zac zeY)) (ON := zgx) rfl rfl (by decide +kernel)) (SIt.toC (zb5 (by rfl) T.b_range (zau (SE.toB (zdF (by rfl) T.b_len (zau (vb_ 0) zaS))) zaS))) (fun _ _ _ _ _ _ => (zaB 0 (show List.Nodup (["hand","wishes","meals"] : List Str) by decide +kernel) (by rfl) (by first | exact Or.inl rfl | exact Or.inr rfl))) (zcK (by decide)) (fun _ _ _ _ _ _ => zdj) (fun _ _ _ _ _ _ => (zar (dds := []) c_shares_of (hr.mono (by decide)) (m_bw (vb_ 1) (m_bw (vb_ 0) (m_bw (vb_ 2) zaI))))))) zaS)))
      (znn (v_ 2) (zkR (dds := []) c_log_of (hr.mono (by decide)) (m_bw (vb_ 1) zaI))))))
noncomputable abbrev zdK : Stmt := top 35
noncomputable abbrev zek : List Str := ["_law_one","_law_other","_law_rest"]
noncomputable abbrev zb6 : List Str := ["_law_one","_law_other"]
theorem zbT : FnScope zek zb6 (zac zdK) := ⟨rfl,rfl,rfl,by decide +kernel,rfl,by decide +kernel,by decide +kernel⟩
noncomputable abbrev zbc : FQ :=
  (zaP (f2 (gv 1) (ci 0) neD))
noncomputable abbrev zbd : FS :=
  (seqF (setF q103 2 (f2 (gv 0) (gv 1) modI)) (seqF (setF q103 0 (gv 1)) (seqF (setF q103 1 (gv 2)) zam)))
noncomputable def zcc : FS :=
  (seqF (zbr q103 zbc zbd 1000) (seqF (retF q103 (fC (zab (gv 0) lNil) absD)) zam))
noncomputable def zbf : List D→Res D := fun ds => outR false (zcc (zap zek.length ds))
theorem zld {P : Program} {w : World} {K : PySem.W.Frag} {mg : Str→Option Value} {base : Heap} (T : Txt K mg) (A : DefAt K mg "_law_common" zdK) : Callee P w K mg base "_law_common" zb6 [] 1 false q104 zbf := by
  refine zaH (k := 0) (fs := zcc) (m' := q103) A zbT rfl (fun _ _ _ _ _ _ us hl => by obtain ⟨u0,u1,rfl⟩ := zdm us hl; kernel_rfl) fun f cdv A outer s H g E hr => ?_
  have hu1 := zba hr
  have hu64 := hr.units
  exact (zaa (zhA 1000 PassesOwn.never (q_ne hu64 (vb_ 1) (SE.toB zaj)) (zaa (za3 2 zbT.nd (by rfl) (by first | exact Or.inl rfl | exact Or.inr rfl) (zfh (vb_ 0) (vb_ 1)))
      (zaa (za3 0 zbT.nd (by rfl) (by first | exact Or.inl rfl | exact Or.inr rfl) (v_ 1))
      (zaa (za3 1 zbT.nd (by rfl) (by first | exact Or.inl rfl | exact Or.inr rfl) (v_ 2))
      zaf))))
      (zaa (zaT (zpt (by rfl) T.b_abs (zau (vb_ 0) zaS)))
      zaf))
noncomputable abbrev zch : Stmt := top 39
noncomputable abbrev zcA : List Str := ["_law_found","_law_one"]
noncomputable abbrev za6 : List Str := ["_law_found"]
theorem zcj : FnScope zcA za6 (zac zch) := ⟨rfl,rfl,rfl,by decide +kernel,rfl,by decide +kernel,by decide +kernel⟩
noncomputable abbrev zb0 : FS :=
  (seqF (ifF q105 (fOr (fNot (fTru (f1 (gv 1) (isiD "int")))) (fTru (f1 (gv 1) (isiD "bool")))) (seqF (retF q105 (fun _ => Res.ok (D.bl false))) zam) zam) zam)
noncomputable def za8 : FS :=
  (seqF (ifF q105 (fOr (fNot (fTru (f1 (gv 0) (isiD "tuple")))) (zaP (f2 (fC (zab (gv 0) lNil) lenD) (ci 2) neD))) (seqF (retF q105 (fun _ => Res.ok (D.bl false))) zam) zam) (seqF (zcF q105 (fSeq zbq (gv 0)) (ftN 1) zb0) (seqF (retF q105 (vAnd (f2 (f2 (gv 0) (ci 1) ixA) (ci 0) gtI) (f2 (zaq (zab (f2 (gv 0) (ci 0) ixA) (zab (f2 (gv 0) (ci 1) ixA) lNil)) [] zbf) (ci 1) eqD))) zam)))
noncomputable def zaE : List D→Res D := fun ds => outR false (za8 (zap zcA.length ds))
theorem zhJ {P : Program} {w : World} {K : PySem.W.Frag} {mg : Str→Option Value} {base : Heap} (T : Txt K mg) (A : DefAt K mg "_law_is_fraction" zch) (c__law_common : Callee P w K mg base "_law_common" zb6 [] 1 false q104 zbf) : Callee P w K mg base "_law_is_fraction" za6 [] 2 false [Md.bw] zaE := by
  refine zaH (k := 1) (fs := za8) (m' := q105) A zcj rfl (fun _ _ _ _ _ _ us hl => by obtain ⟨u0,rfl⟩ := zeW us hl; kernel_rfl) fun f cdv A outer s H g E hr => ?_
  have hu1 := zba hr
  have hu64 := hr.units
  exact (zaa (s_if (SW.toQ (q_or (zdg (zcv (SE.toB (zeo "tuple" "tuple" rfl (zcH _) (by rfl) T.b_isinstance (by rfl) T.b_tuple (vb_ 0))))) (zeV (q_ne hu64 (SE.toB (zdF (by rfl) T.b_len (zau (vb_ 0) zaS))) (SE.toB zaj))))) (zaa (zaT s_bl)
      zaf)
      zaf)
      (zaa (zfN PassesOwn.never rfl (zcJ (vb_ 0)) (fun _ => (zaB 1 zcj.nd (by rfl) (by first | exact Or.inl rfl | exact Or.inr rfl))) (fun _ => (zaa (s_if (SW.toQ (q_or (zdg (zcv (SE.toB (zeo "int" "int" rfl (zhQ _) (by rfl) T.b_isinstance (by rfl) T.b_int (vb_ 1))))) (zeV (zcv (SE.toB (zeo "bool" "bool" rfl (zgk _) (by rfl) T.b_isinstance (by rfl) T.b_bool (vb_ 1))))))) (zaa (zaT s_bl)
      zaf)
      zaf)
      zaf)))
      (zaa (zaT (zlp (s_gt (SE.toB (zav hu1 (vb_ 0) (SE.toB zaj))) (SE.toB zaj)) (zll (s_eq hu64 (SE.toB (zar (dds := []) c__law_common (hr.mono (by decide)) (m_sh (zav hu1 (vb_ 0) (SE.toB zaj)) (m_sh (zav hu1 (vb_ 0) (SE.toB zaj)) zaI)))) (SE.toB zaj)))))
      zaf)))
noncomputable abbrev zbl : Stmt := top 40
noncomputable abbrev zbw : List Str := ["_law_found","_law_n","_law_m","_law_row_here"]
noncomputable abbrev zcp : List Str := ["_law_found","_law_n","_law_m"]
theorem zbX : FnScope zbw zcp (zac zbl) := ⟨rfl,rfl,rfl,by decide +kernel,rfl,by decide +kernel,by decide +kernel⟩
noncomputable abbrev zcN : FS :=
  (seqF (ifF q108 (fOr (fNot (fTru (f1 (gv 3) (isiD "tuple")))) (fOr (zaP (f2 (fC (zab (gv 3) lNil) lenD) (gv 2) neD)) (fNot (fTru (fC (zab (zbp 1 [] (fSeq zbq (gv 3)) (ftN 0) (fun _ => Res.ok true) (zaq (zab (gv 0) lNil) [] zaE)) lNil) allD))))) (seqF (retF q108 (fun _ => Res.ok (D.bl false))) zam) zam) zam)
noncomputable def zbB : FS :=
  (seqF (ifF q108 (fOr (fNot (fTru (f1 (gv 0) (isiD "tuple")))) (zaP (f2 (fC (zab (gv 0) lNil) lenD) (gv 1) neD))) (seqF (retF q108 (fun _ => Res.ok (D.bl false))) zam) zam) (seqF (zcF q108 (fSeq zbq (gv 0)) (ftN 3) zcN) (seqF (retF q108 (fun _ => Res.ok (D.bl true))) zam)))
noncomputable def zbz : List D→Res D := fun ds => outR false (zbB (zap zbw.length ds))
theorem zjg {P : Program} {w : World} {K : PySem.W.Frag} {mg : Str→Option Value} {base : Heap} (T : Txt K mg) (A : DefAt K mg "_law_is_table" zbl) (c__law_is_fraction : Callee P w K mg base "_law_is_fraction" za6 [] 2 false [Md.bw] zaE) : Callee P w K mg base "_law_is_table" zcp [] 3 false [.bw,.bw,.bw] zbz := by
  refine zaH (k := 2) (fs := zbB) (m' := q108) A zbX rfl (fun _ _ _ _ _ _ us hl => by obtain ⟨u0,u1,u2,rfl⟩ := zlX us hl; kernel_rfl) fun f cdv A outer s H g E hr => ?_
  have hu1 := zba hr
  have hu64 := hr.units
  exact (zaa (s_if (SW.toQ (q_or (zdg (zcv (SE.toB (zeo "tuple" "tuple" rfl (zcH _) (by rfl) T.b_isinstance (by rfl) T.b_tuple (vb_ 0))))) (zeV (q_ne hu64 (SE.toB (zdF (by rfl) T.b_len (zau (vb_ 0) zaS))) (vb_ 1))))) (zaa (zaT s_bl)
      zaf)
      zaf)
      (zaa (zfN PassesOwn.never rfl (zcJ (vb_ 0)) (fun _ => (zaB 3 zbX.nd (by rfl) (by first | exact Or.inl rfl | exact Or.inr rfl))) (fun _ => (zaa (s_if (SW.toQ (q_or (zdg (zcv (SE.toB (zeo "tuple" "tuple" rfl (zcH _) (by rfl) T.b_isinstance (by rfl) T.b_tuple (vb_ 3))))) (q_or (q_ne hu64 (SE.toB (zdF (by rfl) T.b_len (zau (vb_ 3) zaS))) (vb_ 2)) (zeV (zdg (zcv (SE.toB (zpr rfl (by rfl) T.b_all (zau (SO.toB (zdk (X := (cxOf CX0 P w K mg base zbw "_law_is_table" (zac zbl) f cdv A outer s H E).nox) (N' := ["_law_one"]) (nl := 1) (cap := []) zbX.nd rfl (zaV (osc := (zac zbl)) (ON := zbw) rfl rfl (by decide +kernel)) (zcJ (vb_ 3)) (fun _ _ _ _ _ _ => (zaB 0 (show List.Nodup (["_law_one"] : List Str) by decide +kernel) (by rfl) (by first | exact Or.inl rfl | exact Or.inr rfl))) (zcK (by decide)) (fun _ _ _ _ _ _ => zdj) (fun _ _ _ _ _ _ => (zar (dds := []) c__law_is_fraction (hr.mono (by decide)) (m_bw (vb_ 0) zaI))))) zaS))))))))) (zaa (zaT s_bl)
      zaf)
      zaf)
      zaf)))
      (zaa (zaT s_bl)
      zaf)))
noncomputable abbrev zeC : Stmt := top 38
noncomputable abbrev zfA : List Str := ["_law_a","_law_b"]
noncomputable abbrev zcZ : List Str := ["_law_a","_law_b"]
theorem zgJ : FnScope zfA zcZ (zac zeC) := ⟨rfl,rfl,rfl,by decide +kernel,rfl,by decide +kernel,by decide +kernel⟩
noncomputable def zc9 : FS :=
  (seqF (retF q0 (f2 (f2 (f2 (gv 0) (ci 0) ixA) (f2 (gv 1) (ci 1) ixA) mulW) (f2 (f2 (gv 1) (ci 0) ixA) (f2 (gv 0) (ci 1) ixA) mulW) ltI)) zam)
noncomputable def za0 : List D→Res D := fun ds => outR false (zc9 (zap zfA.length ds))
theorem zmN {P : Program} {w : World} {K : PySem.W.Frag} {mg : Str→Option Value} {base : Heap} (T : Txt K mg) (A : DefAt K mg "_law_less" zeC) : Callee P w K mg base "_law_less" zcZ [] 1 false q0 za0 := by
  refine zaH (k := 0) (fs := zc9) (m' := q0) A zgJ rfl (fun _ _ _ _ _ _ us hl => by obtain ⟨u0,u1,rfl⟩ := zdm us hl; kernel_rfl) fun f cdv A outer s H g E hr => ?_
  have hu1 := zba hr
  have hu64 := hr.units
  exact (zaa (zaT (s_lt (SE.toB (zck (SE.toB (zav hu1 (vb_ 0) (SE.toB zaj))) (SE.toB (zav hu1 (vb_ 1) (SE.toB zaj))))) (SE.toB (zck (SE.toB (zav hu1 (vb_ 1) (SE.toB zaj))) (SE.toB (zav hu1 (vb_ 0) (SE.toB zaj)))))))
      zaf)
noncomputable abbrev zd6 : Stmt := top 34
noncomputable abbrev zeN : List Str := ["_law_found"]
noncomputable abbrev zdo : List Str := ["_law_found"]
theorem zf8 : FnScope zeN zdo (zac zd6) := ⟨rfl,rfl,rfl,by decide +kernel,rfl,by decide +kernel,by decide +kernel⟩
noncomputable def zeS : FS :=
  (seqF (retF [Md.bw] (vAnd (f1 (gv 0) (isiD "int")) (vNot (f1 (gv 0) (isiD "bool"))))) zam)
noncomputable def zcC : List D→Res D := fun ds => outR false (zeS (zap zeN.length ds))
theorem zlK {P : Program} {w : World} {K : PySem.W.Frag} {mg : Str→Option Value} {base : Heap} (T : Txt K mg) (A : DefAt K mg "_law_whole" zd6) : Callee P w K mg base "_law_whole" zdo [] 1 false [Md.bw] zcC := by
  refine zaH (k := 0) (fs := zeS) (m' := [Md.bw]) A zf8 rfl (fun _ _ _ _ _ _ us hl => by obtain ⟨u0,rfl⟩ := zeW us hl; kernel_rfl) fun f cdv A outer s H g E hr => ?_
  have hu1 := zba hr
  have hu64 := hr.units
  exact (zaa (zaT (zlp (zeo "int" "int" rfl (zhQ _) (by rfl) T.b_isinstance (by rfl) T.b_int (vb_ 0)) (zll (zpl (zeo "bool" "bool" rfl (zgk _) (by rfl) T.b_isinstance (by rfl) T.b_bool (vb_ 0))))))
      zaf)
noncomputable abbrev zbk : Stmt := top 42
noncomputable abbrev zbv : List Str := ["_law_log","_law_n","_law_last","_law_pair"]
noncomputable abbrev zco : List Str := ["_law_log","_law_n"]
theorem za2 : FnScope zbv zco (zac zbk) := ⟨rfl,rfl,rfl,by decide +kernel,rfl,by decide +kernel,by decide +kernel⟩
noncomputable abbrev zbP : FS :=
  (seqF (ifF q102 (fOr (fNot (fTru (f1 (gv 3) (isiD "tuple")))) (fOr (zaP (f2 (fC (zab (gv 3) lNil) lenD) (ci 2) neD)) (fNot (fTru (zaq (zab (f2 (gv 3) (ci 0) ixA) lNil) [] zaE))))) (seqF (retF q102 (fun _ => Res.ok (D.bl false))) zam) zam) (seqF (ifF q102 (fOr (fNot (fTru (zaq (zab (gv 2) (zab (f2 (gv 3) (ci 0) ixA) lNil)) [] za0))) (fOr (fNot (fTru (f1 (f2 (gv 3) (ci 1) ixA) (isiD "tuple")))) (zaP (f2 (fC (zab (f2 (gv 3) (ci 1) ixA) lNil) lenD) (ci 0) eqD)))) (seqF (retF q102 (fun _ => Res.ok (D.bl false))) zam) zam) (seqF (ifF q102 (fOr (fNot (fTru (fC (zab (zbp 1 [] (fSeq zbq (f2 (gv 3) (ci 1) ixA)) (ftN 0) (fun _ => Res.ok true) (zaq (zab (gv 0) lNil) [] zcC)) lNil) allD))) (zaP (f2 (fC (zab (f2 (gv 3) (ci 1) ixA) lNil) zgZ) (fC (zab (f2 (gv 3) (ci 1) ixA) lNil) zih) neD))) (seqF (retF q102 (fun _ => Res.ok (D.bl false))) zam) zam) (seqF (setF q102 2 (f2 (gv 3) (ci 0) ixA)) zam))))
noncomputable def zbA : FS :=
  (seqF (ifF q102 (fOr (fNot (fTru (f1 (gv 0) (isiD "list")))) (zaP (f2 (fC (zab (gv 0) lNil) lenD) (ci 0) eqD))) (seqF (retF q102 (fun _ => Res.ok (D.bl false))) zam) zam) (seqF (setF q102 2 (mkT (zab (ci 0) (zab (ci 1) lNil)))) (seqF (zcF q102 (fSeq zbq (gv 0)) (ftN 3) zbP) (seqF (retF q102 (f2 (gv 2) (mkT (zab (ci 1) (zab (ci 1) lNil))) eqD)) zam))))
noncomputable def zby : List D→Res D := fun ds => outR false (zbA (zap zbv.length ds))
theorem zjf {P : Program} {w : World} {K : PySem.W.Frag} {mg : Str→Option Value} {base : Heap} (T : Txt K mg) (A : DefAt K mg "_law_log_form" zbk) (c__law_is_fraction : Callee P w K mg base "_law_is_fraction" za6 [] 2 false [Md.bw] zaE) (c__law_less : Callee P w K mg base "_law_less" zcZ [] 1 false q0 za0) (c__law_whole : Callee P w K mg base "_law_whole" zdo [] 1 false [Md.bw] zcC) : Callee P w K mg base "_law_log_form" zco [] 3 false q0 zby := by
  refine zaH (k := 2) (fs := zbA) (m' := q102) A za2 rfl (fun _ _ _ _ _ _ us hl => by obtain ⟨u0,u1,rfl⟩ := zdm us hl; kernel_rfl) fun f cdv A outer s H g E hr => ?_
  have hu1 := zba hr
  have hu64 := hr.units
  exact (zaa (s_if (SW.toQ (q_or (zdg (zcv (SE.toB (zeo "list" "list" rfl (zl0 _) (by rfl) T.b_isinstance (by rfl) T.b_list (vb_ 0))))) (zeV (q_eq hu64 (SE.toB (zdF (by rfl) T.b_len (zau (vb_ 0) zaS))) (SE.toB zaj))))) (zaa (zaT s_bl)
      zaf)
      zaf)
      (zaa (za3 2 za2.nd (by rfl) (by first | exact Or.inl rfl | exact Or.inr rfl) (zeU (zaM zaj (zaM zaj zcM))))
      (zaa (zfN PassesOwn.never rfl (zcJ (vb_ 0)) (fun _ => (zaB 3 za2.nd (by rfl) (by first | exact Or.inl rfl | exact Or.inr rfl))) (fun _ => (zaa (s_if (SW.toQ (q_or (zdg (zcv (SE.toB (zeo "tuple" "tuple" rfl (zcH _) (by rfl) T.b_isinstance (by rfl) T.b_tuple (vb_ 3))))) (q_or (q_ne hu64 (SE.toB (zdF (by rfl) T.b_len (zau (vb_ 3) zaS))) (SE.toB zaj)) (zeV (zdg (zcv (SE.toB (zar (dds := []) c__law_is_fraction (hr.mono (by decide)) (m_bw (SE.toB (zav hu1 (vb_ 3) (SE.toB zaj))) zaI))))))))) (zaa (zaT s_bl)
      zaf)
      zaf)
      (zaa (s_if (SW.toQ (q_or (zdg (zcv (SE.toB (zar (dds := []) c__law_less (hr.mono (by decide)) (m_bw (vb_ 2) (m_bw (SE.toB (zav hu1 (vb_ 3) (SE.toB zaj))) zaI)))))) (q_or (zdg (zcv (SE.toB (zeo "tuple" "tuple" rfl (zcH _) (by rfl) T.b_isinstance (by rfl) T.b_tuple (SE.toB (zav hu1 (vb_ 3) (SE.toB zaj))))))) (zeV (q_eq hu64 (SE.toB (zdF (by rfl) T.b_len (zau (SE.toB (zav hu1 (vb_ 3) (SE.toB zaj))) zaS))) (SE.toB zaj)))))) (zaa (zaT s_bl)
      zaf)
      zaf)
      (zaa (s_if (SW.toQ (q_or (zdg (zcv (SE.toB (zpr rfl (by rfl) T.b_all (zau (SO.toB (zdk (X := (cxOf CX0 P w K mg base zbv "_law_log_form" (zac zbk) f cdv A outer s H E).nox) (N' := ["_law_thing"]) (nl := 1) (cap := []) za2.nd rfl (zaV (osc := (zac zbk)) (ON := zbv) rfl rfl (by decide +kernel)) (zcJ (SE.toB (zav hu1 (vb_ 3) (SE.toB zaj)))) (fun _ _ _ _ _ _ => (zaB 0 (show List.Nodup (["_law_thing"] : List Str) by decide +kernel) (by rfl) (by first | exact Or.inl rfl | exact Or.inr rfl))) (zcK (by decide)) (fun _ _ _ _ _ _ => zdj) (fun _ _ _ _ _ _ => (zar (dds := []) c__law_whole (hr.mono (by decide)) (m_bw (vb_ 0) zaI))))) zaS))))) (zeV (q_ne hu64 (SO.toB (zmR (by rfl) T.b_list (zau (SE.toB (zav hu1 (vb_ 3) (SE.toB zaj))) zaS))) (SO.toB (zj2 hr (by rfl) T.b_sorted (zau (SE.toB (zav hu1 (vb_ 3) (SE.toB zaj))) zaS))))))) (zaa (zaT s_bl)
      zaf)
      zaf)
      (zaa (za3 2 za2.nd (by rfl) (by first | exact Or.inl rfl | exact Or.inr rfl) (zav hu1 (vb_ 3) (SE.toB zaj)))
      zaf))))))
      (zaa (zaT (s_eq hu64 (vb_ 2) (SE.toB (zeU (zaM zaj (zaM zaj zcM))))))
      zaf))))
noncomputable abbrev zfe : Stmt := top 36
noncomputable abbrev zf2 : List Str := ["_law_top","_law_bottom","_law_by"]
noncomputable abbrev zew : List Str := ["_law_top","_law_bottom"]
theorem zfg : FnScope zf2 zew (zac zfe) := ⟨rfl,rfl,rfl,by decide +kernel,rfl,by decide +kernel,by decide +kernel⟩
noncomputable def zdE : FS :=
  (seqF (setF q103 2 (zaq (zab (gv 0) (zab (gv 1) lNil)) [] zbf)) (seqF (retF q103 (mkT (zab (f2 (gv 0) (gv 2) zhV) (zab (f2 (gv 1) (gv 2) zhV) lNil)))) zam))
noncomputable def zdz : List D→Res D := fun ds => outR false (zdE (zap zf2.length ds))
theorem zod {P : Program} {w : World} {K : PySem.W.Frag} {mg : Str→Option Value} {base : Heap} (T : Txt K mg) (A : DefAt K mg "_law_low" zfe) (c__law_common : Callee P w K mg base "_law_common" zb6 [] 1 false q104 zbf) : Callee P w K mg base "_law_low" zew [] 2 false q104 zdz := by
  refine zaH (k := 1) (fs := zdE) (m' := q103) A zfg rfl (fun _ _ _ _ _ _ us hl => by obtain ⟨u0,u1,rfl⟩ := zdm us hl; kernel_rfl) fun f cdv A outer s H g E hr => ?_
  have hu1 := zba hr
  have hu64 := hr.units
  exact (zaa (za3 2 zfg.nd (by rfl) (by first | exact Or.inl rfl | exact Or.inr rfl) (zar (dds := []) c__law_common (hr.mono (by decide)) (m_sh (v_ 0) (m_sh (v_ 1) zaI))))
      (zaa (zaT (zeU (zaM (zga (vb_ 0) (vb_ 2)) (zaM (zga (vb_ 1) (vb_ 2)) zcM))))
      zaf))
noncomputable abbrev zeB : Stmt := top 37
noncomputable abbrev zfz : List Str := ["_law_a","_law_b"]
noncomputable abbrev zcY : List Str := ["_law_a","_law_b"]
theorem zgI : FnScope zfz zcY (zac zeB) := ⟨rfl,rfl,rfl,by decide +kernel,rfl,by decide +kernel,by decide +kernel⟩
noncomputable def zc8 : FS :=
  (seqF (retF q0 (zaq (zab (f2 (f2 (f2 (gv 0) (ci 0) ixA) (f2 (gv 1) (ci 1) ixA) mulW) (f2 (f2 (gv 1) (ci 0) ixA) (f2 (gv 0) (ci 1) ixA) mulW) addA) (zab (f2 (f2 (gv 0) (ci 1) ixA) (f2 (gv 1) (ci 1) ixA) mulW) lNil)) [] zdz)) zam)
noncomputable def zaN : List D→Res D := fun ds => outR false (zc8 (zap zfz.length ds))
theorem zmM {P : Program} {w : World} {K : PySem.W.Frag} {mg : Str→Option Value} {base : Heap} (T : Txt K mg) (A : DefAt K mg "_law_plus" zeB) (c__law_low : Callee P w K mg base "_law_low" zew [] 2 false q104 zdz) : Callee P w K mg base "_law_plus" zcY [] 3 false q0 zaN := by
  refine zaH (k := 2) (fs := zc8) (m' := q0) A zgI rfl (fun _ _ _ _ _ _ us hl => by obtain ⟨u0,u1,rfl⟩ := zdm us hl; kernel_rfl) fun f cdv A outer s H g E hr => ?_
  have hu1 := zba hr
  have hu64 := hr.units
  exact (zaa (zaT (zar (dds := []) c__law_low (hr.mono (by decide)) (m_sh (zdd (SE.toB (zck (SE.toB (zav hu1 (vb_ 0) (SE.toB zaj))) (SE.toB (zav hu1 (vb_ 1) (SE.toB zaj))))) (SE.toB (zck (SE.toB (zav hu1 (vb_ 1) (SE.toB zaj))) (SE.toB (zav hu1 (vb_ 0) (SE.toB zaj)))))) (m_sh (zck (SE.toB (zav hu1 (vb_ 0) (SE.toB zaj))) (SE.toB (zav hu1 (vb_ 1) (SE.toB zaj)))) zaI))))
      zaf)
noncomputable abbrev zeE : Stmt := top 33
noncomputable abbrev zfC : List Str := ["_law_row_here","_law_left","_law_thing"]
noncomputable abbrev zd1 : List Str := ["_law_row_here","_law_left"]
theorem zeG : FnScope zfC zd1 (zac zeE) := ⟨rfl,rfl,rfl,by decide +kernel,rfl,by decide +kernel,by decide +kernel⟩
noncomputable abbrev zbx : FS :=
  (seqF (ifF q115 (zaP (f2 (gv 2) (gv 1) inD)) (seqF (retF q115 (gv 2)) zam) zam) zam)
noncomputable def zdb : FS :=
  (seqF (zcF q115 (fSeq zbq (gv 0)) (ftN 2) zbx) (seqF (retF q115 (fun _ => Res.ok D.non)) zam))
noncomputable def zct : List D→Res D := fun ds => outR false (zdb (zap zfC.length ds))
theorem zmQ {P : Program} {w : World} {K : PySem.W.Frag} {mg : Str→Option Value} {base : Heap} (T : Txt K mg) (A : DefAt K mg "_law_best" zeE) : Callee P w K mg base "_law_best" zd1 [] 1 false q0 zct := by
  refine zaH (k := 0) (fs := zdb) (m' := q115) A zeG rfl (fun _ _ _ _ _ _ us hl => by obtain ⟨u0,u1,rfl⟩ := zdm us hl; kernel_rfl) fun f cdv A outer s H g E hr => ?_
  have hu1 := zba hr
  have hu64 := hr.units
  exact (zaa (zfN PassesOwn.never rfl (zcJ (vb_ 0)) (fun _ => (zaB 2 zeG.nd (by rfl) (by first | exact Or.inl rfl | exact Or.inr rfl))) (fun _ => (zaa (s_if (q_in hu1 (vb_ 2) (vb_ 1)) (zaa (zaT (v_ 2))
      zaf)
      zaf)
      zaf)))
      (zaa (zaT zpm)
      zaf))
noncomputable abbrev zdc : Stmt := top 43
noncomputable abbrev zdp : List Str := ["_law_shares","_law_thing","_law_total","_law_row_here"]
noncomputable abbrev zcq : List Str := ["_law_shares","_law_thing"]
theorem zbm : FnScope zdp zcq (zac zdc) := ⟨rfl,rfl,rfl,by decide +kernel,rfl,by decide +kernel,by decide +kernel⟩
noncomputable abbrev zcO : FS :=
  (seqF (setF q102 2 (zaq (zab (gv 2) (zab (f2 (gv 3) (gv 1) ixA) lNil)) [] zaN)) zam)
noncomputable def zbC : FS :=
  (seqF (setF q102 2 (mkT (zab (ci 0) (zab (ci 1) lNil)))) (seqF (zcF q102 (fSeq zbq (gv 0)) (ftN 3) zcO) (seqF (retF q102 (gv 2)) zam)))
noncomputable def zbe : List D→Res D := fun ds => outR false (zbC (zap zdp.length ds))
theorem zjh {P : Program} {w : World} {K : PySem.W.Frag} {mg : Str→Option Value} {base : Heap} (T : Txt K mg) (A : DefAt K mg "_law_eaten_of" zdc) (c__law_plus : Callee P w K mg base "_law_plus" zcY [] 3 false q0 zaN) : Callee P w K mg base "_law_eaten_of" zcq [] 4 false q0 zbe := by
  refine zaH (k := 3) (fs := zbC) (m' := q102) A zbm rfl (fun _ _ _ _ _ _ us hl => by obtain ⟨u0,u1,rfl⟩ := zdm us hl; kernel_rfl) fun f cdv A outer s H g E hr => ?_
  have hu1 := zba hr
  have hu64 := hr.units
  exact (zaa (za3 2 zbm.nd (by rfl) (by first | exact Or.inl rfl | exact Or.inr rfl) (zeU (zaM zaj (zaM zaj zcM))))
      (zaa (zfN PassesOwn.never rfl (zcJ (vb_ 0)) (fun _ => (zaB 3 zbm.nd (by rfl) (by first | exact Or.inl rfl | exact Or.inr rfl))) (fun _ => (zaa (za3 2 zbm.nd (by rfl) (by first | exact Or.inl rfl | exact Or.inr rfl) (zar (dds := []) c__law_plus (hr.mono (by decide)) (m_bw (vb_ 2) (m_bw (SE.toB (zav hu1 (vb_ 3) (vb_ 1))) zaI))))
      zaf)))
      (zaa (zaT (v_ 2))
      zaf)))
noncomputable abbrev za9 : Stmt := top 44
noncomputable abbrev zbO : List Str := ["_law_wishes_here","_law_table","_law_log","_law_n","_law_things","_law_shares","_law_last","_law_time","_law_over","_law_step","_law_hand","_law_thing","_law_part"]
noncomputable abbrev zd0 : List Str := ["_law_wishes_here","_law_table","_law_log"]
theorem zat : FnScope zbO zd0 (zac za9) := ⟨rfl,rfl,rfl,by decide +kernel,rfl,by decide +kernel,by decide +kernel⟩
noncomputable def zda : FS :=
  (seqF (setF q120 3 (fC (zab (gv 0) lNil) lenD)) (seqF (setF q120 4 (fC (zab (gv 3) lNil) zj9)) (zj4 (zjI 5 (zbp 1 [3] (fRng rng1 (zab (gv 3) lNil)) (ftN 0) (fun _ => Res.ok true) (zbp 1 [] (fRng rng1 (zab (gv 1) lNil)) (ftN 0) (fun _ => Res.ok true) (mkT (zab (ci 0) (zab (ci 1) lNil)))))) (zja (embF (setF q101 6 (mkT (zab (ci 0) (zab (ci 1) lNil))))) (zja (zee (fSeq zbq (gv 2)) (ftT (zbt (ftN 7) (zbt (ftN 8) zg4))) (zb1 (embF (setF q101 9 (zaq (zab (gv 7) (zab (mkT (zab (f1 (f2 (gv 6) (ci 0) ixA) negI) (zab (f2 (gv 6) (ci 1) ixA) lNil))) lNil)) [] zaN))) (zb1 (embF (setF q101 6 (gv 7))) (zb1 (zee (fRng rng1 (zab (gv 3) lNil)) (ftN 10) (zb1 (embF (setF q101 11 (zaq (zab (f2 (gv 0) (gv 10) ixA) (zab (gv 4) lNil)) [] zct))) (zb1 (embF (ifF q101 (zaP (f2 (gv 11) (fun _ => Res.ok D.non) isD)) (seqF (retF q101 (fun _ => Res.ok (D.bl false))) zam) zam)) (zb1 (zhF 5 10 11 (zaq (zab (f2 (f2 (gv 5) (gv 10) ixA) (gv 11) ixA) (zab (gv 9) lNil)) [] zaN)) (fun r w => some (r,w)))))) (zb1 (zee (fSeq zbq (fC (zab (gv 4) lNil) zgZ)) (ftN 11) (zb1 (zhy 5 12 (zaq (zab (gv 5) (zab (gv 11) lNil)) [] zbe)) (zb1 (embF (ifF q101 (fOr (zaP (f2 (f2 (gv 12) (mkT (zab (ci 1) (zab (ci 1) lNil))) eqD) (f2 (gv 11) (gv 8) inD) neD)) (fTru (zaq (zab (mkT (zab (ci 1) (zab (ci 1) lNil))) (zab (gv 12) lNil)) [] za0))) (seqF (retF q101 (fun _ => Res.ok (D.bl false))) zam) zam)) (zb1 (embF (ifF q101 (zaP (f2 (gv 11) (gv 8) inD)) (seqF (mutF "list" q101 4 (zab (gv 11) lNil) remD) zam) zam)) (fun r w => some (r,w)))))) (fun r w => some (r,w))))))) (zqX 5 (seqF (retF q119 (vAnd (f2 (fC (zab (gv 4) lNil) lenD) (ci 0) eqD) (f2 (gv 1) (fC (zab (zbp 1 [] (fSeq zbq (gv 5)) (ftN 0) (fun _ => Res.ok true) (fC (zab (gv 0) lNil) tupD)) lNil) tupD) eqD))) zam)))))))
noncomputable def zcs : List D→Res D := fun ds => outR false (zda (zap zbO.length ds))
theorem zmO {P : Program} {w : World} {K : PySem.W.Frag} {mg : Str→Option Value} {base : Heap} (T : Txt K mg) (A : DefAt K mg "_law_goes" za9) (c__law_plus : Callee P w K mg base "_law_plus" zcY [] 3 false q0 zaN) (c__law_best : Callee P w K mg base "_law_best" zd1 [] 1 false q0 zct) (c__law_eaten_of : Callee P w K mg base "_law_eaten_of" zcq [] 4 false q0 zbe) (c__law_less : Callee P w K mg base "_law_less" zcZ [] 1 false q0 za0) : Callee P w K mg base "_law_goes" zd0 [] 5 false q103 zcs := by
  refine zaH (k := 4) (fs := zda) (m' := q119) A zat rfl (fun _ _ _ _ _ _ us hl => by obtain ⟨u0,u1,u2,rfl⟩ := zlX us hl; kernel_rfl) fun f cdv A outer s H g E hr => ?_
  have hu1 := zba hr
  have hu64 := hr.units
  exact (zaa (za3 3 zat.nd (by rfl) (by first | exact Or.inl rfl | exact Or.inr rfl) (zdF (by rfl) T.b_len (zau (vb_ 0) zaS)))
      (zaa (zd9 4 zat.nd (by rfl) (by first | exact Or.inl rfl | exact Or.inr rfl) (zof rfl (by rfl) T.b_list (by rfl) T.b_range (zau (vb_ 3) zaS)))
      (zpa (i := 5) (by rfl) (ziM 5 (X := (cxOf CX0 P w K mg base zbO "_law_goes" (zac za9) f cdv A outer s H E).nox) (m := q119) (N' := ["_law_hand","_law_n"]) (nl := 1) (cap := [3]) (by decide) zat.nd rfl (by rfl) (by rfl) (zaV (osc := (zac za9)) (ON := zbO) rfl rfl (by decide +kernel)) (SIt.toC (zb5 (by rfl) T.b_range (zau (vb_ 3) zaS))) (fun _ _ _ _ _ _ => (zaB 0 (show List.Nodup (["_law_hand","_law_n"] : List Str) by decide +kernel) (by rfl) (by first | exact Or.inl rfl | exact Or.inr rfl))) (zcK (by decide)) (fun _ _ _ _ _ _ => zdj) (fun _ _ _ _ _ _ => (zdk (N' := ["_law_thing"]) (nl := 1) (cap := []) (show List.Nodup (["_law_hand","_law_n"] : List Str) by decide +kernel) rfl (zi7 (osc := (zac za9)) (ON := (["_law_hand","_law_n"] : List Str)) rfl rfl (by decide +kernel)) (SIt.toC (zb5 (by rfl) T.b_range (zau (vb_ 1) zaS))) (fun _ _ _ _ _ _ => (zaB 0 (show List.Nodup (["_law_thing"] : List Str) by decide +kernel) (by rfl) (by first | exact Or.inl rfl | exact Or.inr rfl))) (zcK (by decide)) (fun _ _ _ _ _ _ => zdj) (fun _ _ _ _ _ _ => (zeU (zaM zaj (zaM zaj zcM)))))))
      (zig (by rfl) (zfi (ro := false) (mb := q101) (m := q101) (m' := q101) (fun _ => (za3 6 zat.nd (by rfl) (by first | exact Or.inl rfl | exact Or.inr rfl) (zeU (zaM zaj (zaM zaj zcM))))) (by rfl))
      (zig (by rfl) (zjz PassesOwn.never rfl (fun _ => (zqF (v_ 2))) (fun _ => (zoA rfl (zeI (zaB 7 zat.nd (by rfl) (by first | exact Or.inl rfl | exact Or.inr rfl)) (zeI (zaB 8 zat.nd (by rfl) (by first | exact Or.inl rfl | exact Or.inr rfl)) zoB)))) (zbS (zfi (ro := false) (mb := q101) (m := q101) (m' := q101) (fun _ => (za3 9 zat.nd (by rfl) (by first | exact Or.inl rfl | exact Or.inr rfl) (zar (dds := []) c__law_plus (hr.mono (by decide)) (m_bw (vb_ 7) (m_bw (SE.toB (zeU (zaM (zpn (SE.toB (zav hu1 (vb_ 6) (SE.toB zaj)))) (zaM (zav hu1 (vb_ 6) (SE.toB zaj)) zcM)))) zaI))))) (by rfl)) (zbS (zfi (ro := false) (mb := q101) (m := q101) (m' := q101) (fun _ => (za3 6 zat.nd (by rfl) (by first | exact Or.inl rfl | exact Or.inr rfl) (v_ 7))) (by rfl)) (zbS (zjz PassesOwn.never rfl (fun _ => (zb5 (by rfl) T.b_range (zau (vb_ 3) zaS))) (fun _ => (zaB 10 zat.nd (by rfl) (by first | exact Or.inl rfl | exact Or.inr rfl))) (zbS (zfi (ro := false) (mb := q101) (m := q101) (m' := q101) (fun _ => (za3 11 zat.nd (by rfl) (by first | exact Or.inl rfl | exact Or.inr rfl) (zar (dds := []) c__law_best (hr.mono (by decide)) (m_bw (SE.toB (zav hu1 (vb_ 0) (vb_ 10))) (m_bw (vb_ 4) zaI))))) (by rfl)) (zbS (zfi (ro := false) (mb := q101) (m := q101) (m' := q101) (fun _ => (s_if (q_is (vb_ 11) (SE.toB zpm)) (zaa (zaT s_bl)
      zaf)
      zaf)) (by rfl)) (zbS (znC 10 11 (by rfl) (zhK (by decide)) (by rfl) (by rfl) (by rfl) (by first | exact Or.inl rfl | exact Or.inr (Or.inl rfl) | exact Or.inr (Or.inr rfl)) (by rfl) (by first | exact Or.inl rfl | exact Or.inr (Or.inl rfl) | exact Or.inr (Or.inr rfl)) (by rfl) (by first | exact Or.inl rfl | exact Or.inr (Or.inl rfl) | exact Or.inr (Or.inr rfl)) (fun _ => (zar (dds := []) c__law_plus (hr.mono (by decide)) (m_bw (SE.toB (zav hu1 (SE.toB (zav hu1 (vb_ 5) (vb_ 10))) (vb_ 11))) (m_bw (vb_ 9) zaI))))) zhu))) (by rfl)) (zbS (zjz PassesOwn.never rfl (fun _ => (zqF (SO.toE (zmR (by rfl) T.b_list (zau (vb_ 4) zaS))))) (fun _ => (zaB 11 zat.nd (by rfl) (by first | exact Or.inl rfl | exact Or.inr rfl))) (zbS (znB 12 (by decide) (zhK (by decide)) zat.nd (by rfl) (by first | exact Or.inl rfl | exact Or.inr rfl) (fun _ => (zar (dds := []) c__law_eaten_of (hr.mono (by decide)) (m_bw (vb_ 5) (m_bw (vb_ 11) zaI))))) (zbS (zfi (ro := false) (mb := q101) (m := q101) (m' := q101) (fun _ => (s_if (SW.toQ (q_or (q_ne hu64 (SE.toB (s_eq hu64 (vb_ 12) (SE.toB (zeU (zaM zaj (zaM zaj zcM)))))) (SE.toB (s_in hu1 (vb_ 11) (vb_ 8)))) (zeV (zcv (SE.toB (zar (dds := []) c__law_less (hr.mono (by decide)) (m_bw (SE.toB (zeU (zaM zaj (zaM zaj zcM)))) (m_bw (vb_ 12) zaI)))))))) (zaa (zaT s_bl)
      zaf)
      zaf)) (by rfl)) (zbS (zfi (ro := false) (mb := q101) (m := q101) (m' := q101) (fun _ => (s_if (q_in hu1 (vb_ 11) (vb_ 8)) (zaa (zlm 4 rfl PySem.F.plainAttrs_list PySem.F.slot_list_remove PySem.F.type_list_remove zj5 zpB (by rfl) (by first | exact Or.inl rfl | exact Or.inr (Or.inl rfl) | exact Or.inr (Or.inr rfl)) (zaM (v_ 11) zcM))
      zaf)
      zaf)) (by rfl)) zhu))) (by rfl)) zhu)))) (by rfl))
      (zno (zaa (zaT (zlp (s_eq hu64 (SE.toB (zdF (by rfl) T.b_len (zau (vb_ 4) zaS))) (SE.toB zaj)) (zll (s_eq hu64 (vb_ 1) (SE.toB (zdi (by rfl) T.b_tuple (zau (SO.toB (zdk (X := (cxOf CX0 P w K mg base zbO "_law_goes" (zac za9) f cdv A outer s H E).nox) (N' := ["_law_row_here"]) (nl := 1) (cap := []) zat.nd rfl (zaV (osc := (zac za9)) (ON := zbO) rfl rfl (by decide +kernel)) (zcJ (vb_ 5)) (fun _ _ _ _ _ _ => (zaB 0 (show List.Nodup (["_law_row_here"] : List Str) by decide +kernel) (by rfl) (by first | exact Or.inl rfl | exact Or.inr rfl))) (zcK (by decide)) (fun _ _ _ _ _ _ => zdj) (fun _ _ _ _ _ _ => (zdi (by rfl) T.b_tuple (zau (vb_ 0) zaS))))) zaS)))))))
      zaf) (zhK (by decide))))))))
noncomputable abbrev zfL : Stmt := top 45
noncomputable abbrev zjc : List Str := ["_law_script","_law_wishes_here","_law_n","_law_half","_law_again","_law_found"]
noncomputable abbrev zq9 : List Str := ["_law_script"]
theorem zd8 : FnScope zjc zq9 (zac zfL) := ⟨rfl,rfl,rfl,by decide +kernel,rfl,by decide +kernel,by decide +kernel⟩
noncomputable abbrev zh9 : FS :=
  (newW 5 (zab (gv 1) lNil) zgz (if3 5 (fOr (fNot (fTru (f1 (gv 5) (isiD "tuple")))) (fOr (zaP (f2 (fC (zab (gv 5) lNil) lenD) (ci 2) neD)) (fNot (fTru (zaq (zab (f2 (gv 5) (ci 0) ixA) (zab (gv 2) (zab (gv 2) lNil))) [] zbz))))) (if3 5 (fOr (fNot (fTru (zaq (zab (f2 (gv 5) (ci 1) ixA) (zab (gv 2) lNil)) [] zby))) (fNot (fTru (zaq (zab (gv 1) (zab (f2 (gv 5) (ci 0) ixA) (zab (f2 (gv 5) (ci 1) ixA) lNil))) [] zcs)))) (if3 5 (zaP (f2 (fC (zab (zbp 1 [] (fSeq zbq (f2 (gv 5) (ci 1) ixA)) (ftN 0) (fun _ => Res.ok true) (fC (zab (f2 (gv 0) (ci 1) ixA) lNil) lenD)) lNil) sumD) (gv 2) neD)) (fun r _ _ => some (r.set 5 none))))))
noncomputable def zmq : FS :=
  (seqF (setF q106 1 (zaq (zab (gv 0) lNil) [] zb9)) (seqF (setF q106 2 (fC (zab (gv 1) lNil) lenD)) (seqF (ifF q106 (zaP (f2 (f2 (zaq (zab (gv 0) (zab (f2 (ci 2) (gv 2) addA) lNil)) [] za1) (ci 3) modI) (ci 1) eqD)) (seqF (setF q106 3 (f2 (f2 (gv 2) (ci 1) addA) (ci 2) zi2)) (seqF (setF q106 1 (f2 (fSlA (gv 1) (fun _ => Res.ok none) (zl8 (gv 3))) (fC (zab (zbp 1 [1] (fRng rng1 (zab (f2 (gv 2) (gv 3) subI) lNil)) (ftN 0) (fun _ => Res.ok true) (f2 (gv 1) (ci 0) ixA)) lNil) tupD) addE)) zam)) zam) (seqF (zcF q106 (fRng rng1 (zab (ci 2) lNil)) (ftN 4) zh9) (seqF (retF q106 (fun _ => Res.ok (D.bl true))) zam)))))
noncomputable def zra : List D→Res D := fun ds => outR false (zmq (zap zjc.length ds))
theorem zr6 {P : Program} {w : World} {K : PySem.W.Frag} {mg : Str→Option Value} {base : Heap} (T : Txt K mg) {fa : Addr} {fd : FuncData} (A : Fun K "law" "law" zfL fa fd) (c__law_square : Callee P w K mg base "_law_square" zcX [] 3 false [Md.bw] zb9) (c__law_cell : Callee P w K mg base "_law_cell" zcr [] 1 false q0 za1) (c__law_is_table : Callee P w K mg base "_law_is_table" zcp [] 3 false [.bw,.bw,.bw] zbz) (c__law_goes : Callee P w K mg base "_law_goes" zd0 [] 5 false q103 zcs) (c__law_log_form : Callee P w K mg base "_law_log_form" zco [] 3 false q0 zby) (c_eaten : CalleeW P w K mg base "eaten" zh7 6 [Md.bw] zgz) : FnOk P w K mg base CX0 7 fa fd zq9 (spM K false [Md.sh] zra) := by
  refine zm3 (k := 6) (fs := zmq) (m' := q106) A zd8 rfl fun cdv A outer s H g E hr => ?_
  have hu1 := zba hr
  have hu64 := hr.units
  exact (zaa (za3 1 zd8.nd (by rfl) (by first | exact Or.inl rfl | exact Or.inr rfl) (zar (dds := []) c__law_square (hr.mono (by decide)) (m_bw (vb_ 0) zaI)))
      (zaa (za3 2 zd8.nd (by rfl) (by first | exact Or.inl rfl | exact Or.inr rfl) (zdF (by rfl) T.b_len (zau (vb_ 1) zaS)))
      (zaa (s_if (q_eq hu64 (SE.toB (zfh (SE.toB (zar (dds := []) c__law_cell (hr.mono (by decide)) (m_bw (vb_ 0) (m_bw (SE.toB (zdd (SE.toB zaj) (vb_ 2))) zaI)))) (SE.toB zaj))) (SE.toB zaj)) (zaa (za3 3 zd8.nd (by rfl) (by first | exact Or.inl rfl | exact Or.inr rfl) (zmy (SE.toB (zdd (vb_ 2) (SE.toB zaj))) (SE.toB zaj)))
      (zaa (za3 1 zd8.nd (by rfl) (by first | exact Or.inl rfl | exact Or.inr rfl) (zps (SE.toB (zrx (vb_ 1) zpZ (zpY (vb_ 3)))) (SE.toB (zdi (by rfl) T.b_tuple (zau (SO.toB (zdk (X := (cxOf CX0 P w K mg base zjc "law" (zac zfL) fa cdv A outer s H E).nox) (N' := ["_law_hand","_law_wishes_here"]) (nl := 1) (cap := [1]) zd8.nd rfl (zaV (osc := (zac zfL)) (ON := zjc) rfl rfl (by decide +kernel)) (SIt.toC (zb5 (by rfl) T.b_range (zau (SE.toB (zpk (vb_ 2) (vb_ 3))) zaS))) (fun _ _ _ _ _ _ => (zaB 0 (show List.Nodup (["_law_hand","_law_wishes_here"] : List Str) by decide +kernel) (by rfl) (by first | exact Or.inl rfl | exact Or.inr rfl))) (zcK (by decide)) (fun _ _ _ _ _ _ => zdj) (fun _ _ _ _ _ _ => (zav hu1 (vb_ 1) (SE.toB zaj))))) zaS)))))
      zaf))
      zaf)
      (zaa (znz PassesOwn.never rfl (zb5 (by rfl) T.b_range (zau (SE.toB zaj) zaS)) (zaB 4 zd8.nd (by rfl) (by first | exact Or.inl rfl | exact Or.inr rfl)) (znp 5 (by decide) zd8.nd (by rfl) (by first | exact Or.inl rfl | exact Or.inr rfl) c_eaten (hr.mono (by decide)) (m_bw (vb_ 1) zaI)
      (znA (zhK (by decide)) (fun _ => (SW.toQ (q_or (zdg (zcv (SE.toB (zeo "tuple" "tuple" rfl (zcH _) (by rfl) T.b_isinstance (by rfl) T.b_tuple (vb_ 5))))) (q_or (q_ne hu64 (SE.toB (zdF (by rfl) T.b_len (zau (vb_ 5) zaS))) (SE.toB zaj)) (zeV (zdg (zcv (SE.toB (zar (dds := []) c__law_is_table (hr.mono (by decide)) (m_bw (SE.toB (zav hu1 (vb_ 5) (SE.toB zaj))) (m_bw (vb_ 2) (m_bw (vb_ 2) zaI))))))))))))
      (znA (zhK (by decide)) (fun _ => (SW.toQ (q_or (zdg (zcv (SE.toB (zar (dds := []) c__law_log_form (hr.mono (by decide)) (m_bw (SE.toB (zav hu1 (vb_ 5) (SE.toB zaj))) (m_bw (vb_ 2) zaI)))))) (zeV (zdg (zcv (SE.toB (zar (dds := []) c__law_goes (hr.mono (by decide)) (m_sh (v_ 1) (m_sh (zav hu1 (vb_ 5) (SE.toB zaj)) (m_sh (zav hu1 (vb_ 5) (SE.toB zaj)) zaI)))))))))))
      (znA (zhK (by decide)) (fun _ => (q_ne hu64 (SE.toB (zrw rfl (by rfl) T.b_sum (zau (SO.toB (zdk (X := (cxOf CX0 P w K mg base zjc "law" (zac zfL) fa cdv A outer s H E).nox) (N' := ["_law_pair"]) (nl := 1) (cap := []) zd8.nd rfl (zaV (osc := (zac zfL)) (ON := zjc) rfl rfl (by decide +kernel)) (zcJ (SE.toB (zav hu1 (vb_ 5) (SE.toB zaj)))) (fun _ _ _ _ _ _ => (zaB 0 (show List.Nodup (["_law_pair"] : List Str) by decide +kernel) (by rfl) (by first | exact Or.inl rfl | exact Or.inr rfl))) (zcK (by decide)) (fun _ _ _ _ _ _ => zdj) (fun _ _ _ _ _ _ => (zdF (by rfl) T.b_len (zau (SE.toB (zav hu1 (vb_ 0) (SE.toB zaj))) zaS))))) zaS))) (vb_ 2)))
      (zlq (by rfl) (zhK (by decide)) (by rfl) (by first | exact Or.inl rfl | exact Or.inr (Or.inl rfl) | exact Or.inr (Or.inr rfl))))))))
      (zaa (zaT s_bl)
      zaf)))))
end Law
end
section
namespace Law
open PySem L2 DL
noncomputable abbrev nD (k : Nat) : D := .int (k : Int)
noncomputable abbrev LN (l : List Nat) : D := .lst (l.map nD)
noncomputable abbrev TN (l : List Nat) : D := .tup (l.map nD)
noncomputable abbrev WD (rows : List (List Nat)) : D := .tup (rows.map TN)
theorem szOk {ds : List D} (h : ds.length≤1000) : sz ds = some ds := zrs (Nat.le_trans h (by rw [sizeLine_eq]; decide))
@[simp] theorem addA_int (a b : Int) : addA (.int a) (.int b) = some (.int (a + b)) := rfl
theorem zok {a b : Int} (h : CMul a b) : mulI (.int a) (.int b) = some (.int (a * b)) := by rw [mulI,intsC_int,if_pos h]
theorem zhM {a b : Int} (h : 0 < b) : modI (.int a) (.int b) = some (.int (a % b)) := by rw [modI,intsC_int,if_pos h]
theorem zl7 {a b : Int} (h : CDiv a b) : zi2 (.int a) (.int b) = some (.int (a / b)) := by rw [zi2,intsC_int,if_pos h]
theorem zai {s1 s2 : FS} {r r' : Rho} (h : s1 r = .nx r') : seqF s1 s2 r = s2 r' := by unfold seqF; rw [h]
theorem zaG {s1 s2 : FS} {r : Rho} {d : D} (h : s1 r = .rt d) : seqF s1 s2 r = .rt d := by unfold seqF; rw [h]
theorem zaw {m : List Md} {i : Nat} {f : FE} {r : Rho} {d : D} (h : f r = .ok d) : setF m i f r = .nx (r.set i (some d)) := by unfold setF; rw [h]; rfl
theorem zaQ {m : List Md} {f : FE} {r : Rho} {d : D} (h : f r = .ok d) : retF m f r = .rt d := by unfold retF; rw [h]; rfl
theorem zqE {m : List Md} {p : FQ} {s1 s2 : FS} {r : Rho} {b : Bool} (h : p r = .ok b) : ifF m p s1 s2 r = if b = true then s1 r else s2 r := by unfold ifF; rw [h]; rfl
theorem if_t {m : List Md} {p : FQ} {s1 s2 : FS} {r : Rho} (h : p r = .ok true) : ifF m p s1 s2 r = s1 r := by rw [zqE h,if_pos rfl]
theorem if_f {m : List Md} {p : FQ} {s1 s2 : FS} {r : Rho} (h : p r = .ok false) : ifF m p s1 s2 r = s2 r := by rw [zqE h,if_neg Bool.false_ne_true]
theorem zgX {fl : Rho→Res (List D)} {r : Rho} {ds : List D} (h : fl r = .ok ds) (hl : ds.length≤1000) : mkT fl r = .ok (.tup ds) := by unfold mkT; rw [h,bind_ok,szOk hl]; rfl
theorem zis {fl : Rho→Res (List D)} {r : Rho} {ds : List D} (h : fl r = .ok ds) (hl : ds.length≤1000) : mkL fl r = .ok (.lst ds) := by unfold mkL; rw [h,bind_ok,szOk hl]; rfl
theorem zk0 {ds : List D} {d : D} (h : ds.length≤1000) : appD (.lst ds) [d] = some (.lst (ds++[d])) := by
  show (if ds.length < sizeLine then some (D.lst (ds++[d])) else none) = _
  rw [if_pos (by rw [sizeLine_eq]; omega)]
theorem zal {fl : Rho→Res (List D)} {dds zs : List D} {F : List D→Res D} {r : Rho} {d : D} (h1 : fl r = .ok zs) (h2 : F (zs++dds) = .ok d) : zaq fl dds F r = .ok d := by unfold zaq; rw [h1,bind_ok,h2]; rfl
theorem zfI {f : FE} {k : D→Option D} {r : Rho} {a d : D} (h1 : f r = .ok a) (h2 : k a = some d) : f1 f k r = .ok d := by unfold f1; rw [h1,bind_ok,h2]; rfl
theorem zae {f f' : FE} {k : D→D→Option D} {r : Rho} {a b d : D} (h1 : f r = .ok a) (h2 : f' r = .ok b) (h3 : k a b = some d) : f2 f f' k r = .ok d := by unfold f2; rw [h1,bind_ok,h2,bind_ok,h3]; rfl
theorem zbi {fl : Rho→Res (List D)} {k : List D→Option D} {r : Rho} {ds : List D} {d : D} (h1 : fl r = .ok ds) (h2 : k ds = some d) : fC fl k r = .ok d := by unfold fC; rw [h1,bind_ok,h2]; rfl
theorem zad {f : FE} {fl : Rho→Res (List D)} {r : Rho} {d : D} {ds : List D} (h1 : f r = .ok d) (h2 : fl r = .ok ds) : zab f fl r = .ok (d::ds) := by unfold zab; rw [h1,bind_ok,h2]; rfl
theorem zak {r : Rho} : lNil r = .ok [] := rfl
theorem zay {f : FE} {r : Rho} {b : Bool} (h : f r = .ok (.bl b)) : zaP f r = .ok b := by unfold zaP; rw [h]; rfl
theorem zaJ {f : FE} {r : Rho} {d : D} {b : Bool} (h : f r = .ok d) (h2 : truD d = some b) : fTru f r = .ok b := by unfold fTru; rw [h,bind_ok,h2]; rfl
theorem zbD {p : FQ} {r : Rho} {b : Bool} (h : p r = .ok b) : fNot p r = .ok (! b) := by unfold fNot; rw [h]; rfl
theorem zr3 {p q : FQ} {r : Rho} (h : p r = .ok true) : fAnd p q r = q r := by unfold fAnd; rw [h]; rfl
theorem zr4 {p q : FQ} {r : Rho} (h : p r = .ok false) : fAnd p q r = .ok false := by unfold fAnd; rw [h]; rfl
theorem or_f {p q : FQ} {r : Rho} (h : p r = .ok false) : fOr p q r = q r := by unfold fOr; rw [h]; rfl
theorem zmr {f f' : FE} {r : Rho} (h : f r = .ok (.bl true)) : vAnd f f' r = f' r := by unfold vAnd; rw [h]; rfl
theorem zbK {m : List Md} {fi : FI} {ft : FT} {b : FS} {r : Rho} {ds : List D} (h : fi r = .ok ds) : zcF m fi ft b r = forF ft b ds r := by unfold zcF; rw [h]; rfl
theorem zcx {f : FE} {r : Rho} {d : D} {ds : List D} (h : f r = .ok d) (h2 : zbq d = some ds) : fSeq zbq f r = .ok ds := by unfold fSeq; rw [h,bind_ok,h2]; rfl
theorem zbL {ft : FT} {b : FS} {r : Rho} : forF ft b [] r = .nx r := by unfold forF; rfl
theorem zbZ {ft : FT} {b : FS} {r r1 r' : Rho} {d : D} {ds : List D} (h1 : ft d r = some r1) (h2 : b r1 = .nx r') : forF ft b (d::ds) r = forF ft b ds r' := by
  conv => lhs; unfold forF
  simp only [h1,h2]
theorem zqO {ft : FT} {b : FS} {r r1 : Rho} {d v : D} {ds : List D} (h1 : ft d r = some r1) (h2 : b r1 = .rt v) : forF ft b (d::ds) r = .rt v := by
  conv => lhs; unfold forF
  simp only [h1,h2]
theorem zjk {m : List Md} {p : FQ} {b : FS} {n : Nat} {r : Rho} (h : p r = .ok false) : zbr m p b (n + 1) r = .nx r := by unfold zbr; rw [h]; rfl
theorem zjj {m : List Md} {p : FQ} {b : FS} {n : Nat} {r r' : Rho} (h : p r = .ok true) (h2 : b r = .nx r') : zbr m p b (n + 1) r = zbr m p b n r' := by
  conv => lhs; unfold zbr
  rw [h,onE_ok,if_pos rfl,h2]
theorem ziq {T : String} {m : List Md} {i : Nat} {fl : Rho→Res (List D)} {mk : D→List D→Option D} {r : Rho} {d d' : D} {ds : List D} (h1 : r[i]? = some (some d)) (h2 : tyB T d = true) (h3 : fl r = .ok ds) (h4 : mk d ds = some d') : mutF T m i fl mk r = .nx (r.set i (some d')) := by
  unfold mutF; rw [h1]; simp only [h2,if_true,h3,onE_ok,h4]
theorem zim {m : List Md} {i : Nat} {fk fv : FE} {r : Rho} {d k v d' : D} (h1 : r[i]? = some (some d)) (h2 : fv r = .ok v) (h3 : fk r = .ok k) (h4 : stoD d k v = some d') : DL.putF m i fk fv r = .nx (r.set i (some d')) := by
  unfold DL.putF; rw [h2,onE_ok]; simp only [h1,h3,onE_ok,h4]
theorem zkQ {ft : FT} {q : FQ} {fe : FE} {r0 : Rho} : zcm ft q fe r0 [] = .ok [] := by unfold zcm; rfl
theorem zhf {ft : FT} {q : FQ} {fe : FE} {r0 : Rho} {α : Type} (e : α→D) (keep : α→Bool) (g : α→D) : ∀ (l : List α),(∀ a∈l,∃ r1,ft (e a) r0 = some r1∧q r1 = .ok (keep a)∧(keep a = true→fe r1 = .ok (g a)))→zcm ft q fe r0 (l.map e) = .ok ((l.filter keep).map g)
  | [],_ => zkQ
  | a::l,h => by
    obtain ⟨r1,h1,h2,h3⟩ := h a List.mem_cons_self
    have ih := zhf (ft := ft) (q := q) (fe := fe) (r0 := r0) e keep g l fun b hb => h b (List.mem_cons_of_mem _ hb)
    rw [List.map_cons]
    conv => lhs; unfold zcm
    rw [h1,opt_some,bind_ok,h2,bind_ok]
    cases k : keep a with
    | true => rw [if_pos rfl,h3 k,bind_ok,ih,bind_ok,List.filter_cons,if_pos k]; rfl
    | false => rw [if_neg Bool.false_ne_true,ih,List.filter_cons,if_neg (by rw [k]; exact Bool.false_ne_true)]
theorem zgp {nl : Nat} {cap : List Nat} {fi : FI} {ft : FT} {q : FQ} {fe : FE} {r : Rho} {α : Type} {l : List α} (e : α→D) (keep : α→Bool) (g : α→D) (h1 : fi r = .ok (l.map e)) (hl : l.length≤1000)
    (h : ∀ a∈l,∃ r1,ft (e a) (capR nl cap r) = some r1∧q r1 = .ok (keep a)∧(keep a = true→fe r1 = .ok (g a))) : zbp nl cap fi ft q fe r = .ok (.lst ((l.filter keep).map g)) := by
  unfold zbp
  rw [h1,bind_ok,szOk (by simpa using hl),opt_some,bind_ok,zhf e keep g l h,noXL_ok,bind_ok]
theorem zql (a b : Nat) : ltI (nD a) (nD b) = some (.bl (decide (a < b))) := by
  show some (D.bl (decide ((a : Int) < (b : Int)))) = _
  simp only [Int.ofNat_lt]
theorem zqI (a b : Nat) : gtI (nD a) (nD b) = some (.bl (decide (b < a))) := by
  show some (D.bl (decide ((b : Int) < (a : Int)))) = _
  simp only [Int.ofNat_lt]
theorem zi4 (a b : Nat) : eqD (nD a) (nD b) = some (.bl (decide (a = b))) := by
  unfold eqD
  rw [eqB_int]
  show some (D.bl ((a : Int) == (b : Int))) = _
  have : ((a : Int) == (b : Int)) = decide (a = b) := by rw [Bool.eq_iff_iff,beq_iff_eq,decide_eq_true_iff]; exact Int.ofNat_inj
  rw [this]
theorem ziV (a b : Nat) : neD (nD a) (nD b) = some (.bl (! decide (a = b))) := by
  unfold neD
  rw [eqB_int]
  show some (D.bl (!((a : Int) == (b : Int)))) = _
  have : ((a : Int) == (b : Int)) = decide (a = b) := by rw [Bool.eq_iff_iff,beq_iff_eq,decide_eq_true_iff]; exact Int.ofNat_inj
  rw [this]
theorem zaU {B : FS} {n : Nat} {ds : List D} {d : D} (h : B (zap n ds) = .rt d) : outR false (B (zap n ds)) = .ok d := by rw [h]; rfl
noncomputable abbrev kI (k : Nat) : Key := Sum.inl (k : Int)
theorem zm0 (kvs : List (Nat × D)) (k : Nat) : hasK (kvs.map fun p => (kI p.1,p.2)) (kI k) = decide (k∈kvs.map (·.1)) := by
  unfold hasK
  rw [List.any_map,Bool.eq_iff_iff,List.any_eq_true,decide_eq_true_iff,List.mem_map]
  constructor
  · rintro ⟨p,h1,h2⟩
    refine ⟨p,h1,?_⟩
    simp only [Function.comp_apply,decide_eq_true_eq] at h2
    have : ((p.1 : Nat) : Int) = (k : Int) := Sum.inl.inj h2
    exact Int.ofNat.inj this
  · rintro ⟨p,h1,rfl⟩
    exact ⟨p,h1,by simp⟩
theorem zlx (kvs : List (Nat × D)) (k : Nat) (d : D) (h : k∉kvs.map (·.1)) : putD (kvs.map fun p => (kI p.1,p.2)) (kI k) d = (kvs++[(k,d)]).map fun p => (kI p.1,p.2) := by
  unfold putD
  have e : ((kvs.map fun p => (kI p.1,p.2)).any fun kv => decide (kv.1 = kI k)) = decide (k∈kvs.map (·.1)) := zm0 kvs k
  rw [e,decide_eq_false h,if_neg Bool.false_ne_true,List.map_append]
  rfl
@[simp] theorem e_seq (s1 s2 : FS) (r : Rho) : seqF s1 s2 r = (match s1 r with | .nx r' => s2 r' | o => o) := rfl
@[simp] theorem e_skip (r : Rho) : zam r = .nx r := rfl
@[simp] theorem e_set (m : List Md) (i : Nat) (f : FE) (r : Rho) : setF m i f r = onE m r (f r) fun d => .nx (r.set i (some d)) := rfl
@[simp] theorem e_ret (m : List Md) (f : FE) (r : Rho) : retF m f r = onE m r (f r) fun d => .rt d := rfl
@[simp] theorem e_if (m : List Md) (p : FQ) (s1 s2 : FS) (r : Rho) : ifF m p s1 s2 r = onE m r (p r) fun c => if c = true then s1 r else s2 r := rfl
@[simp] theorem e_getV (r : Rho) (i : Nat) : getV r i = (match r[i]? with | some (some d) => .ok d | _ => .stuck) := rfl
@[simp] theorem e_f1 (f : FE) (k : D→Option D) (r : Rho) : f1 f k r = (f r).bind fun d => opt (k d) := rfl
@[simp] theorem e_f2 (f f' : FE) (k : D→D→Option D) (r : Rho) : f2 f f' k r = (f r).bind fun a => (f' r).bind fun b => opt (k a b) := rfl
@[simp] theorem e_fC (fl : Rho→Res (List D)) (k : List D→Option D) (r : Rho) : fC fl k r = (fl r).bind fun ds => opt (k ds) := rfl
@[simp] theorem e_lN (r : Rho) : lNil r = .ok [] := rfl
@[simp] theorem e_lC (f : FE) (fl : Rho→Res (List D)) (r : Rho) : zab f fl r = (f r).bind fun d => (fl r).bind fun ds => .ok (d::ds) := rfl
@[simp] theorem e_test (f : FE) (r : Rho) : zaP f r = (f r).bind fun d => opt (asB d) := rfl
@[simp] theorem e_tru (f : FE) (r : Rho) : fTru f r = (f r).bind fun d => opt (truD d) := rfl
@[simp] theorem e_not (p : FQ) (r : Rho) : fNot p r = (p r).bind fun c => .ok (! c) := rfl
@[simp] theorem e_and (p q : FQ) (r : Rho) : fAnd p q r = (p r).bind fun c => if c = true then q r else .ok false := rfl
@[simp] theorem e_or (p q : FQ) (r : Rho) : fOr p q r = (p r).bind fun c => if c = true then .ok true else q r := rfl
@[simp] theorem e_vand (f f' : FE) (r : Rho) : vAnd f f' r = (f r).bind fun d => (opt (asB d)).bind fun c => if c = true then f' r else .ok (.bl false) := rfl
@[simp] theorem e_vor (f f' : FE) (r : Rho) : vOr f f' r = (f r).bind fun d => (opt (asB d)).bind fun c => if c = true then .ok (.bl true) else f' r := rfl
@[simp] theorem e_vnot (f : FE) (r : Rho) : vNot f r = (f r).bind fun d => (opt (asB d)).bind fun c => .ok (.bl (! c)) := rfl
@[simp] theorem e_fIf (p : FQ) (f f' : FE) (r : Rho) : fIf p f f' r = (p r).bind fun c => if c = true then f r else f' r := rfl
@[simp] theorem e_call (fl : Rho→Res (List D)) (dds : List D) (F : List D→Res D) (r : Rho) : zaq fl dds F r = (fl r).bind fun ds => noX (F (ds++dds)) := rfl
@[simp] theorem e_asB (b : Bool) : asB (.bl b) = some b := rfl
@[simp] theorem e_truB (b : Bool) : truD (.bl b) = some b := rfl
@[simp] theorem e_truL (ds : List D) : truD (.lst ds) = some (! ds.isEmpty) := rfl
@[simp] theorem e_loop (m : List Md) (fi : FI) (ft : FT) (b : FS) (r : Rho) : zcF m fi ft b r = onE m r (fi r) fun ds => forF ft b ds r := rfl
@[simp] theorem e_fSeq (k : D→Option (List D)) (f : FE) (r : Rho) : fSeq k f r = (f r).bind fun d => opt (k d) := rfl
@[simp] theorem e_asL (ds : List D) : zbq (.lst ds) = some ds := rfl
@[simp] theorem e_asT (ds : List D) : zbq (.tup ds) = some ds := rfl
@[simp] theorem e_mkT (fl : Rho→Res (List D)) (r : Rho) : mkT fl r = (fl r).bind fun ds => (opt (sz ds)).bind fun ds => .ok (.tup ds) := rfl
@[simp] theorem e_mkL (fl : Rho→Res (List D)) (r : Rho) : mkL fl r = (fl r).bind fun ds => (opt (sz ds)).bind fun ds => .ok (.lst ds) := rfl
@[simp] theorem e_lenL (ds : List D) : lenD [.lst ds] = some (.int ds.length) := rfl
@[simp] theorem e_lenT (ds : List D) : lenD [.tup ds] = some (.int ds.length) := rfl
@[simp] theorem e_lenK (ds : List (Key × D)) : lenD [.dic ds] = some (.int ds.length) := rfl
@[simp] theorem e_tupL (ds : List D) : tupD [.lst ds] = some (.tup ds) := rfl
@[simp] theorem e_listL (ds : List D) : zgZ [.lst ds] = some (.lst ds) := rfl
@[simp] theorem e_listT (ds : List D) : zgZ [.tup ds] = some (.lst ds) := rfl
@[simp] theorem e_isNN : isD .non .non = some (.bl true) := rfl
@[simp] theorem e_isLN (ds : List D) : isD (.lst ds) .non = some (.bl false) := rfl
@[simp] theorem e_isn1 : isnD .non .non = some (.bl false) := rfl
@[simp] theorem e_isn2 (i : Int) : isnD (.int i) .non = some (.bl true) := rfl
@[simp] theorem e_isn3 (ds : List D) : isnD (.tup ds) .non = some (.bl true) := rfl
@[simp] theorem e_valsD (kvs : List (Key × D)) : zri (.dic kvs) = some (.lst (kvs.map (·.2))) := rfl
theorem zkp {ds : List D} {i : Nat} {d : D} (h : ds[i]? = some d) : ixA (.tup ds) (nD i) = some d := by
  have hl : i < ds.length := (List.getElem?_eq_some_iff.mp h).1
  show atI ds (i : Int) = some d
  unfold atI ixN
  rw [if_pos (Int.natCast_nonneg i),if_pos (by omega)]
  simpa using h
theorem zkq {ds : List D} {i : Nat} {d : D} (h : ds[i]? = some d) : ixA (.lst ds) (nD i) = some d := by
  have hl : i < ds.length := (List.getElem?_eq_some_iff.mp h).1
  show atI ds (i : Int) = some d
  unfold atI ixN
  rw [if_pos (Int.natCast_nonneg i),if_pos (by omega)]
  simpa using h
@[simp] theorem ixA_L0 (d : D) (ds : List D) : ixA (.lst (d::ds)) (.int 0) = some d := zkq (i := 0) rfl
@[simp] theorem ixA_T0 (d : D) (ds : List D) : ixA (.tup (d::ds)) (.int 0) = some d := zkp (i := 0) rfl
theorem zrQ {kvs : List (Key × D)} {k : Nat} {d : D} (h : getK kvs (kI k) = some d) : ixA (.dic kvs) (nD k) = some d := h
theorem anyE (l : List Nat) (k : Nat) : (l.map nD).any (fun y => eqs y (nD k)) = decide (k∈l) := by
  rw [List.any_map,Bool.eq_iff_iff,List.any_eq_true,decide_eq_true_iff]
  constructor
  · rintro ⟨x,h1,h2⟩
    have : (((x : Nat) : Int) == (k : Int)) = true := h2
    have := Int.ofNat_inj.mp (eq_of_beq this)
    subst this; exact h1
  · intro h
    exact ⟨k,h,by show (((k : Nat) : Int) == (k : Int)) = true; simp⟩
theorem zoD (l : List Nat) : (l.map nD).all zbY = true := by
  rw [List.all_eq_true]
  intro x hx
  obtain ⟨k,_,rfl⟩ := List.mem_map.mp hx
  rfl
theorem zrU (l : List Nat) (k : Nat) : inD (nD k) (LN l) = some (.bl (decide (k∈l))) := by
  show (if zbY (nD k) = true∧(l.map nD).all zbY = true then some ((l.map nD).any fun y => eqs y (nD k)) else none).map D.bl = _
  rw [if_pos ⟨rfl,zoD l⟩,anyE]; rfl
end Law
end
section
namespace Law
open PySem L2 DL
theorem zdv {α : Type} (f : α→D) (l : List α) : lenD [.tup (l.map f)] = some (nD l.length) := by
  show some (D.int ((l.map f).length : Int)) = _
  rw [List.length_map]
theorem zgj {α : Type} (f : α→D) (l : List α) : lenD [.lst (l.map f)] = some (nD l.length) := by
  show some (D.int ((l.map f).length : Int)) = _
  rw [List.length_map]
theorem zgn (n : Nat) : eqD (nD n) (nD n) = some (.bl true) := by
  have e := zi4 n n
  rw [decide_eq_true rfl] at e; exact e
theorem zmz (n : Nat) : rngD 0 n = (List.range n).map nD := by
  unfold rngD
  refine List.map_congr_left fun i _ => ?_
  show D.int (0 + (i : Int)) = D.int (i : Int)
  rw [Int.zero_add]
theorem zlS (j : Int) : zj9 [.int j] = if -(2 ^ 62)≤j∧j < 2 ^ 62∧j.toNat≤sizeLine then some (.lst (rngD 0 j.toNat)) else none := rfl
theorem zon {n : Nat} (h : n≤1000) : zj9 [nD n] = some (LN (List.range n)) := by
  have hs : (n : Int).toNat≤sizeLine := by rw [Int.toNat_natCast,sizeLine_eq]; omega
  rw [zlS,if_pos ⟨by omega,by omega,hs⟩,Int.toNat_natCast,zmz]
theorem znH (j : Int) : rng1 [.int j] = if -(2 ^ 62)≤j∧j < 2 ^ 62 then some (rngD 0 j.toNat) else none := rfl
theorem zeb {n : Nat} (h : n≤1000) : rng1 [nD n] = some ((List.range n).map nD) := by
  rw [znH,if_pos ⟨by omega,by omega⟩,Int.toNat_natCast,zmz]
theorem zcU {fl : Rho→Res (List D)} {k : List D→Option (List D)} {r : Rho} {ds es : List D} (h1 : fl r = .ok ds) (h2 : k ds = some es) : fRng k fl r = .ok es := by unfold fRng; rw [h1,bind_ok,h2]; rfl
theorem zfp {p : Nat→Bool} : ∀ (l : List Nat),l.find? p = (l.filter p).head?
  | [] => rfl
  | a::l => by
    rw [List.find?_cons,List.filter_cons]
    cases h : p a with
    | true => simp
    | false => simpa using zfp l
noncomputable def own (owns : List (Option Nat)) (h : Nat) : Option Nat := (owns[h]?).join
end Law
end
section
namespace Law
open PySem L2 DL
theorem ziO {row : List Nat} {rest : List (List Nat)} : zaZ [WD (row::rest)] = .ok (nD row.length) := by
  refine zaU (B := zc4) (n := 1) ?_
  unfold zc4
  exact zaG (zaQ (zbi (zad (zae (a := WD (row::rest)) (b := .int 0) rfl rfl (ixA_T0 _ _)) zak) (zdv _ _)))
end Law
end
section
namespace Law
open PySem L2 DL
end Law
end
section
namespace Law
open PySem L2 DL
theorem zqt {a b : Nat} (h : kI a = kI b) : a = b := Int.ofNat_inj.mp (Sum.inl.inj h)
structure GI (t : Nat→Nat) (kvs : List (Nat × Nat)) (L : List Nat) : Prop where
  nd : (kvs.map (·.1)).Nodup
  val : ∀ p∈kvs,p.2 = t p.1
  key : ∀ h,h∈kvs.map (·.1)↔h∈L
theorem GI.len {t : Nat→Nat} {kvs : List (Nat × Nat)} {L line : List Nat} (g : GI t kvs L) (hs : ∀ h∈L,h∈line) : kvs.length≤line.length := by
  have := Rg.zgi (m := line) g.nd fun h hh => hs h ((g.key h).mp hh)
  simpa using this
theorem GI.congr {t t' : Nat→Nat} {kvs : List (Nat × Nat)} {L : List Nat} (g : GI t kvs L) (h : ∀ x∈L,t' x = t x) : GI t' kvs L :=
  ⟨g.nd,fun p hp => by rw [g.val p hp,h p.1 ((g.key _).mp (List.mem_map.mpr ⟨p,hp,rfl⟩))],g.key⟩
theorem GI.mem {t : Nat→Nat} {kvs : List (Nat × Nat)} {L M : List Nat} (g : GI t kvs L) (h : ∀ x,x∈L↔x∈M) : GI t kvs M := ⟨g.nd,g.val,fun x => (g.key x).trans (h x)⟩
theorem GI.nil (t : Nat→Nat) : GI t [] [] := ⟨by simp,fun _ hp => (nomatch hp),fun h => by simp⟩
theorem zg8 {α : Type} (l : List α) : l.filter (fun _ => true) = l := List.filter_eq_self.mpr fun _ _ => rfl
theorem GI.full {t : Nat→Nat} {kvs : List (Nat × Nat)} {L : List Nat} {n : Nat} (g : GI t kvs L) (h : ∀ x,x∈L↔x < n) : kvs.length = n := by
  have h1 := g.len (line := List.range n) fun x hx => List.mem_range.mpr ((h x).mp hx)
  have h2 := Rg.zgi (l := List.range n) (m := kvs.map (·.1)) List.nodup_range fun x hx => (g.key x).mpr ((h x).mpr (List.mem_range.mp hx))
  simp at h1 h2; omega
noncomputable def Wr (rows : List (List Nat)) (h : Nat) : List Nat := (rows[h]?).getD []
theorem zpx {rows : List (List Nat)} {h : Nat} (hh : h < rows.length) : (rows.map TN)[h]? = some (TN (Wr rows h)) := by
  rw [List.getElem?_map]
  unfold Wr
  rw [List.getElem?_eq_getElem hh]; rfl
end Law
end
section
namespace Law
open PySem L2 DL
theorem zir {a b : Nat} (h : 0 < b) : modI (nD a) (nD b) = some (nD (a % b)) := by
  rw [zhM (by omega : (0 : Int) < (b : Int))]
  show some (D.int _) = some (D.int _)
  rw [Int.natCast_emod]
theorem zkC {a b : Nat} (h : 0 < b) (h2 : b < 1000) : zi2 (nD a) (nD b) = some (nD (a / b)) := by
  rw [zl7 (⟨by omega,by omega⟩ : CDiv (a : Int) (b : Int))]
  show some (D.int _) = some (D.int _)
  rw [Int.natCast_ediv]
theorem zfv (a b : Nat) : addA (nD a) (nD b) = some (nD (a + b)) := by
  rw [addA_int]
  show some (D.int _) = some (D.int _)
  rw [Int.natCast_add]
section
variable {f f' : FE} {r : Rho}
theorem zi3 {b : Int} (h : ∃ i : Int,f r = .ok (.int i)) (h' : f' r = .ok (.int b)) (hb : 0 < b) : ∃ c : Nat,f2 f f' modI r = .ok (nD c) := by
  obtain ⟨i,hi⟩ := h
  refine ⟨(i % b).toNat,zae hi h' ?_⟩
  rw [zhM hb]
  show some (D.int _) = some (D.int _)
  rw [Int.toNat_of_nonneg (Int.emod_nonneg _ (by omega))]
theorem exN (h : ∃ c : Nat,f r = .ok (nD c)) : ∃ i : Int,f r = .ok (.int i) := let ⟨c,e⟩ := h; ⟨c,e⟩
theorem zfq {b : Int} (h : ∃ i : Int,f r = .ok (.int i)) (h' : f' r = .ok (.int b)) (hb : -(2 ^ 64) < b∧b < 2 ^ 64) : ∃ i : Int,f2 f f' mulI r = .ok (.int i) := by
  obtain ⟨i,hi⟩ := h
  exact ⟨i * b,zae hi h' (zok (.inr hb))⟩
theorem zma (h : ∃ i : Int,f r = .ok (.int i)) (h' : ∃ i : Int,f' r = .ok (.int i)) : ∃ i : Int,f2 f f' addA r = .ok (.int i) := by
  obtain ⟨i,hi⟩ := h
  obtain ⟨j,hj⟩ := h'
  exact ⟨i + j,zae hi hj rfl⟩
end
theorem zqR {m : List Md} {i : Nat} {f : FE} {s2 : FS} {r : Rho} (h : ∃ c : Nat,f r = .ok (nD c)) (k : ∀ c : Nat,∃ d : Nat,s2 (r.set i (some (nD c))) = .rt (nD d)) : ∃ d : Nat,seqF (setF m i f) s2 r = .rt (nD d) := by
  obtain ⟨c,hc⟩ := h
  obtain ⟨d,hd⟩ := k c
  exact ⟨d,(zai (zaw hc)).trans hd⟩
noncomputable abbrev IN (ns : List Int) : D := .lst (ns.map .int)
theorem zgc (ns : List Int) (k : Nat) (hk : k≤1000) : ∃ c : Nat,za1 [IN ns,nD k] = .ok (nD c) := by
  suffices h : ∃ c : Nat,zcu (zap 4 [IN ns,nD k]) = .rt (nD c) by
    obtain ⟨c,hc⟩ := h
    exact ⟨c,zaU (B := zcu) (n := 4) hc⟩
  unfold zcu
  have st : seqF (setF q102 2 (ci 0)) = seqF (setF q102 2 (fun _ => Res.ok (nD 0))) := rfl
  rw [st]
  refine zqR ⟨0,rfl⟩ fun c1 => ?_
  show ∃ d : Nat,seqF _ _ [some (IN ns),some (nD k),some (nD c1),none] = _
  have key : ∃ c2 : Nat,(ifF q102 (zaP (f2 (gv 1) (fC (zab (gv 0) lNil) lenD) ltI)) (seqF (setF q102 2 (f2 (f2 (gv 0) (gv 1) ixA) (f2 (ci 10) (ci 60) powI) modI)) zam) zam) [some (IN ns),some (nD k),some (nD c1),none] = .nx [some (IN ns),some (nD k),some (nD c2),none] := by
    have t := zay (zae (f := gv 1) (r := [some (IN ns),some (nD k),some (nD c1),none]) (a := nD k) rfl (zbi (zad (f := gv 0) (d := IN ns) rfl zak) (zgj _ _)) (zql k ns.length))
    by_cases hlt : k < ns.length
    · rw [decide_eq_true hlt] at t
      have hx : (ns.map D.int)[k]? = some (.int ns[k]) := by rw [List.getElem?_map,List.getElem?_eq_getElem hlt]; rfl
      have hp : powI (.int 10) (.int 60) = some (.int (10 ^ 60)) := by
        show zfH CPow _ _ _ = _
        rw [intsC_int,if_pos (by unfold CPow; decide)]
        rfl
      obtain ⟨c2,h2⟩ := zi3 (f := f2 (gv 0) (gv 1) ixA) (f' := f2 (ci 10) (ci 60) powI) (r := [some (IN ns),some (nD k),some (nD c1),none]) ⟨ns[k],zae (a := IN ns) (b := nD k) rfl rfl (zkq hx)⟩ (zae rfl rfl hp) (by decide)
      exact ⟨c2,(if_t t).trans ((zai (zaw h2)).trans rfl)⟩
    · rw [decide_eq_false hlt] at t
      exact ⟨c1,(if_f t).trans rfl⟩
  obtain ⟨c2,h2⟩ := key
  rw [zai h2]
  have kq : ∃ b,(fAnd (zaP (f2 (fC (zab (gv 0) lNil) lenD) (ci 0) gtI)) (zaP (f2 (f2 (f2 (gv 0) (ci 0) ixA) (ci 2) modI) (ci 0) eqD))) [some (IN ns),some (nD k),some (nD c2),none] = .ok b := by
    have t := zay (zae (f := fC (zab (gv 0) lNil) lenD) (f' := fun _ => Res.ok (D.int 0)) (r := [some (IN ns),some (nD k),some (nD c2),none]) (b := nD 0) (zbi (zad (d := IN ns) rfl zak) (zgj _ _)) rfl (zqI ns.length 0))
    cases ns with
    | nil => exact ⟨false,zr4 t⟩
    | cons a ns =>
      rw [decide_eq_true (by simp)] at t
      obtain ⟨c3,h3⟩ := zi3 (f := f2 (gv 0) (ci 0) ixA) (f' := fun _ => Res.ok (D.int 2)) (r := [some (IN (a::ns)),some (nD k),some (nD c2),none]) ⟨a,zae (a := IN (a::ns)) (b := .int 0) rfl rfl (ixA_L0 _ _)⟩ rfl (by decide)
      exact ⟨_,(zr3 t).trans (zay (zae h3 (b := nD 0) rfl (zi4 c3 0)))⟩
  obtain ⟨b,hb⟩ := kq
  cases b with
  | true => exact ⟨c2,zaG ((if_t hb).trans (zaG (zaQ (d := nD c2) rfl)))⟩
  | false =>
    rw [zai ((if_f (s2 := zam) hb).trans (e_skip _))]
    refine zqR (zi3 (zfq (exN (zi3 (zfq (zma (zma (zma ⟨(c2 : Int),rfl⟩ (zfq (b := (k : Int)) (zfq (b := (k : Int)) ⟨7,rfl⟩ rfl (by omega)) rfl (by omega))) (zfq (b := (k : Int)) ⟨13,rfl⟩ rfl (by omega))) ⟨5,rfl⟩) rfl (by decide)) rfl (by decide))) rfl (by decide)) rfl (by decide)) fun c3 => ?_
    obtain ⟨c4,h4⟩ := zi3 (f := (f2 (f2 (f2 (f2 (gv 3) (ci 1) addA) (ci 40692) mulI) (ci 2147483629) modI) (ci 39373) mulI)) (f' := fun _ => Res.ok (D.int 999999937)) (r := [some (IN ns),some (nD k),some (nD c2),some (nD c3)]) (zfq (exN (zi3 (zfq (zma ⟨(c3 : Int),rfl⟩ ⟨1,rfl⟩) rfl (by decide)) rfl (by decide))) rfl (by decide)) rfl (by decide)
    exact ⟨c4,zaG (zaQ h4)⟩
theorem zl1 {row : List Nat} {i : Int} {x : Nat} : insL (row.map nD) i (nD x) = (insL row i x).map nD := by
  unfold insL
  rw [List.length_map,List.map_append,List.map_cons,List.map_take,List.map_drop]
theorem zks {row : List Nat} {i : Int} {x : Nat} : (insL row i x).Perm (x::row) := by
  unfold insL
  refine List.perm_middle.trans ?_
  rw [List.take_append_drop]
theorem zil (m : Nat) : ∀ (j i c : Nat) (row : List Nat) (x : Option D),row.Perm (List.range i)→i + j≤60 →
    ∃ (c' : Nat) (row' : List Nat) (x' : Option D),row'.Perm (List.range (i + j))∧forF (ftN 3) zeR ((List.range' i j).map nD) [some (nD c),some (nD m),some (LN row),x] = .nx [some (nD c'),some (nD m),some (LN row'),x']
  | 0,i,c,row,x,hp,_ => ⟨c,row,x,hp,zbL⟩
  | j + 1,i,c,row,x,hp,hl => by
    have hlen : row.length = i := by rw [hp.length_eq]; simp
    obtain ⟨c',row',x',h1,h2⟩ := zil m j (i + 1) (c / (i + 1)) (insL row ((c % (i + 1) : Nat) : Int) i) (some (nD i)) (by
      refine zks.trans ?_
      rw [List.range_succ]
      exact (List.Perm.cons i hp).trans (List.perm_append_singleton i _).symm) (by omega)
    refine ⟨c',row',x',by rw [show i + (j + 1) = i + 1 + j by omega]; exact h1,?_⟩
    rw [← h2]
    have hmod : c % (i + 1) < i + 1 := Nat.mod_lt _ (by omega)
    refine zbZ (r1 := [some (nD c),some (nD m),some (LN row),some (nD i)]) rfl ?_
    refine (zai (ziq (d := LN row) (ds := [nD (c % (i + 1)),nD i]) (d' := LN (insL row ((c % (i + 1) : Nat) : Int) i)) rfl rfl (zad (zae (a := nD c) (b := nD (i + 1)) rfl (zae (a := nD i) (b := nD 1) rfl rfl (zfv i 1)) (zir (by omega))) (zad (d := nD i) rfl zak)) ?_)).trans ?_
    · show (if _ then some (D.lst (insL _ _ _)) else none) = _
      rw [if_pos ⟨by rw [List.length_map,sizeLine_eq]; omega,by omega,by omega⟩,zl1]
    · exact zai (zaw (d := nD (c / (i + 1))) (zae (a := nD c) (b := nD (i + 1)) rfl (zae (a := nD i) (b := nD 1) rfl rfl (zfv i 1)) (zkC (by omega) (by omega))))
theorem znD (c m : Nat) (hm : m≤60) : ∃ row : List Nat,row.Perm (List.range m)∧zcQ [nD c,nD m] = .ok (TN row) := by
  obtain ⟨c',row',x',h1,h2⟩ := zil m m 0 c [] none (by simp) (by omega)
  rw [Nat.zero_add] at h1
  rw [← List.range_eq_range'] at h2
  refine ⟨row',h1,zaU (B := zdD) (n := 4) ?_⟩
  unfold zdD
  refine (zai (zaw (d := LN []) (zis zak (by simp)))).trans ?_
  refine (zai ((zbK (ds := (List.range m).map nD) (zcU (zad (d := nD m) rfl zak) (zeb (by omega)))).trans h2)).trans ?_
  exact zaG (zaQ (zbi (zad (d := LN row') rfl zak) rfl))
end Law
end
section
namespace Law
open PySem L2 DL
theorem ziN (ns : List Int) (at' n m : Nat) (ha : at'≤60) (hn : n≤60) (hm : m≤60) : ∃ rows : List (List Nat),rows.length = n∧(∀ row∈rows,row.Perm (List.range m))∧zb8 [IN ns,nD at',nD n,nD m] = .ok (WD rows) := by
  have h : ∀ h : Nat,∃ row : List Nat,h≤60→row.Perm (List.range m)∧∃ c : Nat,za1 [IN ns,nD (at' + h)] = .ok (nD c)∧zcQ [nD c,nD m] = .ok (TN row) := by
    intro h
    by_cases hh : h≤60
    · obtain ⟨c,hc⟩ := zgc ns (at' + h) (by omega)
      obtain ⟨row,h1,h2⟩ := znD c m hm
      exact ⟨row,fun _ => ⟨h1,c,hc,h2⟩⟩
    · exact ⟨[],fun z => absurd z hh⟩
  obtain ⟨g,hg⟩ := Classical.axiomOfChoice h
  refine ⟨(List.range n).map g,by simp,fun row hr => ?_,zaU (B := zca) (n := 4) ?_⟩
  · obtain ⟨i,hi,rfl⟩ := List.mem_map.mp hr
    exact (hg i (by have := List.mem_range.mp hi; omega)).1
  · unfold zca
    refine zaG (zaQ (zbi (zad (zgp (l := List.range n) nD (fun _ => true) (fun h => TN (g h)) (zcU (zad (d := nD n) rfl zak) (zeb (by omega))) (by simp; omega) fun h hh => ⟨[some (nD h),some (nD m),some (IN ns),some (nD at')],rfl,rfl,fun _ => ?_⟩) zak) ?_))
    · obtain ⟨_,c,h1,h2⟩ := hg h (by have := List.mem_range.mp hh; omega)
      exact zal (zad (zal (zad (d := IN ns) rfl (zad (zae (a := nD at') (b := nD h) rfl rfl (zfv at' h)) zak)) h1) (zad (d := nD m) rfl zak)) h2
    · rw [zg8,e_tupL]
      show some (D.tup _) = some (D.tup _)
      rw [List.map_map]; rfl
end Law
end
section
namespace Law
open PySem PyProof.Rows L2 DL
theorem zqT (a b : Nat) : eqs (nD a) (nD b) = decide (a = b) := by
  show (((a : Nat) : Int) == (b : Int)) = _
  rw [Bool.eq_iff_iff,beq_iff_eq,decide_eq_true_iff]; exact Int.ofNat_inj
theorem zkB (k : Nat) : ∀ l : List Nat,k∈l→zg6 (nD k) (l.map nD) = some (l.idxOf k)
  | [],h => by cases h
  | a::l,h => by
    show (if eqs (nD a) (nD k) = true then some 0 else (zg6 (nD k) (l.map nD)).map (· + 1)) = _
    rw [zqT]
    by_cases e : a = k
    · rw [if_pos (by simpa using e)]; subst e; simp
    · rw [if_neg (by simpa using e),zkB k l ((List.mem_cons.mp h).resolve_left fun z => e z.symm)]
      have hf : (a == k) = false := by simpa using e
      rw [List.idxOf_cons,hf]; rfl
theorem zkE (k : Nat) : ∀ l : List Nat,(l.map nD).eraseIdx (l.idxOf k) = (l.erase k).map nD
  | [] => rfl
  | a::l => by
    by_cases e : a = k
    · subst e; simp
    · rw [List.idxOf_cons,List.erase_cons_tail (by simpa using e)]
      have : (a == k) = false := by simpa using e
      rw [this]
      show nD a::(l.map nD).eraseIdx (l.idxOf k) = _
      rw [zkE k l]; rfl
theorem zpC {k : Nat} {l : List Nat} (h : k∈l) : remD (LN l) [nD k] = some (LN (l.erase k)) := by
  show (if (l.map nD).all isInt = true then (zg6 (nD k) (l.map nD)).map fun j => D.lst ((l.map nD).eraseIdx j) else none) = _
  rw [if_pos (by rw [List.all_eq_true]; intro x hx; obtain ⟨y,_,rfl⟩ := List.mem_map.mp hx; rfl),zkB k l h]
  show some (D.lst _) = some (D.lst _)
  rw [zkE]
theorem zqQ {T : String} {fo : FE} {fl : Rho→Res (List D)} {k : D→List D→Option D} {r : Rho} {d d' : D} {ds : List D} (h1 : fo r = .ok d) (ht : tyM T d = true) (h2 : fl r = .ok ds) (h3 : k d ds = some d') : fM T fo fl k r = .ok d' := by
  unfold fM; rw [h1,bind_ok,if_pos ht,h2,bind_ok,h3]; rfl
section
variable {a : Nat → Nat} {n : Nat}
end
end Law
end
section
namespace Law
open PySem PyProof.Rows L2 DL
theorem zha : ∀ l l' : List Nat,PyData.eqvAll (zcf (l.map nD)) (zcf (l'.map nD)) = decide (l = l')
  | [],[] => by simp [zcf,PyData.eqvAll]
  | [],k::l => by simp [zcf,PyData.eqvAll]
  | k::l,[] => by simp [zcf,PyData.eqvAll]
  | k::l,k'::l' => by
    have ih := zha l l'
    simp only [List.map_cons,zcf,toPy,PyData.eqvAll,PyData.eqv,ih]
    rw [Bool.eq_iff_iff]
    simp
    omega
theorem zph {l : List Nat} {k : Nat} : ∀ d∈l.map nD,Shp k d := by
  intro d hd
  obtain ⟨x,_,rfl⟩ := List.mem_map.mp hd
  cases k <;> trivial
theorem zqV (l l' : List Nat) : eqB (LN l) (LN l') = some (decide (l = l')) := by
  rw [zgo rfl (zf7.mpr zph) (zf7.mpr zph)]
  unfold eqb
  simp only [toPy,PyData.eqv,zha]
theorem zrZ (l : List Nat) : eqB (LN l) (LN l) = some true := by rw [zqV,decide_eq_true rfl]
theorem zrM (l : List Nat) : neD (LN l) (LN l) = some (.bl false) := by unfold neD; rw [zrZ]; rfl
theorem znZ {f : FE} {r : Rho} {i : Int} (h : f r = .ok (.int i)) : zl8 f r = .ok (some i) := by unfold zl8; rw [h]; rfl
theorem zpi {ds : List D} {i : Nat} {v : D} (h : i < ds.length) : stoD (.lst ds) (nD i) v = some (.lst (ds.set i v)) := by
  show (ixN ds.length (i : Int)).map _ = _
  unfold ixN
  rw [if_pos (Int.natCast_nonneg i),if_pos (by omega)]
  simp
theorem zbU {nl : Nat} {cap : List Nat} {fi : FI} {ft : FT} {fe : FE} {r : Rho} {α : Type} {l : List α} (e : α→D) (g : α→D) (h1 : fi r = .ok (l.map e)) (hl : l.length≤1000)
    (h : ∀ a∈l,∃ r1,ft (e a) (capR nl cap r) = some r1∧fe r1 = .ok (g a)) : zbp nl cap fi ft (fun _ => Res.ok true) fe r = .ok (.lst (l.map g)) := by
  have := zgp (q := fun _ => Res.ok true) e (fun _ => true) g h1 hl fun a ha => by
    obtain ⟨r1,q1,q2⟩ := h a ha
    exact ⟨r1,q1,rfl,fun _ => q2⟩
  rw [this,zg8]
end Law
end
section
namespace Law
open PySem PyProof.Rows L2 DL
theorem zkh (row things : List Nat) (fst : D) : ∀ (l : List Nat) (y : Option D),
    (match l.find? (fun h => decide (h∈things)) with
      | some h => forF (ftN 2) zbx (l.map nD) [some fst,some (LN things),y] = .rt (nD h)
      | none => ∃ y',forF (ftN 2) zbx (l.map nD) [some fst,some (LN things),y] = .nx [some fst,some (LN things),y'])
  | [],y => ⟨y,zbL⟩
  | h::l,y => by
    have c : (zaP (f2 (gv 2) (gv 1) inD)) [some fst,some (LN things),some (nD h)] = .ok (decide (h∈things)) := zay (zae (a := nD h) (b := LN things) rfl rfl (zrU _ _))
    rw [List.find?_cons]
    cases e : decide (h∈things) with
    | true =>
      rw [e] at c
      refine zqO (r1 := [some fst,some (LN things),some (nD h)]) rfl ?_
      exact zaG ((if_t c).trans (zaG (zaQ (d := nD h) rfl)))
    | false =>
      rw [e] at c
      have ih := zkh row things fst l (some (nD h))
      have st : forF (ftN 2) zbx ((h::l).map nD) [some fst,some (LN things),y] = forF (ftN 2) zbx (l.map nD) [some fst,some (LN things),some (nD h)] :=
        zbZ (r1 := [some fst,some (LN things),some (nD h)]) rfl ((zai (if_f c)).trans rfl)
      rw [st]
      exact ih
theorem zjE {row things : List Nat} (h : ∃ x∈row,x∈things) : zct [TN row,LN things] = .ok (nD (Rg.best row things)) := by
  refine zaU (B := zdb) (n := 3) ?_
  unfold zdb
  have hl := zkh row things (TN row) row none
  unfold Rg.best
  cases e : row.find? fun x => decide (x∈things) with
  | none =>
    obtain ⟨x,h1,h2⟩ := h
    have := List.find?_eq_none.mp e x h1
    simp [h2] at this
  | some k =>
    rw [e] at hl
    exact zaG ((zbK (ds := row.map nD) rfl).trans hl)
end Law
end
section
set_option exponentiation.threshold 3000
namespace Law
open PySem PyProof.Rows L2 DL Fq
noncomputable abbrev FR (x : Int × Nat) : D := .tup [.int x.1,nD x.2]
noncomputable abbrev TF (l : List (Int × Nat)) : D := .tup (l.map FR)
theorem zoL : BIG = 2 ^ 2000 := rfl
theorem zj8 {a k : Nat} (h : a < 2 ^ k) (hk : k≤2000) : a < BIG := by
  rw [zoL]; exact Nat.lt_of_lt_of_le h (Nat.pow_le_pow_right (by omega) hk)
theorem zbI {a b : Int} {k l : Nat} (h1 : a.natAbs < 2 ^ k) (h2 : b.natAbs < 2 ^ l) (hk : k≤2000) (hl : l≤2000) : mulW (.int a) (.int b) = some (.int (a * b)) := by
  rw [mulW,intsC_int,if_pos ⟨zj8 h1 hk,zj8 h2 hl⟩]
theorem ze3 {a : Int} {b k : Nat} (h0 : 0 < b) (h1 : b < 2 ^ k) (hk : k≤2000) : zhV (.int a) (nD b) = some (.int (a / (b : Int))) := by
  rw [zhV,intsC_int,if_pos ⟨by omega,by rw [Int.natAbs_natCast]; exact zj8 h1 hk⟩]
theorem zqh (b : Nat) : neD (nD b) (.int 0) = some (.bl (! decide (b = 0))) := ziV b 0
theorem zl5 {m : List Md} : ∀ (k n : Nat) (a : Int) (b : Nat) (x : Option D),b < 2 ^ k→2 * k + 1≤n →
    ∃ (a' : Int) (y : Option D),zbr m zbc zbd n [some (.int a),some (nD b),x] = .nx [some (.int a'),some (nD 0),y]∧a'.natAbs = Int.gcd a b := by
  have z0 : ∀ (n : Nat) (a : Int) (x : Option D),1≤n→∃ (a' : Int) (y : Option D),zbr m zbc zbd n [some (.int a),some (nD 0),x] = .nx [some (.int a'),some (nD 0),y]∧a'.natAbs = Int.gcd a 0 := by
    intro n a x hn
    obtain ⟨n,rfl⟩ : ∃ k,n = k + 1 := ⟨n - 1,by omega⟩
    exact ⟨a,x,zjk (zay (zae (a := nD 0) (b := .int 0) rfl rfl (zqh 0))),by simp⟩
  have st : ∀ (n : Nat) (a : Int) (b : Nat) (x : Option D),0 < b→zbr m zbc zbd (n + 1) [some (.int a),some (nD b),x] = zbr m zbc zbd n [some (nD b),some (nD (a % (b : Int)).toNat),some (nD (a % (b : Int)).toNat)] := by
    intro n a b x hb
    have hne := zqh b
    rw [decide_eq_false (by omega)] at hne
    refine zjj (zay (zae (a := nD b) (b := .int 0) rfl rfl hne)) ?_
    refine (zai (zaw (d := nD (a % (b : Int)).toNat) (zae (a := .int a) (b := nD b) rfl rfl ?_))).trans ?_
    · rw [zhM (by omega)]
      show some (D.int _) = some (D.int _)
      rw [Int.toNat_of_nonneg (Int.emod_nonneg _ (by omega))]
    refine (zai (zaw (d := nD b) rfl)).trans ?_
    exact zai (zaw (d := nD (a % (b : Int)).toNat) rfl)
  have hr : ∀ (a : Int) (b : Nat),0 < b→(((a % (b : Int)).toNat : Nat) : Int) = a % (b : Int)∧(a % (b : Int)).toNat < b := by
    intro a b hb
    have h1 := Int.emod_nonneg a (show (b : Int)≠0 by omega)
    have h2 := Int.emod_lt_of_pos a (show (0 : Int) < b by omega)
    exact ⟨Int.toNat_of_nonneg h1,by omega⟩
  intro k
  induction k with
  | zero =>
    intro n a b x hb hn
    have : b = 0 := by
      have : (2 : Nat) ^ 0 = 1 := rfl
      omega
    subst this
    exact z0 n a x (by omega)
  | succ k ih =>
    intro n a b x hb hn
    by_cases h0 : b = 0
    · subst h0; exact z0 n a x (by omega)
    · have hbp : 0 < b := by omega
      obtain ⟨n,rfl⟩ : ∃ j,n = j + 2 := ⟨n - 2,by omega⟩
      obtain ⟨r1,r2⟩ := hr a b hbp
      have e1 := st (n + 1) a b x hbp
      generalize (a % (b : Int)).toNat = r at r1 r2 e1
      rw [e1,ziA a b,← r1]
      by_cases hz : r = 0
      · subst hz
        exact z0 (n + 1) b _ (by omega)
      · obtain ⟨s1,s2⟩ := hr (b : Int) r (by omega)
        have e2 := st n (b : Int) r (some (nD r)) (by omega)
        have hs : ((b : Int) % (r : Int)).toNat = b % r := by omega
        rw [hs] at s1 s2 e2
        rw [e2,ziA (b : Int) r,← s1]
        refine ih n (r : Int) (b % r) _ ?_ (by omega)
        have h3 : b % r < r := Nat.mod_lt _ (by omega)
        have h4 : b % r≤b - r := by
          have := Nat.mod_eq_sub_mod (show r≤b by omega)
          rw [this]; exact Nat.mod_le _ _
        rw [Nat.pow_succ] at hb
        omega
theorem zep {a : Int} {b k : Nat} (hb : b < 2 ^ k) (hk : k≤499) : zbf [.int a,nD b] = .ok (nD (Int.gcd a b)) := by
  obtain ⟨a',y,h1,h2⟩ := zl5 (m := q103) k 1000 a b none hb (by omega)
  refine zaU (B := zcc) (n := 3) ?_
  unfold zcc
  refine (zai h1).trans (zaG (zaQ (zbi (zad (d := .int a') rfl zak) ?_)))
  show some (D.int (if a' < 0 then -a' else a')) = some (D.int _)
  rw [← h2]
  split <;> congr 2 <;> omega
theorem znE {t : Int} {b k : Nat} (h0 : 0 < b) (hb : b < 2 ^ k) (hk : k≤499) : zdz [.int t,nD b] = .ok (FR (low t b)) := by
  refine zaU (B := zdE) (n := 3) ?_
  unfold zdE
  have hg := zgm t h0
  have hgb : Int.gcd t b < 2 ^ k := by
    have h1 : Int.gcd t b ∣ b := Int.natCast_dvd_natCast.mp (Int.gcd_dvd_right t b)
    have := Nat.le_of_dvd h0 h1
    omega
  refine (zai (zaw (zal (zad (d := .int t) rfl (zad (d := nD b) rfl zak)) (zep hb hk)))).trans ?_
  refine zaG (zaQ (zgX (zad (zae (a := .int t) (b := nD (Int.gcd t b)) rfl rfl (ze3 hg hgb (by omega))) (zad (zae (a := nD b) (b := nD (Int.gcd t b)) rfl rfl (ze3 hg hgb (by omega))) zak)) (by simp)))
theorem zde (x : Int × Nat) : ixA (FR x) (.int 0) = some (.int x.1) := rfl
theorem zcI (x : Int × Nat) : ixA (FR x) (.int 1) = some (nD x.2) := zkp (i := 1) rfl
section
variable {k l : Nat} {a b : Int × Nat}
theorem zgM (ha : Bd k a) (hb : Bd l b) (hl : k + l≤498) : zaN [FR a,FR b] = .ok (FR (ziT a b)) := by
  refine zaU (B := zc8) (n := 2) ?_
  unfold zc8
  have i0 := zde a
  have i1 := zcI a
  have j0 := zde b
  have j1 := zcI b
  refine zaG (zaQ (zal (zad (zae (zae (zae (a := FR a) rfl rfl i0) (zae (a := FR b) rfl rfl j1) (zbI ha.top (by rw [Int.natAbs_natCast]; exact hb.bot) (by omega) (by omega))) (zae (zae (a := FR b) rfl rfl j0) (zae (a := FR a) rfl rfl i1) (zbI hb.top (by rw [Int.natAbs_natCast]; exact ha.bot) (by omega) (by omega))) rfl)
    (zad (d := nD (a.2 * b.2)) (zae (zae (a := FR a) rfl rfl i1) (zae (a := FR b) rfl rfl j1) ?_) zak)) ?_))
  · rw [zbI (k := k) (l := l) (by rw [Int.natAbs_natCast]; exact ha.bot) (by rw [Int.natAbs_natCast]; exact hb.bot) (by omega) (by omega)]
    show some (D.int _) = some (D.int _)
    rw [Int.natCast_mul]
  · exact znE (zb4 ha hb).1 (zb4 ha hb).2 (by omega)
theorem zgO (ha : Bd k a) (hb : Bd l b) (hk : k≤2000) (hl : l≤2000) : za0 [FR a,FR b] = .ok (.bl (zkd a b)) := by
  refine zaU (B := zc9) (n := 2) ?_
  unfold zc9
  have i0 := zde a
  have i1 := zcI a
  have j0 := zde b
  have j1 := zcI b
  exact zaG (zaQ (zae (zae (zae (a := FR a) rfl rfl i0) (zae (a := FR b) rfl rfl j1) (zbI ha.top (by rw [Int.natAbs_natCast]; exact hb.bot) (by omega) (by omega))) (zae (zae (a := FR b) rfl rfl j0) (zae (a := FR a) rfl rfl i1) (zbI hb.top (by rw [Int.natAbs_natCast]; exact ha.bot) (by omega) (by omega))) rfl))
theorem zik (ha : Bd k a) (hc : Int.gcd a.1 (a.2 : Nat) = 1) (hk : k≤499) : zaE [FR a] = .ok (.bl true) := by
  refine zaU (B := za8) (n := 2) ?_
  unfold za8
  refine (zai ((if_f ?_).trans (e_skip _))).trans ?_
  · rw [or_f (zbD (b := true) (zaJ (zfI (a := FR a) (d := .bl true) rfl rfl) rfl))]
    exact zay (zae (a := nD 2) (b := nD 2) (zbi (zad (d := FR a) rfl zak) rfl) rfl (ziV 2 2))
  have stp : ∀ (i : Int),zb0 [some (FR a),some (.int i)] = .nx [some (FR a),some (.int i)] := by
    intro i
    refine zai ((if_f ?_).trans (e_skip _))
    rw [or_f (zbD (b := true) (zaJ (zfI (a := .int i) (d := .bl true) rfl rfl) rfl))]
    exact zaJ (zfI (a := .int i) (d := .bl false) rfl rfl) rfl
  refine (zai ((zbK (zcx (d := FR a) rfl rfl)).trans ((zbZ (r1 := [some (FR a),some (.int a.1)]) rfl (stp a.1)).trans ((zbZ (r1 := [some (FR a),some (nD a.2)]) rfl (stp a.2)).trans zbL)))).trans ?_
  have hp := ha.pos
  have hg := zqI a.2 0
  rw [decide_eq_true hp] at hg
  refine zaG (zaQ ?_)
  rw [zmr (zae (zae (a := FR a) rfl rfl (zcI a)) (b := nD 0) rfl hg)]
  refine zae (a := nD 1) (b := nD 1) (zal (zad (zae (a := FR a) rfl rfl (zde a)) (zad (zae (a := FR a) rfl rfl (zcI a)) zak)) ?_) rfl (zgn 1)
  have := zep (a := a.1) ha.bot hk
  rw [hc] at this
  exact this
end
theorem ziC : ∀ l : List (Int × Nat),PyData.eqvAll (zcf (l.map FR)) (zcf (l.map FR)) = true
  | [] => by simp [zcf,PyData.eqvAll]
  | x::l => by
    have ih := ziC l
    simp only [List.map_cons,zcf,toPy,PyData.eqvAll,PyData.eqv,ih]
    simp
theorem zru {l : List (Int × Nat)} {k : Nat} : ∀ d∈l.map FR,Shp (k + 1) d := by
  intro d hd
  obtain ⟨x,_,rfl⟩ := List.mem_map.mp hd
  refine zen.mpr ?_
  intro e he
  simp at he
  rcases he with rfl | rfl <;> (cases k <;> trivial)
theorem zjA {B : FS} {n : Nat} {ds : List D} {d : D} (h : B (zap n ds) = .rt d) : outR true (B (zap n ds)) = .ok d := by rw [h]; rfl
theorem zq2 {α : Type} (p : α→Bool) : ∀ l : List α,zgt (l.map fun x => D.bl (p x)) = some (l.map p)
  | [] => rfl
  | x::l => by
    show (zgt (l.map fun x => D.bl (p x))).map _ = _
    rw [zq2 p l]; rfl
theorem zq5 {α : Type} (p : α→Bool) (l : List α) : allD [.lst (l.map fun x => D.bl (p x))] = some (.bl (l.all p)) := by
  show (zgt (l.map fun x => D.bl (p x))).map _ = _
  rw [zq2]
  show some (D.bl ((l.map p).all id)) = _
  rw [List.all_map]; rfl
theorem zgK (i : Int) : zcP [.int i] = .ok (.bl true) := rfl
theorem zpv {a : Int} {b k : Nat} (hb : b < 2 ^ k) (hk : k≤499) : za7 [.int a,nD b] = .ok (nD (Int.gcd a b)) := zep hb hk
theorem zbV {t : Int} {b k : Nat} (h0 : 0 < b) (hb : b < 2 ^ k) (hk : k≤499) : zaz [.int t,nD b] = .ok (FR (low t b)) := by
  refine zaU (B := zdC) (n := 3) ?_
  unfold zdC
  have hg := zgm t h0
  have hgb : Int.gcd t b < 2 ^ k := by
    have h1 : Int.gcd t b ∣ b := Int.natCast_dvd_natCast.mp (Int.gcd_dvd_right t b)
    have := Nat.le_of_dvd h0 h1
    omega
  refine (zai ((if_f ?_).trans (e_skip _))).trans ?_
  · rw [or_f (zbD (b := true) (zaJ (zal (zad (d := .int t) rfl zak) (zgK t)) rfl)),or_f (zbD (b := true) (zaJ (zal (zad (d := nD b) rfl zak) (zgK b)) rfl))]
    have := zi4 b 0
    rw [decide_eq_false (by omega)] at this
    exact zay (zae (a := nD b) (b := nD 0) rfl rfl this)
  refine (zai (zaw (zal (zad (d := .int t) rfl (zad (d := nD b) rfl zak)) (zpv hb hk)))).trans ?_
  refine (zai ((if_f ?_).trans (e_skip _))).trans ?_
  · have := zql b 0
    rw [decide_eq_false (by omega)] at this
    exact zay (zae (a := nD b) (b := nD 0) rfl rfl this)
  refine zaG (zaQ (zgX (zad (zae (a := .int t) (b := nD (Int.gcd t b)) rfl rfl (ze3 hg hgb (by omega))) (zad (zae (a := nD b) (b := nD (Int.gcd t b)) rfl rfl (ze3 hg hgb (by omega))) zak)) (by simp)))
end Law
end
section
set_option exponentiation.threshold 3000
namespace Law
open PySem PyProof.Rows L2 DL Fq
noncomputable abbrev QF (z : Nat) : D := FR (Qd (z : Int))
section
variable {k l : Nat} {a b : Int × Nat}
theorem zls (ha : Bd k a) (hb : Bd l b) (hl : k + l≤498) : zfD [FR a,FR b] = .ok (FR (ziT a b)) := by
  refine zaU (B := ziH) (n := 2) ?_
  unfold ziH
  have i0 := zde a
  have i1 := zcI a
  have j0 := zde b
  have j1 := zcI b
  refine zaG (zaQ (zal (zad (zae (zae (zae (a := FR a) rfl rfl i0) (zae (a := FR b) rfl rfl j1) (zbI ha.top (by rw [Int.natAbs_natCast]; exact hb.bot) (by omega) (by omega))) (zae (zae (a := FR b) rfl rfl j0) (zae (a := FR a) rfl rfl i1) (zbI hb.top (by rw [Int.natAbs_natCast]; exact ha.bot) (by omega) (by omega))) rfl)
    (zad (d := nD (a.2 * b.2)) (zae (zae (a := FR a) rfl rfl i1) (zae (a := FR b) rfl rfl j1) ?_) zak)) ?_))
  · rw [zbI (k := k) (l := l) (by rw [Int.natAbs_natCast]; exact ha.bot) (by rw [Int.natAbs_natCast]; exact hb.bot) (by omega) (by omega)]
    show some (D.int _) = some (D.int _)
    rw [Int.natCast_mul]
  · exact zbV (zb4 ha hb).1 (zb4 ha hb).2 (by omega)
theorem zjB (ha : Bd k a) (hb : Bd l b) (hl : k + l≤498) : zfE [FR a,FR b] = .ok (FR (zmU a b)) := by
  refine zaU (B := zgB) (n := 2) ?_
  unfold zgB
  have i0 := zde a
  have i1 := zcI a
  have j0 := zde b
  have j1 := zcI b
  refine zaG (zaQ (zal (zad (zae (zae (zae (a := FR a) rfl rfl i0) (zae (a := FR b) rfl rfl j1) (zbI ha.top (by rw [Int.natAbs_natCast]; exact hb.bot) (by omega) (by omega))) (zae (zae (a := FR b) rfl rfl j0) (zae (a := FR a) rfl rfl i1) (zbI hb.top (by rw [Int.natAbs_natCast]; exact ha.bot) (by omega) (by omega))) rfl)
    (zad (d := nD (a.2 * b.2)) (zae (zae (a := FR a) rfl rfl i1) (zae (a := FR b) rfl rfl j1) ?_) zak)) ?_))
  · rw [zbI (k := k) (l := l) (by rw [Int.natAbs_natCast]; exact ha.bot) (by rw [Int.natAbs_natCast]; exact hb.bot) (by omega) (by omega)]
    show some (D.int _) = some (D.int _)
    rw [Int.natCast_mul]
  · exact zbV (zb4 ha hb).1 (zb4 ha hb).2 (by omega)
theorem zgL (ha : Bd k a) (hb : Bd l b) (hl : k + l≤498) : zc1 [FR a,FR b] = .ok (FR (zjn a b)) := by
  refine zaU (B := zgA) (n := 2) ?_
  unfold zgA
  have i0 := zde a
  have i1 := zcI a
  have j0 := zde b
  have j1 := zcI b
  refine zaG (zaQ (zal (zad (zae (zae (a := FR a) rfl rfl i0) (zae (a := FR b) rfl rfl j0) (zbI ha.top hb.top (by omega) (by omega)))
    (zad (d := nD (a.2 * b.2)) (zae (zae (a := FR a) rfl rfl i1) (zae (a := FR b) rfl rfl j1) ?_) zak)) ?_))
  · rw [zbI (k := k) (l := l) (by rw [Int.natAbs_natCast]; exact ha.bot) (by rw [Int.natAbs_natCast]; exact hb.bot) (by omega) (by omega)]
    show some (D.int _) = some (D.int _)
    rw [Int.natCast_mul]
  · exact zbV (zb4 ha hb).1 (zb4 ha hb).2 (by omega)
theorem zlt (ha : Bd k a) (hb : Bd l b) (hk : k≤2000) (hl : l≤2000) : zhr [FR a,FR b] = .ok (.bl (zkd a b)) := zgO ha hb hk hl
end
theorem rp {a b : Nat} (ha : a≤DD) (hb : b≤DD) : zfD [QF a,QF b] = .ok (QF (a + b)) := by
  have := zls (zdG ha) (zdG hb) (by omega)
  rw [zh4,← Int.natCast_add] at this
  exact this
theorem rm {a b : Nat} (ha : a≤DD) (hb : b≤a) : zfE [QF a,QF b] = .ok (QF (a - b)) := by
  have := zjB (zdG ha) (zdG (Nat.le_trans hb ha)) (by omega)
  rw [zmn,← Int.natCast_sub hb] at this
  exact this
theorem bd_n {c : Nat} (h : c≤7) : Bd 3 ((c : Int),1) := ⟨by show 0 < 1; decide,by show 1 < 8; decide,by rw [Int.natAbs_natCast]; show c < 8; omega⟩
theorem bd_1 {c : Nat} (h0 : 0 < c) (h : c≤7) : Bd 3 ((1 : Int),c) := ⟨h0,by show c < 8; omega,by show 1 < 8; decide⟩
theorem rt {c a : Nat} (hc : c≤7) (ha : a≤DD) : zc1 [FR ((c : Int),1),QF a] = .ok (QF (c * a)) := by
  have := zgL (bd_n hc) (zdG ha) (by omega)
  rw [zmm,← Int.natCast_mul] at this
  exact this
theorem rd {c a : Nat} (h0 : 0 < c) (hc : c≤7) (ha : a≤DD) (hd : c ∣ a) : zc1 [QF a,FR ((1 : Int),c)] = .ok (QF (a / c)) := by
  have := zgL (zdG ha) (bd_1 h0 hc) (by omega)
  rw [zq8 h0 hd] at this
  exact this
theorem rl {a b : Nat} (ha : a≤DD) (hb : b≤DD) : zhr [QF a,QF b] = .ok (.bl (decide (a < b))) := by
  have := zlt (zdG ha) (zdG hb) (by omega) (by omega)
  rw [zk4] at this
  rw [this]
  simp only [Int.ofNat_lt]
theorem rf1 {c : Nat} (h0 : 0 < c) (hc : c≤7) : zaz [.int 1,nD c] = .ok (FR ((1 : Int),c)) := by
  have := zbV (t := 1) (b := c) (k := 3) h0 (by show c < 8; omega) (by omega)
  rw [zrN] at this; exact this
theorem rf2 (c : Nat) : zaz [nD c,.int 1] = .ok (FR ((c : Int),1)) := by
  have := zbV (t := (c : Int)) (b := 1) (k := 1) (by decide) (by decide) (by omega)
  rw [low1] at this; exact this
theorem zfT {d0 : D} : ∀ (l : List Nat) (m : Nat) (x : Option D),m≤DD→(∀ y∈l,y≤DD)→∃ x',forF (ftN 2) zhq (l.map QF) [some d0,some (QF m),x] = .nx [some d0,some (QF (l.foldl (fun m y => if y < m then y else m) m)),x']
  | [],m,x,_,_ => ⟨x,zbL⟩
  | y::l,m,x,hm,hl => by
    have hy := hl y List.mem_cons_self
    obtain ⟨x',ih⟩ := zfT (d0 := d0) l (if y < m then y else m) (some (QF y)) (by split <;> assumption) (fun z hz => hl z (List.mem_cons_of_mem _ hz))
    refine ⟨x',?_⟩
    rw [List.map_cons,List.foldl_cons,← ih]
    refine zbZ (r1 := [some d0,some (QF m),some (QF y)]) rfl ?_
    have t := rl hy hm
    by_cases h : y < m
    · rw [decide_eq_true h] at t
      rw [if_pos h]
      exact zai ((if_t (zaJ (zal (zad (d := QF y) rfl (zad (d := QF m) rfl zak)) t) rfl)).trans (zai (zaw (d := QF y) rfl)))
    · rw [decide_eq_false h] at t
      rw [if_neg h]
      exact zai ((if_f (zaJ (zal (zad (d := QF y) rfl (zad (d := QF m) rfl zak)) t) rfl)).trans (e_skip _))
theorem zjD {l : List Nat} (h : l≠[]) (hl : ∀ y∈l,y≤DD) : zgy [.lst (l.map QF)] = .ok (QF (Et.leastN l)) := by
  cases l with
  | nil => exact absurd rfl h
  | cons x l =>
    obtain ⟨x',e⟩ := zfT (d0 := .lst ((x::l).map QF)) (x::l) x none (hl x List.mem_cons_self) hl
    rw [List.foldl_cons,if_neg (Nat.lt_irrefl x)] at e
    refine zaU (B := zgC) (n := 3) ?_
    unfold zgC
    refine (zai (zaw (d := QF x) (zae (a := .lst ((x::l).map QF)) (b := .int 0) rfl rfl (ixA_L0 _ _)))).trans ?_
    refine (zai ((zbK (zcx (d := .lst ((x::l).map QF)) rfl rfl)).trans e)).trans ?_
    exact zaG (zaQ (d := QF (Et.leastN (x::l))) rfl)
noncomputable abbrev LD (T : List Nat) (a : Nat→Nat) : D := .dic (T.map fun x => (kI x,QF (a x)))
theorem zm2 (f : Nat→D) : ∀ {T : List Nat} {x : Nat},x∈T→getK (T.map fun x => (kI x,f x)) (kI x) = some (f x)
  | [],_,h => by cases h
  | y::T,x,h => by
    by_cases e : y = x
    · subst e; simp [getK,List.find?_cons]
    · have hne : ¬ kI y = kI x := fun z => e (zqt z)
      have ih := zm2 f (T := T) (x := x) ((List.mem_cons.mp h).resolve_left fun z => e z.symm)
      have e1 : getK ((y::T).map fun x => (kI x,f x)) (kI x) = getK (T.map fun x => (kI x,f x)) (kI x) := by
        simp only [getK,List.map_cons,List.find?_cons]
        rw [decide_eq_false hne]
      rw [e1]; exact ih
theorem zkg {T : List Nat} {a : Nat→Nat} {x : Nat} (h : x∈T) : ixA (LD T a) (nD x) = some (QF (a x)) := zrQ (zm2 (fun x => QF (a x)) h)
theorem zm1 (f : Nat→D) (T : List Nat) (x : Nat) : hasK (T.map fun x => (kI x,f x)) (kI x) = decide (x∈T) := by
  have := zm0 (T.map fun y => (y,f y)) x
  rw [List.map_map,List.map_map] at this
  have e : List.map ((fun p : Nat × D => p.1) ∘ fun y => (y,f y)) T = T := by
    have : ((fun p : Nat × D => p.1) ∘ fun y => (y,f y)) = id := rfl
    rw [this,List.map_id]
  rw [e] at this
  exact this
theorem zrT (T : List Nat) (a : Nat→Nat) (x : Nat) : inD (nD x) (LD T a) = some (.bl (decide (x∈T))) := by
  show (Option.map _ ((keyD (nD x)).map (hasK (T.map fun x => (kI x,QF (a x)))))) = _
  show some (D.bl (hasK (T.map fun x => (kI x,QF (a x))) (kI x))) = _
  rw [zm1]
theorem zqd (T : List Nat) (a : Nat→Nat) (x : Nat) : ninD (nD x) (LD T a) = some (.bl (! decide (x∈T))) := by
  show (Option.map _ ((keyD (nD x)).map (hasK (T.map fun x => (kI x,QF (a x)))))) = _
  show some (D.bl (! hasK (T.map fun x => (kI x,QF (a x))) (kI x))) = _
  rw [zm1]
theorem zhS (T : List Nat) (f : Nat→D) : zeh (.dic (T.map fun x => (kI x,f x))) = some (T.map nD) := by
  show some ((T.map fun x => (kI x,f x)).map fun kv => kyD kv.1) = _
  rw [List.map_map]; rfl
theorem zhR {f : FE} {r : Rho} {d : D} {ds : List D} (h : f r = .ok d) (h2 : zeh d = some ds) : fSeq zeh f r = .ok ds := by unfold fSeq; rw [h,bind_ok,h2]; rfl
theorem zjr {T : List Nat} {f : Nat→D} {x : Nat} (h : x∉T) (hl : T.length≤1000) : stoD (.dic (T.map fun x => (kI x,f x))) (nD x) (f x) = some (.dic ((T++[x]).map fun x => (kI x,f x))) := by
  show (if (T.map fun x => (kI x,f x)).length < sizeLine then some (D.dic (putD _ (kI x) (f x))) else none) = _
  rw [if_pos (by rw [List.length_map,sizeLine_eq]; omega)]
  have := zlx (T.map fun y => (y,f y)) x (f x) (by rw [List.map_map]; simpa [Function.comp_def] using h)
  rw [List.map_map] at this
  show some (D.dic (putD (T.map fun x => (kI x,f x)) (kI x) (f x))) = _
  have e : putD (T.map fun x => (kI x,f x)) (kI x) (f x) = (T++[x]).map fun x => (kI x,f x) := by
    refine Eq.trans this ?_
    rw [List.map_append,List.map_map,List.map_append]; rfl
  rw [e]
theorem zjG {row T : List Nat} {a : Nat→Nat} (h : ∃ x∈row,x∈T) (hl : row.length≤1000) : zbQ [TN row,LD T a] = .ok (nD (Rg.best row T)) := by
  refine zaU (B := zc7) (n := 2) ?_
  unfold zc7
  have hc : (zbp 1 [1] (fSeq zbq (gv 0)) (ftN 0) (zaP (f2 (gv 0) (gv 1) inD)) (gv 0)) [some (TN row),some (LD T a)] = .ok (LN (row.filter fun x => decide (x∈T))) := by
    refine zgp nD (fun x => decide (x∈T)) nD (l := row) rfl hl fun x _ => ⟨[some (nD x),some (LD T a)],rfl,?_,fun _ => rfl⟩
    exact zay (zae (a := nD x) (b := LD T a) rfl rfl (zrT _ _ _))
  have hb : ∃ t,(row.filter fun x => decide (x∈T)) = Rg.best row T::t := by
    unfold Rg.best
    rw [zfp]
    cases e : row.filter fun x => decide (x∈T) with
    | nil =>
      obtain ⟨x,h1,h2⟩ := h
      have : x∈row.filter fun x => decide (x∈T) := List.mem_filter.mpr ⟨h1,by simpa using h2⟩
      rw [e] at this; cases this
    | cons a t => exact ⟨t,rfl⟩
  obtain ⟨t,ht⟩ := hb
  rw [ht] at hc
  exact zaG (zaQ (zae hc (b := .int 0) rfl (ixA_L0 _ _)))
theorem zkO (l : List Nat) (t : Nat) : zfX (LN l) [nD t] = some (nD (l.count t)) := by
  show (if zbY (nD t) = true∧(l.map nD).all zbY = true then some (D.int (((l.map nD).countP fun z => eqs z (nD t) : Nat) : Int)) else none) = _
  rw [if_pos ⟨rfl,zoD l⟩,List.countP_map]
  show some (D.int ((l.countP ((fun z => eqs z (nD t)) ∘ nD) : Nat) : Int)) = some (D.int ((l.count t : Nat) : Int))
  have : (fun z => eqs z (nD t)) ∘ nD = fun z => z == t := by
    funext z
    show eqs (nD z) (nD t) = _
    rw [zqT]
    by_cases h : z = t <;> simp [h]
  rw [this]; rfl
theorem zm6 (p q : Int × Nat) : eqB (FR p) (FR q) = some (decide (p = q)) := by
  have sh : ∀ x : Int × Nat,Shp 60 (FR x) := fun x => zen.mpr fun e he => by
    simp at he
    rcases he with rfl | rfl <;> trivial
  rw [zgo rfl (sh p) (sh q)]
  unfold eqb
  simp only [toPy,zcf,PyData.eqv,PyData.eqvAll]
  congr 1
  rw [Bool.eq_iff_iff]
  simp
  constructor
  · rintro ⟨h1,h2⟩
    exact Prod.ext h1 (by omega)
  · rintro rfl
    exact ⟨rfl,rfl⟩
theorem zqg (p q : Int × Nat) : neD (FR p) (FR q) = some (.bl (! decide (p = q))) := by unfold neD; rw [zm6]; rfl
theorem zqf (a : Nat) : neD (QF a) (.tup [.int 0,.int 1]) = some (.bl (decide (a≠0))) := by
  have := zqg (Qd (a : Int)) (0,1)
  rw [← Qd_0] at this
  have e : decide (Qd (a : Int) = Qd 0) = decide (a = 0) := by
    rw [Bool.eq_iff_iff,decide_eq_true_iff,decide_eq_true_iff]
    constructor
    · intro h; have := znd h; omega
    · rintro rfl; rfl
  rw [e] at this
  rw [Qd_0] at this
  refine Eq.trans this ?_
  simp
end Law
end
section
set_option exponentiation.threshold 3000
namespace Law
open PySem PyProof.Rows L2 DL Fq
structure Sq (rows : List (List Nat)) (n : Nat) : Prop where
  n1 : 1≤n
  n7 : n≤7
  rl : rows.length = n
  rp : ∀ row∈rows,row.Perm (List.range n)
section
variable {rows : List (List Nat)} {n : Nat}
theorem Sq.row (R : Sq rows n) {h : Nat} (hh : h < n) : (Wr rows h).Perm (List.range n) := by
  unfold Wr
  rw [List.getElem?_eq_getElem (by rw [R.rl]; exact hh)]
  exact R.rp _ (List.getElem_mem _)
theorem Sq.rw (R : Sq rows n) : Et.Rw (Wr rows) n := ⟨R.n1,R.n7,fun h x hh hx => (R.row hh).mem_iff.mpr (List.mem_range.mpr hx)⟩
theorem Sq.len (R : Sq rows n) : lenD [WD rows] = some (nD n) := by rw [zdv,R.rl]
theorem Sq.things (R : Sq rows n) : zaZ [WD rows] = .ok (nD n) := by
  cases e : rows with
  | nil => have := R.rl; have := R.n1; rw [e] at *; simp at *; omega
  | cons r rest =>
    rw [ziO,(R.rp r (by rw [e]; exact List.mem_cons_self)).length_eq,List.length_range]
theorem Sq.at (R : Sq rows n) {h : Nat} (hh : h < n) : ixA (WD rows) (nD h) = some (TN (Wr rows h)) := zkp (zpx (by rw [R.rl]; exact hh))
theorem Sq.map (R : Sq rows n) : rows = (List.range n).map (Wr rows) := by
  refine List.ext_getElem? fun i => ?_
  rw [List.getElem?_map]
  by_cases hi : i < n
  · rw [List.getElem?_range hi,List.getElem?_eq_getElem (by rw [R.rl]; exact hi)]
    unfold Wr
    rw [Option.map_some,List.getElem?_eq_getElem (by rw [R.rl]; exact hi)]; rfl
  · rw [List.getElem?_eq_none (by rw [R.rl]; omega),List.getElem?_eq_none (by simp; omega)]; rfl
end
theorem zlr {T ts : List Nat} {a : Nat→Nat} (hne : ts≠[]) (hl : ts.length≤7) (h : ∀ x∈ts,x∈T∧ts.count x ∣ a x∧a x≤DD) : zaD [LD T a,LN ts] = .ok (QF (Et.leastN (ts.map fun x => a x / ts.count x))) := by
  refine zaU (B := zaF) (n := 2) ?_
  unfold zaF
  have hc : (zbp 1 [0,1] (fSeq zbq (gv 1)) (ftN 0) (fun _ => Res.ok true) (zaq (zab (f2 (gv 1) (gv 0) ixA) (zab (zaq (zab (ci 1) (zab (fM "list" (gv 2) (zab (gv 0) lNil) zfX) lNil)) [] zaz) lNil)) [] zc1)) [some (LD T a),some (LN ts)] = .ok (.lst ((ts.map fun x => a x / ts.count x).map QF)) := by
    rw [List.map_map]
    refine zbU (l := ts) nD (fun x => QF (a x / ts.count x)) rfl (by omega) fun x hx => ⟨[some (nD x),some (LD T a),some (LN ts)],rfl,?_⟩
    obtain ⟨h1,h2,h3⟩ := h x hx
    have h4 : 0 < ts.count x := List.count_pos_iff.mpr hx
    have h5 : ts.count x≤7 := Nat.le_trans List.count_le_length hl
    exact zal (zad (zae (a := LD T a) (b := nD x) rfl rfl (zkg h1)) (zad (zal (zad (d := .int 1) rfl (zad (zqQ (d := LN ts) rfl rfl (zad (d := nD x) rfl zak) (zkO ts x)) zak)) (rf1 h4 h5)) zak)) (rd h4 h5 h3 h2)
  refine zaG (zaQ (zal (zad hc zak) (zjD (by simpa using hne) fun y hy => ?_)))
  obtain ⟨x,hx,rfl⟩ := List.mem_map.mp hy
  exact Nat.le_trans (Nat.div_le_self _ _) (h x hx).2.2
theorem zki {T ts : List Nat} {a : Nat→Nat} {s : Nat} (hs : s≤DD) (hts : ts.length≤7) (hT : T.length≤60) (ha : ∀ x∈T,a x≤DD) (hm : ∀ x,ts.count x * s≤a x) : ∀ (l done : List Nat) (x4 x5 : Option D),(done++l).Nodup→(∀ x∈done++l,x∈T)→done.length + l.length≤60 →
    ∃ y4 y5,forF (ftN 4) zdQ (l.map nD) [some (LD T a),some (LN ts),some (QF s),some (LD done fun x => a x - ts.count x * s),x4,x5] = .nx [some (LD T a),some (LN ts),some (QF s),some (LD (done++l) fun x => a x - ts.count x * s),y4,y5]
  | [],done,x4,x5,_,_,_ => ⟨x4,x5,by rw [List.append_nil]; exact zbL⟩
  | x::l,done,x4,x5,hn,hin,hl => by
    have hx : x∈T := hin x (by simp)
    have hxd : x∉done := fun z => (List.nodup_append.mp hn).2.2 x z x List.mem_cons_self rfl
    have h5 : ts.count x≤7 := Nat.le_trans List.count_le_length hts
    obtain ⟨y4,y5,ih⟩ := zki hs hts hT ha hm l (done++[x]) (some (nD x)) (some (FR ((ts.count x : Int),1))) (by simpa using hn) (by simpa using hin) (by simp at hl ⊢; omega)
    refine ⟨y4,y5,?_⟩
    rw [List.append_assoc,List.singleton_append] at ih
    rw [List.map_cons,← ih]
    refine zbZ (r1 := [some (LD T a),some (LN ts),some (QF s),some (LD done fun x => a x - ts.count x * s),some (nD x),x5]) rfl ?_
    refine (zai (zaw (zal (zad (zqQ (d := LN ts) rfl rfl (zad (d := nD x) rfl zak) (zkO ts x)) (zad (d := .int 1) rfl zak)) (rf2 _)))).trans ?_
    exact zai (zim (d := LD done fun x => a x - ts.count x * s) (k := nD x) (v := QF (a x - ts.count x * s)) rfl (zal (zad (zae (a := LD T a) (b := nD x) rfl rfl (zkg hx)) (zad (zal (zad (d := FR ((ts.count x : Int),1)) rfl (zad (d := QF s) rfl zak)) (rt h5 hs)) zak)) (rm (ha x hx) (hm x))) rfl (zjr (f := fun x => QF (a x - ts.count x * s)) hxd (by omega)))
theorem zjH {T ts : List Nat} {a : Nat→Nat} {s : Nat} (hn : T.Nodup) (hs : s≤DD) (hts : ts.length≤7) (hT : T.length≤60) (ha : ∀ x∈T,a x≤DD) (hm : ∀ x,ts.count x * s≤a x) : zcB [LD T a,LN ts,QF s] = .ok (LD T fun x => a x - ts.count x * s) := by
  obtain ⟨y4,y5,e⟩ := zki hs hts hT ha hm T [] none none (by simpa using hn) (by simp) (by simpa using hT)
  rw [List.nil_append] at e
  refine zaU (B := zcD) (n := 6) ?_
  unfold zcD
  refine (zai (zaw (d := LD [] fun x => a x - ts.count x * s) rfl)).trans ?_
  refine (zai ((zbK (zhR (d := LD T a) rfl (zhS T _))).trans e)).trans ?_
  exact zaG (zaQ (d := LD T fun x => a x - ts.count x * s) rfl)
theorem zhL {T : List Nat} {a : Nat→Nat} : ∀ (l done : List Nat) (x2 : Option D),(done++l).Nodup→(∀ x∈l,x∈T)→done.length + l.length≤60 →
    ∃ y2,forF (ftN 2) zeO (l.map nD) [some (LD T a),some (LD done a),x2] = .nx [some (LD T a),some (LD (done++l.filter fun x => decide (a x≠0)) a),y2]
  | [],done,x2,_,_,_ => ⟨x2,by rw [List.filter_nil,List.append_nil]; exact zbL⟩
  | x::l,done,x2,hn,hin,hl => by
    have hx : x∈T := hin x (by simp)
    have hxd : x∉done := fun z => (List.nodup_append.mp hn).2.2 x z x List.mem_cons_self rfl
    have t := zqf (a x)
    by_cases h : a x = 0
    · rw [decide_eq_false (fun z => z h)] at t
      obtain ⟨y2,ih⟩ := zhL (T := T) (a := a) l done (some (nD x)) (hn.sublist (List.Sublist.append_left (List.sublist_cons_self x l) done)) (fun z hz => hin z (List.mem_cons_of_mem _ hz)) (by simp at hl; omega)
      refine ⟨y2,?_⟩
      rw [List.map_cons,List.filter_cons,if_neg (by simpa using h),← ih]
      refine zbZ (r1 := [some (LD T a),some (LD done a),some (nD x)]) rfl ?_
      exact zai ((if_f (zay (zae (zae (a := LD T a) (b := nD x) rfl rfl (zkg hx)) rfl t))).trans (e_skip _))
    · rw [decide_eq_true h] at t
      obtain ⟨y2,ih⟩ := zhL (T := T) (a := a) l (done++[x]) (some (nD x)) (by simpa using hn) (fun z hz => hin z (List.mem_cons_of_mem _ hz)) (by simp at hl ⊢; omega)
      refine ⟨y2,?_⟩
      rw [List.append_assoc,List.singleton_append] at ih
      rw [List.map_cons,List.filter_cons,if_pos (by simpa using h),← ih]
      refine zbZ (r1 := [some (LD T a),some (LD done a),some (nD x)]) rfl ?_
      refine zai ((if_t (zay (zae (zae (a := LD T a) (b := nD x) rfl rfl (zkg hx)) rfl t))).trans ?_)
      exact zai (zim (d := LD done a) (k := nD x) (v := QF (a x)) rfl (zae (a := LD T a) (b := nD x) rfl rfl (zkg hx)) rfl (zjr (f := fun x => QF (a x)) hxd (by omega)))
theorem zhD {T : List Nat} {a : Nat→Nat} (hn : T.Nodup) (hT : T.length≤60) : zdx [LD T a] = .ok (LD (T.filter fun x => decide (a x≠0)) a) := by
  obtain ⟨y2,e⟩ := zhL (T := T) (a := a) T [] none (by simpa using hn) (fun _ h => h) (by simpa using hT)
  rw [List.nil_append] at e
  refine zjA (B := zdA) (n := 3) ?_
  unfold zdA
  refine (zai (zaw (d := LD [] a) rfl)).trans ?_
  refine (zai ((zbK (zhR (d := LD T a) rfl (zhS T _))).trans e)).trans ?_
  exact zaG (zaQ (d := LD (T.filter fun x => decide (a x≠0)) a) rfl)
noncomputable abbrev mD (p : List Nat × Nat × List Nat) : D := .tup [LN p.1,QF p.2.1,TN p.2.2]
noncomputable abbrev LM (ms : List (List Nat × Nat × List Nat)) : D := .lst (ms.map mD)
section
variable {rows : List (List Nat)} {n : Nat}
theorem zrj (T : List Nat) (a : Nat→Nat) : truD (LD T a) = some (! T.isEmpty) := by
  show some (!(T.map fun x => (kI x,QF (a x))).isEmpty) = _
  rw [List.isEmpty_map]
theorem zfR (R : Sq rows n) : ∀ (k : Nat) (T : List Nat) (a : Nat→Nat) (ms : List (List Nat × Nat × List Nat)) (x2 x4 x5 x6 : Option D),Et.Ok n T a→(∀ x∈T,a x≤DD)→T.length < k→T.length≤7→ms.length + T.length≤60 →
    ∃ d1 y2 y4 y5 y6,zbr q113 zeL zeP k [some (WD rows),some (LD T a),x2,some (LM ms),x4,x5,x6] = .nx [some (WD rows),d1,y2,some (LM (ms++Et.eat (Wr rows) n k T a)),y4,y5,y6]
  | 0,T,a,ms,x2,x4,x5,x6,_,_,hk,_,_ => absurd hk (by omega)
  | k + 1,T,a,ms,x2,x4,x5,x6,S,ha,hk,h7,hms => by
    by_cases hT : T = []
    · subst hT
      refine ⟨some (LD [] a),x2,x4,x5,x6,?_⟩
      have e : Et.eat (Wr rows) n (k + 1) [] a = [] := rfl
      rw [e,List.append_nil]
      exact zjk (zaJ (d := LD [] a) rfl rfl)
    · have RW := R.rw
      have hn1 := R.n1
      have hn7 := R.n7
      have e : Et.eat (Wr rows) n (k + 1) T a = (Et.tgs (Wr rows) n T,Et.spn (Wr rows) n T a,T.filter fun x => decide (x∉Et.lft (Wr rows) n T a))::Et.eat (Wr rows) n k (Et.lft (Wr rows) n T a) (Et.aft (Wr rows) n T a) := by
        show (if T = [] then [] else _) = _
        rw [if_neg hT]
      have hlt := Et.lft_lt RW S hT
      have hts : (Et.tgs (Wr rows) n T).length = n := Et.tgs_len
      have hin : ∀ x∈Et.tgs (Wr rows) n T,x∈T := fun x hx => Et.tgs_mem RW S hT hx
      have hsp : Et.spn (Wr rows) n T a≤DD := by
        obtain ⟨x,h1,h2⟩ := Et.spn_at (T := T) (a := a) RW
        rw [h2]
        exact Nat.le_trans (Nat.div_le_self _ _) (ha x (hin x h1))
      obtain ⟨d1,y2,y4,y5,y6,ih⟩ := zfR R k (Et.lft (Wr rows) n T a) (Et.aft (Wr rows) n T a) (ms++[(Et.tgs (Wr rows) n T,Et.spn (Wr rows) n T a,T.filter fun x => decide (x∉Et.lft (Wr rows) n T a))]) x2 (some (LN (Et.tgs (Wr rows) n T))) (some (QF (Et.spn (Wr rows) n T a))) (some (LD T (Et.aft (Wr rows) n T a))) (S.next RW hT) (fun x hx => Nat.le_trans (Nat.sub_le _ _) (ha x (List.mem_filter.mp hx).1)) (by omega) (by omega) (by simp; omega)
      refine ⟨d1,y2,y4,y5,y6,?_⟩
      rw [List.append_assoc,List.singleton_append,← e] at ih
      refine Eq.trans ?_ ih
      refine zjj (zaJ (d := LD T a) rfl (by rw [zrj]; cases T with | nil => exact absurd rfl hT | cons _ _ => rfl)) ?_
      have htg : zbp 1 [1] (fSeq zbq (gv 0)) (ftN 0) (fun _ => Res.ok true) (zaq (zab (gv 0) (zab (gv 1) lNil)) [] zbQ) [some (WD rows),some (LD T a),x2,some (LM ms),x4,x5,x6] = .ok (LN (Et.tgs (Wr rows) n T)) := by
        have hc := zbU (nl := 1) (cap := [1]) (fi := fSeq zbq (gv 0)) (ft := ftN 0) (fe := zaq (zab (gv 0) (zab (gv 1) lNil)) [] zbQ) (r := [some (WD rows),some (LD T a),x2,some (LM ms),x4,x5,x6]) (l := List.range n) (fun h => TN (Wr rows h)) (fun h => nD (Rg.best (Wr rows h) T)) (by
          refine zcx (d := WD rows) rfl ?_
          show some (rows.map TN) = _
          conv => lhs; rw [R.map]
          rw [List.map_map]; rfl) (by simp; omega) fun h hh => ⟨[some (TN (Wr rows h)),some (LD T a)],rfl,?_⟩
        · rw [hc]
          show Res.ok (D.lst _) = Res.ok (D.lst ((Et.tgs (Wr rows) n T).map nD))
          unfold Et.tgs
          rw [List.map_map]; rfl
        · have hh' := List.mem_range.mp hh
          have hp := List.length_pos_iff.mpr hT
          refine zal (zad (d := TN (Wr rows h)) rfl (zad (d := LD T a) rfl zak)) (zjG ⟨T[0],RW.has h _ hh' (S.lt _ (List.getElem_mem _)),List.getElem_mem _⟩ ?_)
          rw [(R.row hh').length_eq]; simp; omega
      refine (zai (zaw htg)).trans ?_
      refine (zai (zaw (d := QF (Et.spn (Wr rows) n T a)) (zal (zad (d := LD T a) rfl (zad (d := LN (Et.tgs (Wr rows) n T)) rfl zak)) (zlr (by
        intro z
        have := congrArg List.length z
        rw [hts] at this; simp at this; omega) (by omega) fun x hx => ⟨hin x hx,(Et.cnt_dvd RW S hT hx).1,ha x (hin x hx)⟩)))).trans ?_
      refine (zai (zaw (d := LD T (Et.aft (Wr rows) n T a)) (zal (zad (d := LD T a) rfl (zad (d := LN (Et.tgs (Wr rows) n T)) rfl (zad (d := QF (Et.spn (Wr rows) n T a)) rfl zak))) (zjH S.nd hsp (by omega) (by omega) ha (fun x => Et.spn_mul x))))).trans ?_
      refine (zai (zaw (d := LD (Et.lft (Wr rows) n T a) (Et.aft (Wr rows) n T a)) ?_)).trans ?_
      · show ownF _ _ = _
        unfold ownF
        rw [zal (zad (d := LD T (Et.aft (Wr rows) n T a)) rfl zak) (zhD S.nd (by omega))]; rfl
      have em : LM (ms++[(Et.tgs (Wr rows) n T,Et.spn (Wr rows) n T a,T.filter fun x => decide (x∉Et.lft (Wr rows) n T a))]) = .lst (ms.map mD++[mD (Et.tgs (Wr rows) n T,Et.spn (Wr rows) n T a,T.filter fun x => decide (x∉Et.lft (Wr rows) n T a))]) := by
        show D.lst (List.map mD _) = _
        rw [List.map_append]; rfl
      rw [em]
      refine zai (ziq (d := LM ms) (ds := [mD (Et.tgs (Wr rows) n T,Et.spn (Wr rows) n T a,T.filter fun x => decide (x∉Et.lft (Wr rows) n T a))]) rfl rfl (zad (zgX (zad (d := LN (Et.tgs (Wr rows) n T)) rfl (zad (d := QF (Et.spn (Wr rows) n T a)) rfl (zad (zbi (zad (zgp (l := T) nD (fun x => decide (x∉Et.lft (Wr rows) n T a)) nD (zhR (d := LD T (Et.aft (Wr rows) n T a)) rfl (zhS T _)) (by omega) fun x hx => ⟨[some (nD x),some (LD (Et.lft (Wr rows) n T a) (Et.aft (Wr rows) n T a))],rfl,?_,fun _ => rfl⟩) zak) rfl) zak))) (by simp)) zak) (zk0 (by rw [List.length_map]; omega)))
      have := zqd (Et.lft (Wr rows) n T a) (Et.aft (Wr rows) n T a) x
      have e2 : (! decide (x∈Et.lft (Wr rows) n T a)) = decide (x∉Et.lft (Wr rows) n T a) := by simp
      rw [e2] at this
      exact zay (zae (a := nD x) (b := LD (Et.lft (Wr rows) n T a) (Et.aft (Wr rows) n T a)) rfl rfl this)
noncomputable def mls (rows : List (List Nat)) (n : Nat) : List (List Nat × Nat × List Nat) := Et.eat (Wr rows) n 64 (List.range n) fun _ => DD
theorem zg3 (d0 : D) : ∀ (j i : Nat) (x2 : Option D),i + j≤60→∃ y2,forF (ftN 2) zeQ ((List.range' i j).map nD) [some d0,some (LD (List.range i) fun _ => DD),x2,none,none,none,none] = .nx [some d0,some (LD (List.range (i + j)) fun _ => DD),y2,none,none,none,none]
  | 0,i,x2,_ => ⟨x2,zbL⟩
  | j + 1,i,x2,h => by
    obtain ⟨y2,ih⟩ := zg3 d0 j (i + 1) (some (nD i)) (by omega)
    refine ⟨y2,?_⟩
    rw [show i + (j + 1) = i + 1 + j by omega,← ih,List.range'_succ,List.map_cons]
    refine zbZ (r1 := [some d0,some (LD (List.range i) fun _ => DD),some (nD i),none,none,none,none]) rfl ?_
    rw [List.range_succ]
    have e1 : (.tup [.int 1,.int 1] : D) = QF DD := by show _ = FR (Qd (DD : Int)); rw [Qd_1]; rfl
    exact zai (zim (d := LD (List.range i) fun _ => DD) (k := nD i) (v := QF DD) rfl (by rw [← e1]) rfl (zjr (f := fun _ => QF DD) (by simp) (by simp; omega)))
theorem zjC (R : Sq rows n) : zdy [WD rows] = .ok (LM (mls rows n)) := by
  have hn7 := R.n7
  obtain ⟨y2,h1⟩ := zg3 (WD rows) n 0 none (by omega)
  rw [Nat.zero_add,← List.range_eq_range'] at h1
  obtain ⟨d1,z2,z4,z5,z6,h2⟩ := zfR R 64 (List.range n) (fun _ => DD) [] y2 none none none (Et.Ok.init R.rw) (fun _ _ => Nat.le_refl _) (by simp; omega) (by simpa using hn7) (by simp; omega)
  rw [List.nil_append] at h2
  refine zaU (B := zdB) (n := 7) ?_
  unfold zdB
  refine (zai (zaw (d := LD (List.range 0) fun _ => DD) rfl)).trans ?_
  refine (zai ((zbK (zcU (zad (zal (zad (d := WD rows) rfl zak) R.things) zak) (zeb (by omega)))).trans h1)).trans ?_
  refine (zai (zaw (d := LM []) (zis zak (by simp)))).trans ?_
  refine (zai h2).trans ?_
  exact zaG (zaQ (d := LM (mls rows n)) rfl)
end
end Law
end
section
set_option exponentiation.threshold 3000
namespace Law
open PySem PyProof.Rows L2 DL Fq
noncomputable abbrev SL (n : Nat) (s : Nat→Nat) : D := .lst ((List.range n).map fun x => QF (s x))
theorem zov {n x : Nat} {s : Nat→Nat} (h : x < n) : ixA (SL n s) (nD x) = some (QF (s x)) := by
  refine zkq ?_
  rw [List.getElem?_map,List.getElem?_range h]; rfl
theorem zo9 {n x v : Nat} {s : Nat→Nat} (h : x < n) : stoD (SL n s) (nD x) (QF v) = some (SL n fun y => if y = x then v else s y) := by
  rw [zpi (by simpa using h)]
  show some (D.lst _) = some (D.lst _)
  congr 2
  refine List.ext_getElem? fun i => ?_
  by_cases hi : i < n
  · by_cases e : x = i
    · subst e
      rw [List.getElem?_set_self (by simpa using h),List.getElem?_map,List.getElem?_range h]
      simp
    · rw [List.getElem?_set_ne e,List.getElem?_map,List.getElem?_map,List.getElem?_range hi]
      simp [Ne.symm e]
  · rw [List.getElem?_eq_none (by simp; omega),List.getElem?_eq_none (by simp; omega)]
theorem zju {d0 d2 : D} {n h : Nat} (hh : h < n) : ∀ (ms : List (List Nat × Nat × List Nat)) (s : Nat→Nat) (x4 x5 x6 x7 : Option D),(∀ p∈ms,p.1.length = n∧∀ t∈p.1,t < n)→(∀ x,s x + Et.tot ms≤DD) →
    ∃ y4 y5 y6 y7,forF (ftT (zbt (ftN 4) (zbt (ftN 5) (zbt (ftN 6) zg4)))) zel (ms.map mD) [some d0,some (nD h),some d2,some (SL n s),x4,x5,x6,x7] = .nx [some d0,some (nD h),some d2,some (SL n fun x => s x + Et.shr ms h x),y4,y5,y6,y7]
  | [],s,x4,x5,x6,x7,_,_ => ⟨x4,x5,x6,x7,zbL⟩
  | p::ms,s,x4,x5,x6,x7,hp,hs => by
    obtain ⟨h1,h2⟩ := hp p List.mem_cons_self
    have hhl : h < p.1.length := by omega
    have ht : p.1.getD h 0 < n := by
      rw [List.getD_eq_getElem?_getD,List.getElem?_eq_getElem hhl]
      exact h2 _ (List.getElem_mem _)
    have hb := hs (p.1.getD h 0)
    rw [Et.tot_cons] at hb
    obtain ⟨y4,y5,y6,y7,ih⟩ := zju (d0 := d0) (d2 := d2) hh ms (fun y => if y = p.1.getD h 0 then s (p.1.getD h 0) + p.2.1 else s y) (some (LN p.1)) (some (QF p.2.1)) (some (TN p.2.2)) (some (nD (p.1.getD h 0))) (fun q hq => hp q (List.mem_cons_of_mem _ hq)) (fun x => by
      have := hs x
      rw [Et.tot_cons] at this
      show (if x = p.1.getD h 0 then _ else _) + _≤_
      by_cases e : x = p.1.getD h 0
      · rw [if_pos e]; omega
      · rw [if_neg e]; omega)
    refine ⟨y4,y5,y6,y7,?_⟩
    have ef : (fun x => s x + Et.shr (p::ms) h x) = fun x => (if x = p.1.getD h 0 then s (p.1.getD h 0) + p.2.1 else s x) + Et.shr ms h x := by
      funext x
      rw [Et.shr_cons]
      by_cases e : x = p.1.getD h 0
      · rw [if_pos e,if_pos e.symm,e]; omega
      · rw [if_neg e,if_neg (Ne.symm e)]; omega
    rw [ef,List.map_cons,← ih]
    refine zbZ (r1 := [some d0,some (nD h),some d2,some (SL n s),some (LN p.1),some (QF p.2.1),some (TN p.2.2),x7]) rfl ?_
    refine (zai (zaw (d := nD (p.1.getD h 0)) (zae (a := LN p.1) (b := nD h) rfl rfl (zkq ?_)))).trans ?_
    · rw [List.getElem?_map,List.getElem?_eq_getElem hhl,List.getD_eq_getElem?_getD,List.getElem?_eq_getElem hhl]; rfl
    exact zai (zim (d := SL n s) (k := nD (p.1.getD h 0)) (v := QF (s (p.1.getD h 0) + p.2.1)) rfl (zal (zad (zae (a := SL n s) (b := nD (p.1.getD h 0)) rfl rfl (zov ht)) (zad (d := QF p.2.1) rfl zak)) (rp (by omega) (by omega))) rfl (zo9 ht))
section
variable {rows : List (List Nat)} {n : Nat}
theorem zm7 (R : Sq rows n) : ∀ (k : Nat) (T : List Nat) (a : Nat→Nat),Et.Ok n T a→∀ p∈Et.eat (Wr rows) n k T a,p.1.length = n∧∀ t∈p.1,t < n
  | 0,T,a,S,p,hp => by cases hp
  | k + 1,T,a,S,p,hp => by
    by_cases hT : T = []
    · subst hT; cases hp
    · have e : Et.eat (Wr rows) n (k + 1) T a = (Et.tgs (Wr rows) n T,Et.spn (Wr rows) n T a,T.filter fun x => decide (x∉Et.lft (Wr rows) n T a))::Et.eat (Wr rows) n k (Et.lft (Wr rows) n T a) (Et.aft (Wr rows) n T a) := by
        show (if T = [] then [] else _) = _
        rw [if_neg hT]
      rw [e] at hp
      rcases List.mem_cons.mp hp with rfl | hp
      · exact ⟨Et.tgs_len,fun t ht => S.lt t (Et.tgs_mem R.rw S hT ht)⟩
      · exact zm7 R k _ _ (S.next R.rw hT) p hp
theorem zkG (R : Sq rows n) : ∀ (k : Nat) (T : List Nat) (a : Nat→Nat),Et.Ok n T a→(Et.eat (Wr rows) n k T a).length≤T.length
  | 0,T,a,S => by show 0≤_; omega
  | k + 1,T,a,S => by
    by_cases hT : T = []
    · subst hT; exact Nat.le_refl _
    · have e : Et.eat (Wr rows) n (k + 1) T a = (Et.tgs (Wr rows) n T,Et.spn (Wr rows) n T a,T.filter fun x => decide (x∉Et.lft (Wr rows) n T a))::Et.eat (Wr rows) n k (Et.lft (Wr rows) n T a) (Et.aft (Wr rows) n T a) := by
        show (if T = [] then [] else _) = _
        rw [if_neg hT]
      have := zkG R k _ _ (S.next R.rw hT)
      have hlt := Et.lft_lt R.rw S hT
      rw [e,List.length_cons]; omega
theorem zqj (R : Sq rows n) : ∀ p∈mls rows n,p.1.length = n∧∀ t∈p.1,t < n := zm7 R 64 _ _ (Et.Ok.init R.rw)
theorem zdU (R : Sq rows n) : Et.tot (mls rows n) = DD := Et.eat_tot R.rw (by have := R.n7; omega)
theorem zj7 (R : Sq rows n) : (mls rows n).length≤7 := by
  have := zkG R 64 _ _ (Et.Ok.init R.rw)
  have := R.n7
  unfold mls
  simp at *; omega
noncomputable def tbN (rows : List (List Nat)) (n h x : Nat) : Nat := Et.shr (mls rows n) h x
noncomputable def tbR (rows : List (List Nat)) (n h : Nat) : List (Int × Nat) := (List.range n).map fun x => Qd ((tbN rows n h x : Nat) : Int)
theorem zrz (n : Nat) : (List.replicate n [FR (0,1)]).flatten = (List.range n).map fun _ => QF 0 := by
  have e : QF 0 = FR (0,1) := by show FR (Qd ((0 : Nat) : Int)) = _; rw [show ((0 : Nat) : Int) = 0 from rfl,Qd_0]
  rw [e]
  induction n with
  | zero => rfl
  | succ n ih => rw [List.replicate_succ',List.flatten_append,ih,List.range_succ,List.map_append]; rfl
theorem znK (ds : List D) (k : Int) : repD (.lst ds) (.int k) = if -(2 ^ 62)≤k∧k < 2 ^ 62∧ds.length * k.toNat≤sizeLine then some (.lst ((List.replicate k.toNat ds).flatten)) else none := rfl
theorem ziQ (R : Sq rows n) {h : Nat} (hh : h < n) : zc2 [WD rows,nD h,LM (mls rows n)] = .ok (TF (tbR rows n h)) := by
  have hn7 := R.n7
  obtain ⟨y4,y5,y6,y7,e⟩ := zju (d0 := WD rows) (d2 := LM (mls rows n)) hh (mls rows n) (fun _ => 0) none none none none (zqj R) (fun _ => by rw [zdU R]; omega)
  refine zaU (B := zc5) (n := 8) ?_
  unfold zc5
  refine (zai (zaw (d := SL n fun _ => 0) (zae (a := .lst [FR (0,1)]) (b := nD n) (zis (zad (d := FR (0,1)) rfl zak) (by simp)) (zal (zad (d := WD rows) rfl zak) R.things) ?_))).trans ?_
  · rw [znK,if_pos ⟨by omega,by omega,by rw [sizeLine_eq,Int.toNat_natCast,List.length_singleton]; omega⟩,Int.toNat_natCast,zrz]
  refine (zai ((zbK (zcx (d := LM (mls rows n)) rfl rfl)).trans e)).trans ?_
  refine zaG (zaQ (zbi (zad (d := SL n fun x => 0 + Et.shr (mls rows n) h x) rfl zak) ?_))
  rw [e_tupL]
  show some (D.tup _) = some (D.tup ((tbR rows n h).map FR))
  unfold tbR tbN
  rw [List.map_map]
  congr 2
  refine List.map_congr_left fun x _ => ?_
  show QF (0 + Et.shr (mls rows n) h x) = _
  rw [Nat.zero_add]; rfl
noncomputable abbrev eD (e : Nat × List Nat) : D := .tup [QF e.1,TN e.2]
theorem zkb {d0 : D} : ∀ (ms : List (List Nat × Nat × List Nat)) (lg : List D) (s : Nat) (x3 x4 x5 : Option D),s + Et.tot ms≤DD→lg.length + ms.length≤100 →
    ∃ s' y3 y4 y5,forF (ftT (zbt (ftN 3) (zbt (ftN 4) (zbt (ftN 5) zg4)))) zf3 (ms.map mD) [some d0,some (.lst lg),some (QF s),x3,x4,x5] = .nx [some d0,some (.lst (lg++(Et.logE s ms).map eD)),some (QF s'),y3,y4,y5]
  | [],lg,s,x3,x4,x5,_,_ => ⟨s,x3,x4,x5,by rw [show (Et.logE s []).map eD = [] from rfl,List.append_nil]; exact zbL⟩
  | p::ms,lg,s,x3,x4,x5,hs,hl => by
    rw [Et.tot_cons] at hs
    rw [List.length_cons] at hl
    obtain ⟨s',y3,y4,y5,ih⟩ := zkb (d0 := d0) ms (lg++[.tup [QF (s + p.2.1),TN p.2.2]]) (s + p.2.1) (some (LN p.1)) (some (QF p.2.1)) (some (TN p.2.2)) (by omega) (by simp; omega)
    refine ⟨s',y3,y4,y5,?_⟩
    have e : lg++(Et.logE s (p::ms)).map eD = lg++[.tup [QF (s + p.2.1),TN p.2.2]]++(Et.logE (s + p.2.1) ms).map eD := by rw [List.append_assoc]; rfl
    rw [List.map_cons,e,← ih]
    refine zbZ (r1 := [some d0,some (.lst lg),some (QF s),some (LN p.1),some (QF p.2.1),some (TN p.2.2)]) rfl ?_
    refine (zai (zaw (d := QF (s + p.2.1)) (zal (zad (d := QF s) rfl (zad (d := QF p.2.1) rfl zak)) (rp (by omega) (by omega))))).trans ?_
    exact zai (ziq (d := .lst lg) (ds := [.tup [QF (s + p.2.1),TN p.2.2]]) rfl rfl (zad (zgX (zad (d := QF (s + p.2.1)) rfl (zad (d := TN p.2.2) rfl zak)) (by simp)) zak) (zk0 (by omega)))
noncomputable abbrev lgD (rows : List (List Nat)) (n : Nat) : D := .lst ((Et.logE 0 (mls rows n)).map eD)
theorem znF (R : Sq rows n) : ze4 [LM (mls rows n)] = .ok (lgD rows n) := by
  obtain ⟨s',y3,y4,y5,e⟩ := zkb (d0 := LM (mls rows n)) (mls rows n) [] 0 none none none (by rw [zdU R]; omega) (by have := zj7 R; simp; omega)
  have e0 : QF 0 = .tup [.int 0,.int 1] := by show FR (Qd ((0 : Nat) : Int)) = _; rw [show ((0 : Nat) : Int) = 0 from rfl,Qd_0]; rfl
  refine zjA (B := ze5) (n := 6) ?_
  unfold ze5
  refine (zai (zaw (d := .lst []) (zis zak (by simp)))).trans ?_
  refine (zai (zaw (d := QF 0) (by rw [e0]))).trans ?_
  refine (zai ((zbK (zcx (d := LM (mls rows n)) rfl rfl)).trans e)).trans ?_
  exact zaG (zaQ (d := lgD rows n) rfl)
noncomputable abbrev TTF (l : List (List (Int × Nat))) : D := .tup (l.map TF)
noncomputable def tbl (rows : List (List Nat)) (n : Nat) : List (List (Int × Nat)) := (List.range n).map (tbR rows n)
theorem ziP (R : Sq rows n) : zc3 [WD rows] = .ok (.bl true) := by
  refine zaU (B := zc6) (n := 1) ?_
  unfold zc6
  exact zaG (zaQ (zae (a := nD n) (b := nD n) (zal (zad (d := WD rows) rfl zak) R.things) (zbi (zad (d := WD rows) rfl zak) R.len) (zgn n)))
theorem ziR (R : Sq rows n) : zaO [WD rows] = .ok .non := by
  show outR false (zax (zap 1 [WD rows])) = _
  have : zax (zap 1 [WD rows]) = .nx [some (WD rows)] := by
    unfold zax
    exact zai ((if_f (zbD (b := true) (zaJ (zal (zad (d := WD rows) rfl zak) (ziP R)) rfl))).trans (e_skip _))
  rw [this]; rfl
theorem zoG {m : List Md} {f : FE} {r : Rho} {d : D} (h : f r = .ok d) : zmc m f r = .nx r := by unfold zmc; rw [h]; rfl
theorem zh2 {s1 : FS} {fs : FW} {r r' : Rho} (h : s1 r = .nx r') : andW s1 fs r = fs r' := by unfold andW; rw [h]
theorem znJ {f1 f2 : FE} {r : Rho} {d1 : D} {ds : List D} (h1 : f1 r = .ok d1) (h2 : f2 r = .ok (.lst ds)) : retW f1 f2 r = .ok (.tup [d1,.lst ds]) := by unfold retW; rw [h1,bind_ok,h2,bind_ok]
theorem zn1 {f : FE} {r : Rho} {ds : List D} (h : f r = .ok (.lst ds)) : ownF f r = .ok (.lst ds) := by unfold ownF; rw [h]; rfl
theorem zjF (R : Sq rows n) : zgz [WD rows] = .ok (.tup [TTF (tbl rows n),lgD rows n]) := by
  have hn7 := R.n7
  have hd := znF R
  show zgD (zap 3 [WD rows]) = _
  unfold zgD
  refine (zh2 (zoG (zal (zad (d := WD rows) rfl zak) (ziR R)))).trans ?_
  refine (zh2 (zaw (zal (zad (d := WD rows) rfl zak) (zjC R)))).trans ?_
  refine (zh2 (zaw (d := TTF (tbl rows n)) (zbi (zad (zbU (l := List.range n) nD (fun h => TF (tbR rows n h)) (zcU (zad (zbi (zad (d := WD rows) rfl zak) R.len) zak) (zeb (by omega))) (by simp; omega) fun h hh => ⟨[some (nD h),some (WD rows),some (LM (mls rows n))],rfl,zal (zad (d := WD rows) rfl (zad (d := nD h) rfl (zad (d := LM (mls rows n)) rfl zak))) (ziQ R (List.mem_range.mp hh))⟩) zak) ?_))).trans ?_
  · rw [e_tupL]
    show some (D.tup _) = some (D.tup ((tbl rows n).map TF))
    unfold tbl
    rw [List.map_map]; rfl
  exact znJ (d1 := TTF (tbl rows n)) rfl (zn1 (zal (zad (d := LM (mls rows n)) rfl zak) hd))
theorem zo1 (R : Sq rows n) {h : Nat} (hh : h < n) : ((List.range n).map fun x => tbN rows n h x).sum = DD := by
  have := (Et.eat_sum R.rw 64 (List.range n) (fun _ => DD) (Et.Ok.init R.rw) (by have := R.n7; simp; omega)).2.2 h hh
  rw [← zdU R]; exact this
theorem zmu {f : Nat→Nat} : ∀ {l : List Nat} {x : Nat},x∈l→f x≤(l.map f).sum
  | [],_,h => by cases h
  | y::l,x,h => by
    rw [List.map_cons,List.sum_cons]
    rcases List.mem_cons.mp h with rfl | h
    · omega
    · have := zmu (f := f) h; omega
theorem zo2 (R : Sq rows n) {h x : Nat} (hh : h < n) (hx : x < n) : tbN rows n h x≤DD := by
  have := zmu (f := fun x => tbN rows n h x) (List.mem_range.mpr hx)
  rw [zo1 R hh] at this; exact this
end
end Law
end
section
set_option exponentiation.threshold 3000
namespace Law
open PySem PyProof.Rows L2 DL Fq
theorem rlp {a b : Nat} (ha : a≤DD) (hb : b≤DD) : zaN [QF a,QF b] = .ok (QF (a + b)) := by
  have := zgM (zdG ha) (zdG hb) (by omega)
  rw [zh4] at this
  rw [this]; rfl
theorem rlm {s p : Nat} (h : s + p≤DD) : zaN [QF (s + p),.tup [.int (-(Qd (s : Int)).1),nD (Qd (s : Int)).2]] = .ok (QF p) := by
  have hb := zdG (a := s) (by omega)
  have e : ((-(Qd (s : Int)).1 : Int),(Qd (s : Int)).2) = Qd (-(s : Int)) := zop _ DD_pos
  have hb2 : Bd 61 (Qd (-(s : Int))) := by rw [← e]; exact ⟨hb.pos,hb.bot,by rw [Int.natAbs_neg]; exact hb.top⟩
  have := zgM (zdG (a := s + p) h) hb2 (by omega)
  rw [zh4,← e,show ((s + p : Nat) : Int) + -(s : Int) = (p : Int) by omega] at this
  exact this
theorem rll {a b : Nat} (ha : a≤DD) (hb : b≤DD) : za0 [QF a,QF b] = .ok (.bl (decide (a < b))) := by
  have := zgO (zdG ha) (zdG hb) (by omega) (by omega)
  rw [zk4] at this
  rw [this]
  congr 2
  exact decide_eq_decide.mpr Int.ofNat_lt
theorem zn7 : D.tup [.int 1,.int 1] = QF DD := by
  show _ = FR (Qd (DD : Int))
  rw [Qd_1]; rfl
theorem zlN : D.tup [.int 0,.int 1] = QF 0 := by
  show _ = FR (Qd ((0 : Nat) : Int))
  rw [show ((0 : Nat) : Int) = 0 from rfl,Qd_0]; rfl
theorem zm5 (a b : Nat) : eqD (QF a) (QF b) = some (.bl (decide (a = b))) := by
  unfold eqD
  rw [zm6]
  show some (D.bl _) = _
  congr 2
  refine decide_eq_decide.mpr ⟨fun h => ?_,fun h => by rw [h]⟩
  have := znd h
  omega
theorem zqD (l : List Nat) (k : Nat) : inD (nD k) (TN l) = some (.bl (decide (k∈l))) := by
  show (if zbY (nD k) = true∧(l.map nD).all zbY = true then some ((l.map nD).any fun y => eqs y (nD k)) else none).map D.bl = _
  rw [if_pos ⟨rfl,zoD l⟩,anyE]; rfl
section
variable {rows : List (List Nat)} {n : Nat}
theorem zjo (h : Nat) : (tbR rows n h).length = n := by unfold tbR; simp
theorem zgs : ∀ l : List Nat,zdf (l.map nD) = some (l.map fun x : Nat => (x : Int))
  | [] => rfl
  | x::l => by
    show (zdf (l.map nD)).map _ = _
    rw [zgs l]; rfl
theorem znr {l : List Nat} (h : l.Pairwise (· < ·)) (hl : l.length < 64) : zih [TN l] = some (LN l) := by
  show ((zdf (l.map nD)).bind fun ks => if ks.length < 64 then some (D.lst ((srtI ks).map .int)) else none) = _
  rw [zgs,Option.bind_some,if_pos (by simpa using hl)]
  have e : srtI (l.map fun x : Nat => (x : Int)) = l.map fun x : Nat => (x : Int) := zni (zff _) (zhv _) (by
    rw [List.pairwise_map]
    exact h.imp fun z => by omega)
  rw [e,List.map_map]; rfl
theorem zou (e : Nat × List Nat) : ixA (eD e) (.int 0) = some (QF e.1) := ixA_T0 _ _
theorem ziZ (e : Nat × List Nat) : ixA (eD e) (.int 1) = some (TN e.2) := zkp (i := 1) rfl
theorem ziS (i : Int) : zcC [.int i] = .ok (.bl true) := rfl
theorem zkc {d0 d1 : D} (hn : n≤7) : ∀ (ms : List (List Nat × Nat × List Nat)) (s : Nat) (x : Option D),(∀ p∈ms,Et.Ml n p)→s + Et.tot ms≤DD →
    ∃ y,forF (ftN 3) zbP ((Et.logE s ms).map eD) [some d0,some d1,some (QF s),x] = .nx [some d0,some d1,some (QF (s + Et.tot ms)),y]
  | [],s,x,_,_ => ⟨x,by rw [show (Et.logE s []).map eD = [] from rfl,show s + Et.tot [] = s from rfl]; exact zbL⟩
  | p::ms,s,x,hm,hs => by
    rw [Et.tot_cons] at hs
    obtain ⟨y,ih⟩ := zkc (d0 := d0) (d1 := d1) hn ms (s + p.2.1) (some (eD (s + p.2.1,p.2.2))) (fun q hq => hm q (List.mem_cons_of_mem _ hq)) (by omega)
    refine ⟨y,?_⟩
    have M := hm p List.mem_cons_self
    have hgl : p.2.2.length≤7 := by
      have := Rg.zgi (m := List.range n) (M.up.imp fun z => Nat.ne_of_lt z) fun x hx => List.mem_range.mpr (M.lt x hx)
      rw [List.length_range] at this; omega
    rw [Et.tot_cons,← Nat.add_assoc]
    show forF (ftN 3) zbP (eD (s + p.2.1,p.2.2)::(Et.logE (s + p.2.1) ms).map eD) _ = _
    rw [← ih]
    refine zbZ (r1 := [some d0,some d1,some (QF s),some (eD (s + p.2.1,p.2.2))]) rfl ?_
    refine (zai ((if_f ?_).trans (e_skip _))).trans ?_
    · rw [or_f (zbD (b := true) (zaJ (zfI (a := eD (s + p.2.1,p.2.2)) (d := .bl true) rfl rfl) rfl))]
      rw [or_f (zay (zae (a := nD 2) (b := nD 2) (zbi (zad (d := eD (s + p.2.1,p.2.2)) rfl zak) rfl) rfl (ziV 2 2)))]
      exact zbD (b := true) (zaJ (zal (zad (zae (a := eD (s + p.2.1,p.2.2)) rfl rfl (zou _)) zak) (zik (zdG (by show s + p.2.1≤DD; omega)) (zne _) (by omega))) rfl)
    refine (zai ((if_f ?_).trans (e_skip _))).trans ?_
    · have hl := rll (a := s) (b := s + p.2.1) (by omega) (by omega)
      rw [decide_eq_true (by have := M.sp; omega)] at hl
      rw [or_f (zbD (b := true) (zaJ (zal (zad (d := QF s) rfl (zad (zae (a := eD (s + p.2.1,p.2.2)) rfl rfl (zou _)) zak)) hl) rfl))]
      rw [or_f (zbD (b := true) (zaJ (zfI (a := TN p.2.2) (d := .bl true) (zae (a := eD (s + p.2.1,p.2.2)) rfl rfl (ziZ _)) rfl) rfl))]
      have h0 := zi4 p.2.2.length 0
      rw [decide_eq_false (by have := List.length_pos_iff.mpr M.ne; omega)] at h0
      exact zay (zae (zbi (zad (zae (a := eD (s + p.2.1,p.2.2)) rfl rfl (ziZ _)) zak) (zdv nD p.2.2)) (b := nD 0) rfl h0)
    refine (zai ((if_f ?_).trans (e_skip _))).trans ?_
    · have ha : allD [.lst (p.2.2.map fun _ => D.bl true)] = some (.bl true) := by
        have := zq5 (fun _ : Nat => true) p.2.2
        rw [List.all_eq_true.mpr (fun _ _ => rfl)] at this
        exact this
      rw [or_f (zbD (b := true) (zaJ (d := .bl true) (zbi (zad (zbU (l := p.2.2) nD (fun _ => .bl true) (zcx (zae (a := eD (s + p.2.1,p.2.2)) rfl rfl (ziZ _)) rfl) (by omega) fun q hq => ⟨[some (nD q)],rfl,zal (zad (d := nD q) rfl zak) (ziS _)⟩) zak) ha) rfl))]
      exact zay (zae (zbi (zad (zae (a := eD (s + p.2.1,p.2.2)) rfl rfl (ziZ _)) zak) (d := LN p.2.2) rfl) (zbi (zad (zae (a := eD (s + p.2.1,p.2.2)) rfl rfl (ziZ _)) zak) (znr M.up (by show p.2.2.length < 64; omega))) (zrM _))
    exact zai (zaw (zae (a := eD (s + p.2.1,p.2.2)) rfl rfl (zou _)))
theorem zqk (R : Sq rows n) : ∀ p∈mls rows n,Et.Ml n p := Et.eat_ml R.rw 64 _ _ (Et.Ok.init R.rw) List.pairwise_lt_range
theorem zgN (R : Sq rows n) : zby [lgD rows n,nD n] = .ok (.bl true) := by
  obtain ⟨y,e⟩ := zkc (d0 := lgD rows n) (d1 := nD n) R.n7 (mls rows n) 0 none (zqk R) (by rw [zdU R]; omega)
  rw [zdU R,Nat.zero_add] at e
  have hlen : (Et.logE 0 (mls rows n)).length≠0 := by
    intro z
    have hne : mls rows n≠[] := fun h => by
      have := zdU R
      rw [h] at this
      exact absurd this (by show 0≠DD; have := DD_pos; omega)
    cases h : mls rows n with
    | nil => exact hne h
    | cons p ms => rw [h] at z; cases z
  refine zaU (B := zbA) (n := 4) ?_
  unfold zbA
  refine (zai ((if_f ?_).trans (e_skip _))).trans ?_
  · rw [or_f (zbD (b := true) (zaJ (zfI (a := lgD rows n) (d := .bl true) rfl rfl) rfl))]
    have h0 := zi4 (Et.logE 0 (mls rows n)).length 0
    rw [decide_eq_false hlen] at h0
    exact zay (zae (zbi (zad (d := lgD rows n) rfl zak) (zgj eD _)) (b := nD 0) rfl h0)
  refine (zai (zaw (d := QF 0) (by rw [← zlN]; rfl))).trans ?_
  refine (zai ((zbK (zcx (d := lgD rows n) rfl rfl)).trans e)).trans ?_
  refine zaG (zaQ (zae (a := QF DD) (b := QF DD) rfl (by rw [← zn7]; rfl) ?_))
  rw [zm5,decide_eq_true rfl]
theorem zrt (l : List Nat) : sumD [LN l] = some (nD l.sum) := by
  show (zdf (l.map nD)).map _ = _
  rw [zgs]
  show some (D.int _) = some (D.int _)
  congr 2
  induction l with
  | nil => rfl
  | cons x l ih => rw [List.map_cons,List.sum_cons,List.sum_cons,ih]; omega
theorem ziu : ∀ (ms : List (List Nat × Nat × List Nat)) (s : Nat),((Et.logE s ms).map fun e => e.2.length) = ms.map fun p => p.2.2.length
  | [],_ => rfl
  | p::ms,s => by
    show p.2.2.length::((Et.logE (s + p.2.1) ms).map fun e => e.2.length) = _
    rw [ziu ms]; rfl
theorem zka : ∀ (ms : List (List Nat × Nat × List Nat)) (s : Nat),(Et.logE s ms).length = ms.length
  | [],_ => rfl
  | p::ms,s => by
    show ((Et.logE (s + p.2.1) ms).length + 1) = _
    rw [zka ms]; rfl
theorem zlW (R : Sq rows n) : ((Et.logE 0 (mls rows n)).map fun e => e.2.length).sum = n := by
  rw [ziu]
  have := Et.eat_lens R.rw 64 (List.range n) (fun _ => DD) (Et.Ok.init R.rw) (by have := R.n7; simp; omega)
  rw [List.length_range] at this
  exact this
end
end Law
end
section
set_option exponentiation.threshold 3000
namespace Law
open PySem PyProof.Rows L2 DL Fq
theorem zeJ {s1 : FS} {r r' : Rho} {w : List (List D)} (h : s1 r = .nx r') : embF s1 r w = some (r',w) := by unfold embF; rw [h]
theorem zbG {f1 f2 : FS2} {r r' : Rho} {w w' : List (List D)} (h : f1 r w = some (r',w')) : zb1 f1 f2 r w = f2 r' w' := by unfold zb1; rw [h]; rfl
theorem zk1 {f1 : FS2} {F : Rho→List (List D)→Out} {r r' : Rho} {w w' : List (List D)} (h : f1 r w = some (r',w')) : zja f1 F r w = F r' w' := by unfold zja; rw [h]
theorem zef {ft : FT} {b : FS2} {r r1 r' : Rho} {w w' : List (List D)} {d : D} {ds : List D} (h1 : ft d r = some r1) (h2 : b r1 w = some (r',w')) : zer ft b (d::ds) r w = zer ft b ds r' w' := by
  show ((ft d r).bind fun r1 => (b r1 w).bind fun p => zer ft b ds p.1 p.2) = _
  rw [h1,Option.bind_some,h2]; rfl
theorem zgh {fi : FI} {ft : FT} {b : FS2} {r : Rho} {w : List (List D)} {ds : List D} (h : fi r = .ok ds) : zee fi ft b r w = zer ft b ds r w := by unfold zee; rw [h]
theorem zjv {i j : Nat} {f : FE} {r : Rho} {w : List (List D)} {d : D} (h : f (lent i r w) = .ok d) (hc : Cln d) : zhy i j f r w = some (r.set j (some d),w) := by
  unfold zhy; rw [h]; exact if_pos hc
theorem znO {i a b : Nat} {f : FE} {r : Rho} {w w' : List (List D)} {x y : Int} {d : D} (ha : r[a]? = some (some (.int x))) (hb : r[b]? = some (some (.int y))) (h : f (lent i r w) = .ok d) (hc : Cln d) (hp : zea w x y d = some w') : zhF i a b f r w = some (r,w') := by
  unfold zhF
  rw [ha,hb,h]
  show (@ite _ (Cln d) (Classical.propDecidable _) ((zea w x y d).map fun w' => (r,w')) none) = _
  rw [if_pos hc,hp]; rfl
section
variable {rows : List (List Nat)} {n : Nat}
noncomputable abbrev MW (n : Nat) (s : Nat→Nat→Nat) : List (List D) := (List.range n).map fun h => (List.range n).map fun x => QF (s h x)
theorem zoK (a : Nat) : Cln (QF a) := cln2 _ _
theorem zol {α : Type} (f : Nat→α) {i : Nat} (hi : i < n) : ((List.range n).map f)[i]? = some (f i) := by rw [List.getElem?_map,List.getElem?_range hi]; rfl
theorem zqi {α : Type} (f : Nat→α) {i : Nat} (hi : ¬ i < n) : ((List.range n).map f)[i]? = none := List.getElem?_eq_none (by simpa using hi)
theorem zmT {α : Type} (f : Nat→α) {i : Nat} (v : α) : ((List.range n).map f).set i v = (List.range n).map fun j => if j = i then v else f j := by
  refine List.ext_getElem? fun j => ?_
  rw [List.getElem?_set]
  by_cases hj : j < n
  · rw [zol _ hj,zol _ hj]
    by_cases e : i = j
    · subst e
      rw [if_pos rfl,if_pos (by simpa using hj),if_pos rfl]
    · rw [if_neg e,if_neg (Ne.symm e)]
  · rw [zqi _ hj,zqi _ hj]
    by_cases e : i = j
    · subst e
      rw [if_pos rfl,if_neg (by simpa using hj)]
    · rw [if_neg e]
theorem zqw {α : Type} (f : Nat→α) {i : Nat} (hi : i < n) : ixN ((List.range n).map f).length (i : Int) = some i := by
  unfold ixN
  rw [if_pos (by omega),List.length_map,List.length_range,if_pos (by omega)]; simp
theorem zpM {h x v : Nat} {s : Nat→Nat→Nat} (hh : h < n) (hx : x < n) : zea (MW n s) (h : Int) (x : Int) (QF v) = some (MW n fun h' x' => if h' = h∧x' = x then v else s h' x') := by
  unfold zea
  rw [zqw _ hh,Option.bind_some,zol _ hh,Option.bind_some,zqw _ hx]
  show some ((MW n s).set h (((List.range n).map fun x => QF (s h x)).set x (QF v))) = some _
  rw [zmT,zmT]
  congr 1
  refine List.map_congr_left fun h' _ => ?_
  by_cases e : h' = h
  · subst e
    rw [if_pos rfl]
    refine List.map_congr_left fun x' _ => ?_
    by_cases e2 : x' = x
    · rw [if_pos e2]; show QF v = QF (if h' = h'∧x' = x then v else s h' x'); rw [if_pos ⟨rfl,e2⟩]
    · rw [if_neg e2]; show QF (s h' x') = QF (if h' = h'∧x' = x then v else s h' x'); rw [if_neg fun z => e2 z.2]
  · rw [if_neg e]
    refine List.map_congr_left fun x' _ => ?_
    show QF (s h' x') = QF (if h' = h∧x' = x then v else s h' x')
    rw [if_neg fun z => e z.1]
theorem zr5 {h : Nat} {s : Nat→Nat→Nat} (hh : h < n) : ixA (.lst ((MW n s).map D.lst)) (nD h) = some (SL n (s h)) := by
  refine zkq ?_
  show (((List.range n).map _).map D.lst)[h]? = _
  rw [List.getElem?_map,List.getElem?_map,List.getElem?_range hh]; rfl
noncomputable abbrev zoy : FS2 := (zb1 (embF (setF q101 11 (zaq (zab (f2 (gv 0) (gv 10) ixA) (zab (gv 4) lNil)) [] zct))) (zb1 (embF (ifF q101 (zaP (f2 (gv 11) (fun _ => Res.ok D.non) isD)) (seqF (retF q101 (fun _ => Res.ok (D.bl false))) zam) zam)) (zb1 (zhF 5 10 11 (zaq (zab (f2 (f2 (gv 5) (gv 10) ixA) (gv 11) ixA) (zab (gv 9) lNil)) [] zaN)) (fun r w => some (r,w)))))
noncomputable abbrev zo6 : FS2 := (zb1 (zhy 5 12 (zaq (zab (gv 5) (zab (gv 11) lNil)) [] zbe)) (zb1 (embF (ifF q101 (fOr (zaP (f2 (f2 (gv 12) (mkT (zab (ci 1) (zab (ci 1) lNil))) eqD) (f2 (gv 11) (gv 8) inD) neD)) (fTru (zaq (zab (mkT (zab (ci 1) (zab (ci 1) lNil))) (zab (gv 12) lNil)) [] za0))) (seqF (retF q101 (fun _ => Res.ok (D.bl false))) zam) zam)) (zb1 (embF (ifF q101 (zaP (f2 (gv 11) (gv 8) inD)) (seqF (mutF "list" q101 4 (zab (gv 11) lNil) remD) zam) zam)) (fun r w => some (r,w)))))
theorem zrS (x : Nat) : isD (nD x) .non = some (.bl false) := rfl
theorem zkx (R : Sq rows n) {d1 d2 x6 x7 x8 x12 x11 : Option D} {T : List Nat} {s : Nat→Nat→Nat} {h sp : Nat} (hh : h < n) (hT : T≠[]) (hlt : ∀ x∈T,x < n) (hs : s h (Rg.best (Wr rows h) T) + sp≤DD) :
    zoy [some (WD rows),d1,d2,some (nD n),some (LN T),none,x6,x7,x8,some (QF sp),some (nD h),x11,x12] (MW n s) =
      some ([some (WD rows),d1,d2,some (nD n),some (LN T),none,x6,x7,x8,some (QF sp),some (nD h),some (nD (Rg.best (Wr rows h) T)),x12],MW n fun h' x' => if h' = h∧x' = Rg.best (Wr rows h) T then s h' x' + sp else s h' x') := by
  have hp := List.length_pos_iff.mpr hT
  have hex : ∃ x∈Wr rows h,x∈T := ⟨T[0],R.rw.has h _ hh (hlt _ (List.getElem_mem _)),List.getElem_mem _⟩
  have hb : Rg.best (Wr rows h) T < n := hlt _ (Rg.zmk hex)
  refine (zbG (zeJ (zaw (zal (zad (zae (a := WD rows) (b := nD h) rfl rfl (R.at hh)) (zad (d := LN T) rfl zak)) (zjE hex))))).trans ?_
  refine (zbG (zeJ ((if_f (zay (zae (a := nD (Rg.best (Wr rows h) T)) rfl rfl (zrS _)))).trans (e_skip _)))).trans ?_
  have hv := rlp (a := s h (Rg.best (Wr rows h) T)) (b := sp) (by omega) (by omega)
  refine (zbG (znO (x := (h : Int)) (y := ((Rg.best (Wr rows h) T : Nat) : Int)) (d := QF (s h (Rg.best (Wr rows h) T) + sp)) rfl rfl (zal (zad (zae (zae (a := .lst ((MW n s).map D.lst)) (b := nD h) rfl rfl (zr5 hh)) (b := nD (Rg.best (Wr rows h) T)) rfl (zov hb)) (zad (d := QF sp) rfl zak)) hv) (zoK _) (zpM hh hb))).trans ?_
  show some (_,MW n _) = some (_,MW n _)
  congr 2
  refine List.map_congr_left fun h' _ => List.map_congr_left fun x' _ => ?_
  show QF (if h' = h∧x' = _ then _ else s h' x') = QF (if _ then _ else _)
  by_cases e : h' = h∧x' = Rg.best (Wr rows h) T
  · rw [if_pos e,if_pos e,e.1,e.2]
  · rw [if_neg e,if_neg e]
end
end Law
end
section
set_option exponentiation.threshold 3000
namespace Law
open PySem PyProof.Rows L2 DL Fq
section
variable {rows : List (List Nat)} {n : Nat}
theorem zmo {s s' : Nat→Nat→Nat} (h : ∀ i,i < n→∀ x,s i x = s' i x) : MW n s = MW n s' := by
  refine List.map_congr_left fun i hi => List.map_congr_left fun x _ => ?_
  rw [h i (List.mem_range.mp hi) x]
noncomputable def bit (rows : List (List Nat)) (T : List Nat) (sp : Nat) (s : Nat→Nat→Nat) (h x : Nat) : Nat := s h x + if Rg.best (Wr rows h) T = x then sp else 0
noncomputable def mid (rows : List (List Nat)) (T : List Nat) (sp : Nat) (s : Nat→Nat→Nat) (i h x : Nat) : Nat := if h < i then bit rows T sp s h x else s h x
theorem zfW (R : Sq rows n) {d1 d2 x6 x7 x8 x12 : Option D} {T : List Nat} {s : Nat→Nat→Nat} {sp : Nat} (hT : T≠[]) (hlt : ∀ x∈T,x < n) (hs : ∀ h,h < n→s h (Rg.best (Wr rows h) T) + sp≤DD) : ∀ (j i : Nat) (x10 x11 : Option D),i + j = n →
    ∃ y10 y11,zer (ftN 10) zoy ((List.range' i j).map nD) [some (WD rows),d1,d2,some (nD n),some (LN T),none,x6,x7,x8,some (QF sp),x10,x11,x12] (MW n (mid rows T sp s i)) =
      some ([some (WD rows),d1,d2,some (nD n),some (LN T),none,x6,x7,x8,some (QF sp),y10,y11,x12],MW n (bit rows T sp s))
  | 0,i,x10,x11,hi => ⟨x10,x11,by
    show some (_,MW n _) = some (_,MW n _)
    rw [zmo (s := mid rows T sp s i) (s' := bit rows T sp s) fun h hh x => by unfold mid; rw [if_pos (by omega)]]⟩
  | j + 1,i,x10,x11,hi => by
    obtain ⟨y10,y11,ih⟩ := zfW R (d1 := d1) (d2 := d2) (x6 := x6) (x7 := x7) (x8 := x8) (x12 := x12) hT hlt hs j (i + 1) (some (nD i)) (some (nD (Rg.best (Wr rows i) T))) (by omega)
    refine ⟨y10,y11,?_⟩
    have hin : i < n := by omega
    rw [List.range'_succ,List.map_cons,← ih]
    have st := zkx R (d1 := d1) (d2 := d2) (x6 := x6) (x7 := x7) (x8 := x8) (x12 := x12) (x11 := x11) (s := mid rows T sp s i) (sp := sp) hin hT hlt (by unfold mid; rw [if_neg (Nat.lt_irrefl _)]; exact hs i hin)
    refine (zef (r1 := [some (WD rows),d1,d2,some (nD n),some (LN T),none,x6,x7,x8,some (QF sp),some (nD i),x11,x12]) rfl st).trans ?_
    rw [zmo (s' := mid rows T sp s (i + 1)) fun h hh x => ?_]
    unfold mid bit
    by_cases e : h = i
    · subst e
      rw [if_neg (Nat.lt_irrefl _),if_pos (Nat.lt_succ_self _)]
      by_cases e2 : x = Rg.best (Wr rows h) T
      · rw [if_pos ⟨rfl,e2⟩,if_pos e2.symm]
      · rw [if_neg fun z => e2 z.2,if_neg (Ne.symm e2)]; rfl
    · rw [if_neg fun z => e z.1]
      by_cases h1 : h < i
      · rw [if_pos h1,if_pos (show h < i + 1 by omega)]
      · rw [if_neg h1,if_neg (show ¬ h < i + 1 by omega)]
theorem zkF {d0 : D} {x : Nat} (hx : x < n) (s : Nat→Nat→Nat) : ∀ (l : List Nat) (acc : Nat) (y : Option D),acc + (l.map fun h => s h x).sum≤DD →
    ∃ y',forF (ftN 3) zcO (l.map fun h => SL n (s h)) [some d0,some (nD x),some (QF acc),y] = .nx [some d0,some (nD x),some (QF (acc + (l.map fun h => s h x).sum)),y']
  | [],acc,y,_ => ⟨y,by rw [show acc + (([] : List Nat).map fun h => s h x).sum = acc from rfl]; exact zbL⟩
  | h::l,acc,y,hs => by
    rw [List.map_cons,List.sum_cons] at hs
    obtain ⟨y',ih⟩ := zkF (d0 := d0) hx s l (acc + s h x) (some (SL n (s h))) (by omega)
    refine ⟨y',?_⟩
    rw [List.map_cons,List.map_cons,List.sum_cons,← Nat.add_assoc,← ih]
    refine zbZ (r1 := [some d0,some (nD x),some (QF acc),some (SL n (s h))]) rfl ?_
    exact zai (zaw (zal (zad (d := QF acc) rfl (zad (zae (a := SL n (s h)) (b := nD x) rfl rfl (zov hx)) zak)) (rlp (by omega) (by omega))))
theorem zla (s : Nat→Nat→Nat) : (MW n s).map D.lst = (List.range n).map fun h => SL n (s h) := by rw [List.map_map]; rfl
theorem zgQ {x : Nat} (hx : x < n) {s : Nat→Nat→Nat} (hs : ((List.range n).map fun h => s h x).sum≤DD) : zbe [.lst ((MW n s).map D.lst),nD x] = .ok (QF ((List.range n).map fun h => s h x).sum) := by
  obtain ⟨y,e⟩ := zkF (d0 := .lst ((MW n s).map D.lst)) hx s (List.range n) 0 none (by omega)
  rw [Nat.zero_add] at e
  refine zaU (B := zbC) (n := 4) ?_
  unfold zbC
  refine (zai (zaw (d := QF 0) (by rw [← zlN]; rfl))).trans ?_
  refine (zai ((zbK (zcx (d := .lst ((MW n s).map D.lst)) (ds := (List.range n).map fun h => SL n (s h)) rfl (by rw [zla]; rfl))).trans e)).trans ?_
  exact zaG (zaQ (d := QF ((List.range n).map fun h => s h x).sum) rfl)
theorem zqe (p q : Bool) : neD (.bl p) (.bl q) = some (.bl (! decide (p = q))) := by cases p <;> cases q <;> rfl
theorem zdR {w0 d1 d2 x6 x7 x9 x10 : Option D} {g : List Nat} {s : Nat→Nat→Nat} : ∀ (l dn : List Nat) (x11 x12 : Option D),(dn++l).Nodup→(∀ x∈l,x < n∧((List.range n).map fun h => s h x).sum≤DD∧(((List.range n).map fun h => s h x).sum = DD↔x∈g)) →
    ∃ y11 y12,zer (ftN 11) zo6 (l.map nD) [w0,d1,d2,some (nD n),some (LN (dn++l)),none,x6,x7,some (TN g),x9,x10,x11,x12] (MW n s) =
      some ([w0,d1,d2,some (nD n),some (LN (dn++l.filter fun x => decide (x∉g))),none,x6,x7,some (TN g),x9,x10,y11,y12],MW n s)
  | [],dn,x11,x12,_,_ => ⟨x11,x12,rfl⟩
  | x::l,dn,x11,x12,hn,hx => by
    obtain ⟨h1,h2,h3⟩ := hx x List.mem_cons_self
    generalize hS : ((List.range n).map fun h => s h x).sum = S at h2 h3
    have hnd : x∉dn := fun z => by
      have := (List.nodup_append.mp hn).2.2 x z x List.mem_cons_self
      exact this rfl
    have he := zgQ (n := n) h1 (s := s) (by rw [hS]; exact h2)
    rw [hS] at he
    have e12 : ∀ y4,(embF (ifF q101 (fOr (zaP (f2 (f2 (gv 12) (mkT (zab (ci 1) (zab (ci 1) lNil))) eqD) (f2 (gv 11) (gv 8) inD) neD)) (fTru (zaq (zab (mkT (zab (ci 1) (zab (ci 1) lNil))) (zab (gv 12) lNil)) [] za0))) (seqF (retF q101 (fun _ => Res.ok (D.bl false))) zam) zam)) [w0,d1,d2,some (nD n),y4,none,x6,x7,some (TN g),x9,x10,some (nD x),some (QF S)] (MW n s) = some ([w0,d1,d2,some (nD n),y4,none,x6,x7,some (TN g),x9,x10,some (nD x),some (QF S)],MW n s) := fun y4 => by
      refine zeJ ((if_f ?_).trans (e_skip _))
      have t1 := zqe (decide (S = DD)) (decide (x∈g))
      rw [decide_eq_true (p := decide (S = DD) = decide (x∈g)) (decide_eq_decide.mpr h3)] at t1
      rw [or_f (zay (zae (zae (a := QF S) (b := QF DD) rfl (by rw [← zn7]; rfl) (zm5 S DD)) (zae (a := nD x) (b := TN g) rfl rfl (zqD g x)) t1))]
      have t2 := rll (a := DD) (b := S) (Nat.le_refl _) h2
      rw [decide_eq_false (by omega)] at t2
      exact zaJ (zal (zad (d := QF DD) (by rw [← zn7]; rfl) (zad (d := QF S) rfl zak)) t2) rfl
    have t3 := zqD g x
    by_cases hg : x∈g
    · obtain ⟨y11,y12,ih⟩ := zdR (w0 := w0) (d1 := d1) (d2 := d2) (x6 := x6) (x7 := x7) (x9 := x9) (x10 := x10) (g := g) (s := s) l dn (some (nD x)) (some (QF S)) (by
        refine hn.sublist ?_
        exact List.Sublist.append (List.Sublist.refl dn) (List.sublist_cons_self x l)) fun z hz => hx z (List.mem_cons_of_mem _ hz)
      refine ⟨y11,y12,?_⟩
      rw [List.map_cons,List.filter_cons_of_neg (by simpa using hg),← ih]
      refine zef (r1 := [w0,d1,d2,some (nD n),some (LN (dn++x::l)),none,x6,x7,some (TN g),x9,x10,some (nD x),x12]) rfl ?_
      refine (zbG (zjv (zal (zad (d := .lst ((MW n s).map D.lst)) rfl (zad (d := nD x) rfl zak)) he) (zoK _))).trans ?_
      refine (zbG (e12 _)).trans ?_
      rw [decide_eq_true hg] at t3
      have er : (dn++x::l).erase x = dn++l := by rw [List.erase_append_right _ hnd,List.erase_cons_head]
      have rm := zpC (k := x) (l := dn++x::l) (List.mem_append_right _ List.mem_cons_self)
      rw [er] at rm
      exact (zbG (zeJ ((if_t (zay (zae (a := nD x) (b := TN g) rfl rfl t3))).trans ((zai (ziq (d := LN (dn++x::l)) (ds := [nD x]) rfl rfl (zad (d := nD x) rfl zak) rm)).trans (e_skip _))))).trans rfl
    · obtain ⟨y11,y12,ih⟩ := zdR (w0 := w0) (d1 := d1) (d2 := d2) (x6 := x6) (x7 := x7) (x9 := x9) (x10 := x10) (g := g) (s := s) l (dn++[x]) (some (nD x)) (some (QF S)) (by rw [List.append_assoc]; exact hn) fun z hz => hx z (List.mem_cons_of_mem _ hz)
      rw [List.append_assoc,List.append_assoc,List.singleton_append,List.singleton_append] at ih
      refine ⟨y11,y12,?_⟩
      rw [List.map_cons,List.filter_cons_of_pos (by simpa using hg),← ih]
      refine zef (r1 := [w0,d1,d2,some (nD n),some (LN (dn++x::l)),none,x6,x7,some (TN g),x9,x10,some (nD x),x12]) rfl ?_
      refine (zbG (zjv (zal (zad (d := .lst ((MW n s).map D.lst)) rfl (zad (d := nD x) rfl zak)) he) (zoK _))).trans ?_
      refine (zbG (e12 _)).trans ?_
      rw [decide_eq_false hg] at t3
      exact (zbG (zeJ ((if_f (zay (zae (a := nD x) (b := TN g) rfl rfl t3))).trans (e_skip _)))).trans rfl
end
end Law
end
section
set_option exponentiation.threshold 3000
namespace Law
open PySem PyProof.Rows L2 DL Fq
theorem zqS (l : List (Int × Nat)) : PyData.eqv (toPy (TF l)) (toPy (TF l)) = true := by
  simp only [toPy,PyData.eqv]; exact ziC l
theorem zhb : ∀ t : List (List (Int × Nat)),PyData.eqvAll (zcf (t.map TF)) (zcf (t.map TF)) = true
  | [] => by simp [zcf,PyData.eqvAll]
  | l::t => by
    have h1 := zqS l
    have h2 := zhb t
    simp only [List.map_cons,zcf,PyData.eqvAll,h1,h2,Bool.and_self]
theorem zoF (t : List (List (Int × Nat))) : eqB (TTF t) (TTF t) = some true := by
  have sh : Shp 60 (TTF t) := zen.mpr fun d hd => by
    obtain ⟨l,_,rfl⟩ := List.mem_map.mp hd
    exact zen.mpr zru
  rw [zgo rfl sh sh]
  unfold eqb
  simp only [toPy,PyData.eqv,zhb]
theorem zoE (t : List (List (Int × Nat))) : eqD (TTF t) (TTF t) = some (.bl true) := by unfold eqD; rw [zoF]; rfl
section
variable {rows : List (List Nat)} {n : Nat}
noncomputable abbrev zog : FS2 := (zb1 (embF (setF q101 9 (zaq (zab (gv 7) (zab (mkT (zab (f1 (f2 (gv 6) (ci 0) ixA) negI) (zab (f2 (gv 6) (ci 1) ixA) lNil))) lNil)) [] zaN))) (zb1 (embF (setF q101 6 (gv 7))) (zb1 (zee (fRng rng1 (zab (gv 3) lNil)) (ftN 10) zoy) (zb1 (zee (fSeq zbq (fC (zab (gv 4) lNil) zgZ)) (ftN 11) zo6) (fun r w => some (r,w))))))
theorem zlT (R : Sq rows n) {d1 d2 x7 x8 x9 x10 x11 x12 : Option D} {T : List Nat} {a : Nat→Nat} {s : Nat→Nat→Nat} {k now : Nat} (S : Et.Rp (Wr rows) n (k + 1) T a s (tbN rows n)) (hT : T≠[]) (hnow : now + Et.spn (Wr rows) n T a≤DD) :
    ∃ y10 y11 y12,zog [some (WD rows),d1,d2,some (nD n),some (LN T),none,some (QF now),some (QF (now + Et.spn (Wr rows) n T a)),some (TN (T.filter fun x => decide (x∉Et.lft (Wr rows) n T a))),x9,x10,x11,x12] (MW n s) =
      some ([some (WD rows),d1,d2,some (nD n),some (LN (Et.lft (Wr rows) n T a)),none,some (QF (now + Et.spn (Wr rows) n T a)),some (QF (now + Et.spn (Wr rows) n T a)),some (TN (T.filter fun x => decide (x∉Et.lft (Wr rows) n T a))),some (QF (Et.spn (Wr rows) n T a)),y10,y11,y12],MW n (Et.nxs (Wr rows) n T a s)) := by
  have hn7 := R.n7
  have hsp : ∀ h,h < n→s h (Rg.best (Wr rows h) T) + Et.spn (Wr rows) n T a≤DD := fun h hh => by
    have hb : Rg.best (Wr rows h) T < n := S.ok.lt _ (Et.tg_mem R.rw S.ok hT hh)
    have h1 := S.tb h hh (Rg.best (Wr rows h) T)
    have h2 := zo2 R hh hb
    rw [Et.eat_eq k hT,Et.shr_cons] at h1
    have h3 : (if (Et.tgs (Wr rows) n T).getD h 0 = Rg.best (Wr rows h) T then Et.spn (Wr rows) n T a else 0) = Et.spn (Wr rows) n T a := by rw [Et.tg_at hh,if_pos rfl]
    have h4 : s h (Rg.best (Wr rows h) T) + ((if (Et.tgs (Wr rows) n T).getD h 0 = Rg.best (Wr rows h) T then Et.spn (Wr rows) n T a else 0) + Et.shr (Et.eat (Wr rows) n k (Et.lft (Wr rows) n T a) (Et.aft (Wr rows) n T a)) h (Rg.best (Wr rows h) T)) = tbN rows n h (Rg.best (Wr rows h) T) := h1
    rw [h3] at h4
    omega
  obtain ⟨y10,z11,e1⟩ := zfW R (d1 := d1) (d2 := d2) (x6 := some (QF (now + Et.spn (Wr rows) n T a))) (x7 := some (QF (now + Et.spn (Wr rows) n T a))) (x8 := some (TN (T.filter fun x => decide (x∉Et.lft (Wr rows) n T a)))) (x12 := x12) (s := s) (sp := Et.spn (Wr rows) n T a) hT S.ok.lt hsp n 0 x10 x11 (Nat.zero_add _)
  rw [← List.range_eq_range',zmo (s := mid rows T (Et.spn (Wr rows) n T a) s 0) (s' := s) fun h _ x => by unfold mid; rw [if_neg (Nat.not_lt_zero _)]] at e1
  have hsum : ∀ x∈T,((List.range n).map fun h => Et.nxs (Wr rows) n T a s h x).sum + Et.aft (Wr rows) n T a x = DD := fun x hx => S.sum hx
  obtain ⟨y11,y12,e2⟩ := zdR (n := n) (w0 := some (WD rows)) (d1 := d1) (d2 := d2) (x6 := some (QF (now + Et.spn (Wr rows) n T a))) (x7 := some (QF (now + Et.spn (Wr rows) n T a))) (x9 := some (QF (Et.spn (Wr rows) n T a))) (x10 := y10) (g := T.filter fun x => decide (x∉Et.lft (Wr rows) n T a)) (s := Et.nxs (Wr rows) n T a s) T [] z11 x12 S.ok.nd fun x hx => by
    have := hsum x hx
    refine ⟨S.ok.lt x hx,by omega,?_⟩
    rw [Et.gone_iff hx]
    omega
  have ef : (T.filter fun x => decide (x∉T.filter fun x => decide (x∉Et.lft (Wr rows) n T a))) = Et.lft (Wr rows) n T a := by
    have : (T.filter fun x => decide (x∉T.filter fun x => decide (x∉Et.lft (Wr rows) n T a))) = T.filter fun x => decide (Et.aft (Wr rows) n T a x≠0) := List.filter_congr fun x hx => decide_eq_decide.mpr (not_congr (Et.gone_iff hx))
    rw [this]; rfl
  rw [List.nil_append,List.nil_append,ef] at e2
  refine ⟨y10,y11,y12,?_⟩
  refine (zbG (zeJ (zaw (zal (zad (d := QF (now + Et.spn (Wr rows) n T a)) rfl (zad (zgX (zad (zfI (zae (a := QF now) rfl rfl (zde _)) (d := .int (-(Qd (now : Int)).1)) rfl) (zad (zae (a := QF now) rfl rfl (zcI _)) zak)) (by simp)) zak)) (rlm hnow))))).trans ?_
  refine (zbG (zeJ (zaw (d := QF (now + Et.spn (Wr rows) n T a)) rfl))).trans ?_
  refine (zbG ((zgh (zcU (zad (d := nD n) rfl zak) (zeb (by omega)))).trans e1)).trans ?_
  exact (zbG ((zgh (zcx (d := LN T) (zbi (zad (d := LN T) rfl zak) rfl) rfl)).trans e2)).trans rfl
theorem zit (R : Sq rows n) {d1 d2 : Option D} : ∀ (k : Nat) (T : List Nat) (a : Nat→Nat) (s : Nat→Nat→Nat) (now : Nat) (x7 x8 x9 x10 x11 x12 : Option D),Et.Rp (Wr rows) n k T a s (tbN rows n)→T.length≤k→now + Et.tot (Et.eat (Wr rows) n k T a)≤DD →
    ∃ y6 y7 y8 y9 y10 y11 y12,zer (ftT (zbt (ftN 7) (zbt (ftN 8) zg4))) zog ((Et.logE now (Et.eat (Wr rows) n k T a)).map eD) [some (WD rows),d1,d2,some (nD n),some (LN T),none,some (QF now),x7,x8,x9,x10,x11,x12] (MW n s) =
      some ([some (WD rows),d1,d2,some (nD n),some (LN []),none,y6,y7,y8,y9,y10,y11,y12],MW n (tbN rows n))
  | k,T,a,s,now,x7,x8,x9,x10,x11,x12,S,hk,hs => by
    by_cases hT : T = []
    · subst hT
      have e : Et.eat (Wr rows) n k [] a = [] := by cases k <;> rfl
      rw [e]
      refine ⟨some (QF now),x7,x8,x9,x10,x11,x12,?_⟩
      show some (_,MW n s) = some (_,MW n _)
      rw [zmo (s' := tbN rows n) fun h hh x => S.last hh x]
    · cases k with
      | zero => exact absurd (List.length_eq_zero_iff.mp (by omega)) hT
      | succ k =>
        rw [Et.eat_eq k hT,Et.tot_cons] at hs
        have hs' : now + (Et.spn (Wr rows) n T a + Et.tot (Et.eat (Wr rows) n k (Et.lft (Wr rows) n T a) (Et.aft (Wr rows) n T a)))≤DD := hs
        obtain ⟨z10,z11,z12,st⟩ := zlT R (d1 := d1) (d2 := d2) (x7 := x7) (x8 := x8) (x9 := x9) (x10 := x10) (x11 := x11) (x12 := x12) (now := now) S hT (by omega)
        have hl := Et.lft_lt R.rw S.ok hT
        obtain ⟨y6,y7,y8,y9,y10,y11,y12,ih⟩ := zit R (d1 := d1) (d2 := d2) k (Et.lft (Wr rows) n T a) (Et.aft (Wr rows) n T a) (Et.nxs (Wr rows) n T a s) (now + Et.spn (Wr rows) n T a) (some (QF (now + Et.spn (Wr rows) n T a))) (some (TN (T.filter fun x => decide (x∉Et.lft (Wr rows) n T a)))) (some (QF (Et.spn (Wr rows) n T a))) z10 z11 z12 (S.next R.rw hT) (by omega) (by omega)
        refine ⟨y6,y7,y8,y9,y10,y11,y12,?_⟩
        rw [Et.eat_eq k hT,← ih]
        exact zef (r1 := [some (WD rows),d1,d2,some (nD n),some (LN T),none,some (QF now),some (QF (now + Et.spn (Wr rows) n T a)),some (TN (T.filter fun x => decide (x∉Et.lft (Wr rows) n T a))),x9,x10,x11,x12]) rfl st
noncomputable abbrev zrh : FE := (zbp 1 [3] (fRng rng1 (zab (gv 3) lNil)) (ftN 0) (fun _ => Res.ok true) (zbp 1 [] (fRng rng1 (zab (gv 1) lNil)) (ftN 0) (fun _ => Res.ok true) (mkT (zab (ci 0) (zab (ci 1) lNil)))))
theorem zoO (hn7 : n≤7) (w0 d1 d2 : D) (x4 : Option D) : zrh [some w0,some d1,some d2,some (nD n),x4,none,none,none,none,none,none,none,none] = .ok (.lst ((MW n fun _ _ => 0).map D.lst)) := by
  rw [zla]
  refine zbU (l := List.range n) nD (fun _ => SL n fun _ => 0) (zcU (zad (d := nD n) rfl zak) (zeb (by omega))) (by simp; omega) fun h _ => ⟨[some (nD h),some (nD n)],rfl,?_⟩
  exact zbU (l := List.range n) nD (fun _ => QF 0) (zcU (zad (d := nD n) rfl zak) (zeb (by omega))) (by simp; omega) fun x _ => ⟨[some (nD x)],rfl,by rw [← zlN]; rfl⟩
theorem zlP {i : Nat} {f : FE} {F : Rho→List (List D)→Out} {r : Rho} {w : List (List D)} (h : f r = .ok (.lst (w.map D.lst))) : zj4 (zjI i f) F r = F (r.set i none) w := by
  unfold zj4 zjI
  rw [h]
  simp only []
  rw [zi9]; rfl
theorem zle (hn7 : n≤7) (q : Nat→Nat→Nat) {r : Rho} (hr : getV r 5 = .ok (.lst ((MW n q).map D.lst))) : fC (zab (zbp 1 [] (fSeq zbq (gv 5)) (ftN 0) (fun _ => Res.ok true) (fC (zab (gv 0) lNil) tupD)) lNil) tupD r = .ok (TTF ((List.range n).map fun h => (List.range n).map fun x => Qd ((q h x : Nat) : Int))) := by
  refine zbi (zad (zbU (l := List.range n) (fun h => SL n (q h)) (fun h => TF ((List.range n).map fun x => Qd ((q h x : Nat) : Int))) (zcx hr (by rw [zla]; rfl)) (by simp; omega) fun h _ => ⟨[some (SL n (q h))],rfl,zbi (zad (d := SL n (q h)) rfl zak) ?_⟩) zak) ?_
  · rw [e_tupL]
    show some (D.tup _) = some (D.tup (List.map FR _))
    rw [List.map_map]; rfl
  · rw [e_tupL]
    show some (D.tup _) = some (D.tup (List.map TF _))
    rw [List.map_map]; rfl
theorem zky (R : Sq rows n) {lg : List (Nat × List Nat)} {q : Nat→Nat→Nat} {tb : List (List (Int × Nat))} (htb : tb = (List.range n).map fun h => (List.range n).map fun x => Qd ((q h x : Nat) : Int)) {y6 y7 y8 y9 y10 y11 y12 : Option D}
    (e : zer (ftT (zbt (ftN 7) (zbt (ftN 8) zg4))) zog (lg.map eD) [some (WD rows),some (TTF tb),some (.lst (lg.map eD)),some (nD n),some (LN (List.range n)),none,some (QF 0),none,none,none,none,none,none] (MW n fun _ _ => 0) = some ([some (WD rows),some (TTF tb),some (.lst (lg.map eD)),some (nD n),some (LN []),none,y6,y7,y8,y9,y10,y11,y12],MW n q)) :
    zcs [WD rows,TTF tb,.lst (lg.map eD)] = .ok (.bl true) := by
  have hn7 := R.n7
  refine zaU (B := zda) (n := 13) ?_
  unfold zda
  refine (zai (zaw (d := nD n) (zbi (zad (d := WD rows) rfl zak) R.len))).trans ?_
  refine (zai (zaw (d := LN (List.range n)) (zbi (zad (d := nD n) rfl zak) (zon (by omega))))).trans ?_
  refine (zlP (zoO hn7 (WD rows) (TTF tb) (.lst (lg.map eD)) (some (LN (List.range n))))).trans ?_
  refine (zk1 (zeJ (zaw (d := QF 0) (by rw [← zlN]; rfl)))).trans ?_
  refine (zk1 ((zgh (zcx (d := .lst (lg.map eD)) rfl rfl)).trans e)).trans ?_
  refine zaG (r := [some (WD rows),some (TTF tb),some (.lst (lg.map eD)),some (nD n),some (LN []),some (.lst ((MW n q).map D.lst)),y6,y7,y8,y9,y10,y11,y12]) (zaQ ?_)
  rw [zmr (zae (a := nD 0) (b := nD 0) (zbi (zad (d := LN []) rfl zak) rfl) rfl (zgn 0))]
  refine zae (a := TTF tb) (b := TTF tb) rfl ?_ (zoE _)
  rw [htb]
  exact zle hn7 q rfl
theorem zlu (R : Sq rows n) : zcs [WD rows,TTF (tbl rows n),lgD rows n] = .ok (.bl true) := by
  have hn7 := R.n7
  have em : mls rows n = Et.eat (Wr rows) n 64 (List.range n) fun _ => DD := rfl
  have et : tbN rows n = Et.shr (Et.eat (Wr rows) n 64 (List.range n) fun _ => DD) := rfl
  obtain ⟨y6,y7,y8,y9,y10,y11,y12,e⟩ := zit R (d1 := some (TTF (tbl rows n))) (d2 := some (lgD rows n)) 64 (List.range n) (fun _ => DD) (fun _ _ => 0) 0 none none none none none none (by rw [et]; exact Et.Rp.init R.rw 64) (by simp; omega) (by rw [← em,zdU R]; omega)
  rw [← em] at e
  exact zky R (tb := tbl rows n) (q := tbN rows n) rfl e
end
end Law
end
section
set_option exponentiation.threshold 3000
namespace Law
open PySem PyProof.Rows L2 DL Fq
theorem zoj {i : Nat} {fl : Rho→Res (List D)} {F : List D→Res D} {f : F3} {r r' : Rho} {d1 : D} {ds : List D} (h1 : zaq fl [] F r = .ok (.tup [d1,.lst ds])) (h2 : f (r.set i none) d1 ds = some r') : newW i fl F f r = .nx r' := by
  unfold newW
  rw [h1]
  simp only []
  rw [h2]
theorem zkv {i : Nat} {q : FQ} {f : F3} {r : Rho} {d1 : D} {ds : List D} (h : q (r.set i (some (.tup [d1,.lst ds]))) = .ok false) : if3 i q f r d1 ds = f r d1 ds := by
  unfold if3
  rw [h]
section
variable {rows : List (List Nat)} {n : Nat}
theorem zgP (R : Sq rows n) : zbz [TTF (tbl rows n),nD n,nD n] = .ok (.bl true) := by
  have hn7 := R.n7
  have tl : (tbl rows n).length = n := by unfold tbl; simp
  refine zaU (B := zbB) (n := 4) ?_
  unfold zbB
  have hne := ziV n n
  rw [decide_eq_true rfl] at hne
  refine (zai ((if_f ?_).trans (e_skip _))).trans ?_
  · rw [or_f (zbD (b := true) (zaJ (zfI (a := TTF (tbl rows n)) (d := .bl true) rfl rfl) rfl))]
    exact zay (zae (a := nD n) (b := nD n) (zbi (zad (d := TTF (tbl rows n)) rfl zak) (by rw [zdv,tl])) rfl hne)
  have lp : ∀ (l : List Nat) (x : Option D),(∀ h∈l,h < n)→∃ y,forF (ftN 3) zcN ((l.map (tbR rows n)).map TF) [some (TTF (tbl rows n)),some (nD n),some (nD n),x] = .nx [some (TTF (tbl rows n)),some (nD n),some (nD n),y] := by
    intro l
    induction l with
    | nil => exact fun x _ => ⟨x,zbL⟩
    | cons h l ih =>
      intro x hr
      have hh := hr h List.mem_cons_self
      obtain ⟨y,hy⟩ := ih (some (TF (tbR rows n h))) fun z hz => hr z (List.mem_cons_of_mem _ hz)
      refine ⟨y,?_⟩
      rw [List.map_cons,List.map_cons,← hy]
      refine zbZ (r1 := [some (TTF (tbl rows n)),some (nD n),some (nD n),some (TF (tbR rows n h))]) rfl ?_
      refine zai ((if_f ?_).trans (e_skip _))
      rw [or_f (zbD (b := true) (zaJ (zfI (a := TF (tbR rows n h)) (d := .bl true) rfl rfl) rfl))]
      rw [or_f (zay (zae (a := nD n) (b := nD n) (zbi (zad (d := TF (tbR rows n h)) rfl zak) (by rw [zdv,zjo])) rfl hne))]
      refine zbD (b := true) (zaJ (d := .bl true) (zbi (zad (zbU (l := tbR rows n h) FR (fun _ => .bl true) (zcx (d := TF (tbR rows n h)) rfl rfl) (by rw [zjo]; omega) fun q hq => ⟨[some (FR q)],rfl,?_⟩) zak) ?_) rfl)
      · unfold tbR at hq
        obtain ⟨x,hx,rfl⟩ := List.mem_map.mp hq
        exact zal (zad (d := FR (Qd ((tbN rows n h x : Nat) : Int))) rfl zak) (zik (zdG (zo2 R hh (List.mem_range.mp hx))) (zne _) (by omega))
      · have := zq5 (fun _ : Int × Nat => true) (tbR rows n h)
        rw [List.all_eq_true.mpr (fun _ _ => rfl)] at this
        exact this
  obtain ⟨y,hy⟩ := lp (List.range n) none fun r hr => List.mem_range.mp hr
  refine (zai ((zbK (zcx (d := TTF (tbl rows n)) rfl rfl)).trans hy)).trans ?_
  exact zaG (zaQ (d := .bl true) rfl)
end
theorem zpf {fa : FE} {fl fh : FP} {r : Rho} {d d' : D} {lo hi : Option Int} (h1 : fa r = .ok d) (h2 : fl r = .ok lo) (h3 : fh r = .ok hi) (h4 : slA d lo hi = some d') : fSlA fa fl fh r = .ok d' := by
  unfold fSlA; rw [h1,bind_ok,h2,bind_ok,h3,bind_ok,h4]; rfl
theorem zpe (l : List D) (k : Nat) : slA (.tup l) none (some (k : Int)) = some (.tup (l.take k)) := by
  show some (D.tup (cutL l none (some (k : Int)))) = _
  unfold cutL
  rw [HT.sIx_nat,HT.sIx_none,List.drop_zero,Nat.sub_zero]
  rw [List.take_eq_take_iff.mpr (by omega : min (min k l.length) l.length = min k l.length)]
theorem zq6 {a b : List D} (h : a.length + b.length≤1000) : addE (.tup a) (.tup b) = some (.tup (a++b)) := by
  cases a with
  | nil => rfl
  | cons x a =>
    show (if (x::a).length + b.length≤sizeLine then some (D.tup (x::a++b)) else none) = _
    rw [if_pos (by rw [sizeLine_eq]; omega)]
theorem main (ns : List Int) (_ : ns.length≤63) : zra [.lst (ns.map .int)] = .ok (.bl true) := by
  obtain ⟨c1,h1⟩ := zgc ns 1 (by omega)
  have hn7 : c1 % 7 < 7 := Nat.mod_lt _ (by omega)
  generalize hn : 1 + c1 % 7 = n
  obtain ⟨cn,hcn⟩ := zgc ns (2 + n) (by omega)
  obtain ⟨rows,r1,r2,r3⟩ := ziN ns 2 n n (by omega) (by omega) (by omega)
  have R0 : Sq rows n := ⟨by omega,by omega,r1,r2⟩
  have hsq : zb9 [IN ns] = .ok (WD rows) := by
    refine zaU (B := zcb) (n := 2) ?_
    unfold zcb
    refine (zai (zaw (d := nD n) (zae (a := nD 1) rfl (zae (b := nD 7) (zal (zad (d := IN ns) rfl (zad (d := nD 1) rfl zak)) h1) rfl (zir (by omega))) (by rw [zfv,hn])))).trans ?_
    exact zaG (zaQ (zal (zad (d := IN ns) rfl (zad (d := nD 2) rfl (zad (d := nD n) rfl (zad (d := nD n) rfl zak)))) r3))
  have turn : ∀ (rows : List (List Nat)) (x3 x4 : Option D),Sq rows n→zh9 [some (IN ns),some (WD rows),some (nD n),x3,x4,none] = .nx [some (IN ns),some (WD rows),some (nD n),x3,x4,none] := by
    intro rows x3 x4 R
    have he := zjF R
    have hn7 := R.n7
    have i0 : ixA (.tup [TTF (tbl rows n),lgD rows n]) (.int 0) = some (TTF (tbl rows n)) := ixA_T0 _ _
    have i1 : ixA (.tup [TTF (tbl rows n),lgD rows n]) (.int 1) = some (lgD rows n) := zkp (i := 1) rfl
    refine zoj (zal (zad (d := WD rows) rfl zak) he) ?_
    refine (zkv ?_).trans ?_
    · rw [or_f (zbD (b := true) (zaJ (zfI (a := .tup [TTF (tbl rows n),lgD rows n]) (d := .bl true) rfl rfl) rfl))]
      rw [or_f (zay (zae (a := nD 2) (b := nD 2) (zbi (zad (d := .tup [TTF (tbl rows n),lgD rows n]) rfl zak) rfl) rfl (ziV 2 2)))]
      exact zbD (b := true) (zaJ (zal (zad (zae (a := .tup [TTF (tbl rows n),lgD rows n]) rfl rfl i0) (zad (d := nD n) rfl (zad (d := nD n) rfl zak))) (zgP R)) rfl)
    refine (zkv ?_).trans ?_
    · rw [or_f (zbD (b := true) (zaJ (zal (zad (zae (a := .tup [TTF (tbl rows n),lgD rows n]) rfl rfl i1) (zad (d := nD n) rfl zak)) (zgN R)) rfl))]
      exact zbD (b := true) (zaJ (zal (zad (d := WD rows) rfl (zad (zae (a := .tup [TTF (tbl rows n),lgD rows n]) rfl rfl i0) (zad (zae (a := .tup [TTF (tbl rows n),lgD rows n]) rfl rfl i1) zak))) (zlu R)) rfl)
    refine (zkv ?_).trans rfl
    have hs := zrt ((Et.logE 0 (mls rows n)).map fun e => e.2.length)
    rw [zlW R] at hs
    have hne := ziV n n
    rw [decide_eq_true rfl] at hne
    refine zay (zae (zbi (zad (zbU (l := Et.logE 0 (mls rows n)) eD (fun e => nD e.2.length) (zcx (zae (a := .tup [TTF (tbl rows n),lgD rows n]) rfl rfl i1) rfl) (by rw [zka]; have := zj7 R; omega) fun e _ => ⟨[some (eD e)],rfl,zbi (zad (zae (a := eD e) rfl rfl (ziZ e)) zak) (zdv nD e.2)⟩) zak) ?_) (b := nD n) rfl hne)
    rw [← hs]
    show sumD [.lst _] = sumD [.lst (List.map nD (List.map _ _))]
    rw [List.map_map]; rfl
  have tail : ∀ (rows : List (List Nat)) (x3 : Option D),Sq rows n→(seqF (zcF q106 (fRng rng1 (zab (ci 2) lNil)) (ftN 4) zh9) (seqF (retF q106 (fun _ => Res.ok (D.bl true))) zam)) [some (IN ns),some (WD rows),some (nD n),x3,none,none] = .rt (.bl true) := by
    intro rows x3 R
    refine (zai ((zbK (zcU (zad (d := nD 2) rfl zak) (zeb (n := 2) (by omega)))).trans ((zbZ (r1 := [some (IN ns),some (WD rows),some (nD n),x3,some (nD 0),none]) rfl (turn rows x3 _ R)).trans ((zbZ (r1 := [some (IN ns),some (WD rows),some (nD n),x3,some (nD 1),none]) rfl (turn rows x3 _ R)).trans zbL)))).trans ?_
    exact zaG (zaQ (d := .bl true) rfl)
  refine zaU (B := zmq) (n := 6) ?_
  unfold zmq
  refine (zai (zaw (zal (zad (d := IN ns) rfl zak) hsq))).trans ?_
  refine (zai (zaw (d := nD n) (zbi (zad (d := WD rows) rfl zak) R0.len))).trans ?_
  have t0 := zi4 (cn % 3) 1
  by_cases z : cn % 3 = 1
  · rw [decide_eq_true z] at t0
    have hhalf : (n + 1) / 2≤n := by omega
    have hsub : subI (nD n) (nD ((n + 1) / 2)) = some (nD (n - (n + 1) / 2)) := by
      have e : (n : Int) - (((n + 1) / 2 : Nat) : Int) = ((n - (n + 1) / 2 : Nat) : Int) := by omega
      show some (D.int ((n : Int) - (((n + 1) / 2 : Nat) : Int))) = _
      rw [e]
    have R1 : Sq (rows.take ((n + 1) / 2)++(List.range (n - (n + 1) / 2)).map fun _ => Wr rows 0) n := by
      refine ⟨by omega,by omega,?_,fun row hr => ?_⟩
      · rw [List.length_append,List.length_take,r1,List.length_map,List.length_range]; omega
      · rcases List.mem_append.mp hr with z | z
        · exact r2 row (List.mem_of_mem_take z)
        · obtain ⟨_,_,rfl⟩ := List.mem_map.mp z
          exact R0.row (by omega)
    refine (zai ((if_t (zay (zae (zae (b := nD 3) (zal (zad (d := IN ns) rfl (zad (zae (a := nD 2) (b := nD n) rfl rfl (zfv 2 n)) zak)) hcn) rfl (zir (by omega))) (b := nD 1) rfl t0))).trans ?_)).trans (tail (rows.take ((n + 1) / 2)++(List.range (n - (n + 1) / 2)).map fun _ => Wr rows 0) (some (nD ((n + 1) / 2))) R1)
    refine (zai (zaw (d := nD ((n + 1) / 2)) (zae (b := nD 2) (zae (a := nD n) (b := nD 1) rfl rfl (zfv n 1)) rfl (zkC (by omega) (by omega))))).trans ?_
    refine zai (zaw (d := WD (rows.take ((n + 1) / 2)++(List.range (n - (n + 1) / 2)).map fun _ => Wr rows 0)) (zae (zpf (d := WD rows) rfl rfl (znZ (i := (((n + 1) / 2 : Nat) : Int)) rfl) (zpe _ _)) (zbi (zad (zbU (l := List.range (n - (n + 1) / 2)) nD (fun _ => TN (Wr rows 0)) (zcU (zad (zae (a := nD n) (b := nD ((n + 1) / 2)) rfl rfl hsub) zak) (zeb (by omega))) (by simp; omega) fun x _ => ⟨[some (nD x),some (WD rows)],rfl,zae (a := WD rows) (b := nD 0) rfl rfl (R0.at (by omega))⟩) zak) rfl) ?_))
    rw [zq6 (by simp; omega)]
    show some (D.tup _) = some (D.tup (List.map TN _))
    rw [List.map_append,List.map_take,List.map_map]; rfl
  · rw [decide_eq_false z] at t0
    exact (zai ((if_f (zay (zae (zae (b := nD 3) (zal (zad (d := IN ns) rfl (zad (zae (a := nD 2) (b := nD n) rfl rfl (zfv 2 n)) zak)) hcn) rfl (zir (by omega))) (b := nD 1) rfl t0))).trans (e_skip _))).trans (tail rows none R0)
end Law
end
open PySem PySem.W PyProof.Rows
set_option maxRecDepth 100000 in
set_option maxHeartbeats 0 in
theorem PySem.Challenge.cw_ringtrade_k27_eaten_by_the_log_holds : PySem.Challenge.rw_ringtrade_k27_eaten_by_the_log.Holds := by
  w_on; o_law; k_head; (case hw => w_witness2)
  k_fill
  refine DL.zr9 (l := PySem.Challenge.rw_ringtrade_k27_eaten_by_the_log) (k := 7) (x := "_law_script") (F := Law.zra) rfl rfl ⟨rfl,by decide,by decide⟩ (fun w h Y => PySem.W.kIn_of Y) Law.main ?C
  intro w mg fa h KX G hmg
  have T : Law.Txt (L2.KOf KX) mg := by
    dsimp only [L2.KOf]
    refine ⟨?b_range,?b_tuple,?b_len,?b_abs,?b_isinstance,?b_bool,?b_int,?b_all,?b_list,?b_sorted,?b_sum,?k_NOUGHT,?k_ONE⟩
    case b_range => (refine' PySem.W.mg_none_of KX G ?z_b_range; k_is)
    case b_tuple => (refine' PySem.W.mg_none_of KX G ?z_b_tuple; k_is)
    case b_len => (refine' PySem.W.mg_none_of KX G ?z_b_len; k_is)
    case b_abs => (refine' PySem.W.mg_none_of KX G ?z_b_abs; k_is)
    case b_isinstance => (refine' PySem.W.mg_none_of KX G ?z_b_isinstance; k_is)
    case b_bool => (refine' PySem.W.mg_none_of KX G ?z_b_bool; k_is)
    case b_int => (refine' PySem.W.mg_none_of KX G ?z_b_int; k_is)
    case b_all => (refine' PySem.W.mg_none_of KX G ?z_b_all; k_is)
    case b_list => (refine' PySem.W.mg_none_of KX G ?z_b_list; k_is)
    case b_sorted => (refine' PySem.W.mg_none_of KX G ?z_b_sorted; k_is)
    case b_sum => (refine' PySem.W.mg_none_of KX G ?z_b_sum; k_is)
    case k_NOUGHT => (refine' DL.zrP KX G ?z_k_NOUGHT ?l_k_NOUGHT; (case z_k_NOUGHT => k_is); (case l_k_NOUGHT => k_is))
    case k_ONE => (refine' DL.zrP KX G ?z_k_ONE ?l_k_ONE; (case z_k_ONE => k_is); (case l_k_ONE => k_is))
  have A__law_row : DL.DefAt (L2.KOf KX) mg "_law_row" Law.zfd := by
    dsimp only [L2.KOf]
    refine' DL.zr8 KX G ?a ?l ?c ?k
    (case a => k_is)
    (case l => k_is)
    (case c => k_is)
    (case k => k_is)
  have A__law_cell : DL.DefAt (L2.KOf KX) mg "_law_cell" Law.zeD := by
    dsimp only [L2.KOf]
    refine' DL.zr8 KX G ?a ?l ?c ?k
    (case a => k_is)
    (case l => k_is)
    (case c => k_is)
    (case k => k_is)
  have A__law_wishes : DL.DefAt (L2.KOf KX) mg "_law_wishes" Law.zbR := by
    dsimp only [L2.KOf]
    refine' DL.zr8 KX G ?a ?l ?c ?k
    (case a => k_is)
    (case l => k_is)
    (case c => k_is)
    (case k => k_is)
  have A__law_square : DL.DefAt (L2.KOf KX) mg "_law_square" Law.zdJ := by
    dsimp only [L2.KOf]
    refine' DL.zr8 KX G ?a ?l ?c ?k
    (case a => k_is)
    (case l => k_is)
    (case c => k_is)
    (case k => k_is)
  have A_things_in : DL.DefAt (L2.KOf KX) mg "things_in" Law.zey := by
    dsimp only [L2.KOf]
    refine' DL.zr8 KX G ?a ?l ?c ?k
    (case a => k_is)
    (case l => k_is)
    (case c => k_is)
    (case k => k_is)
  have A_is_square : DL.DefAt (L2.KOf KX) mg "is_square" Law.zeA := by
    dsimp only [L2.KOf]
    refine' DL.zr8 KX G ?a ?l ?c ?k
    (case a => k_is)
    (case l => k_is)
    (case c => k_is)
    (case k => k_is)
  have A_refuse_unless_square : DL.DefAt (L2.KOf KX) mg "refuse_unless_square" Law.zbs := by
    dsimp only [L2.KOf]
    refine' DL.zr8 KX G ?a ?l ?c ?k
    (case a => k_is)
    (case l => k_is)
    (case c => k_is)
    (case k => k_is)
  have A_less : DL.DefAt (L2.KOf KX) mg "less" Law.zjt := by
    dsimp only [L2.KOf]
    refine' DL.zr8 KX G ?a ?l ?c ?k
    (case a => k_is)
    (case l => k_is)
    (case c => k_is)
    (case k => k_is)
  have A_least : DL.DefAt (L2.KOf KX) mg "least" Law.zif := by
    dsimp only [L2.KOf]
    refine' DL.zr8 KX G ?a ?l ?c ?k
    (case a => k_is)
    (case l => k_is)
    (case c => k_is)
    (case k => k_is)
  have A_greatest_divisor : DL.DefAt (L2.KOf KX) mg "greatest_divisor" Law.zcg := by
    dsimp only [L2.KOf]
    refine' DL.zr8 KX G ?a ?l ?c ?k
    (case a => k_is)
    (case l => k_is)
    (case c => k_is)
    (case k => k_is)
  have A_is_whole : DL.DefAt (L2.KOf KX) mg "is_whole" Law.zfb := by
    dsimp only [L2.KOf]
    refine' DL.zr8 KX G ?a ?l ?c ?k
    (case a => k_is)
    (case l => k_is)
    (case c => k_is)
    (case k => k_is)
  have A_fraction : DL.DefAt (L2.KOf KX) mg "fraction" Law.zfc := by
    dsimp only [L2.KOf]
    refine' DL.zr8 KX G ?a ?l ?c ?k
    (case a => k_is)
    (case l => k_is)
    (case c => k_is)
    (case k => k_is)
  have A_times : DL.DefAt (L2.KOf KX) mg "times" Law.zid := by
    dsimp only [L2.KOf]
    refine' DL.zr8 KX G ?a ?l ?c ?k
    (case a => k_is)
    (case l => k_is)
    (case c => k_is)
    (case k => k_is)
  have A_time_until_one_is_gone : DL.DefAt (L2.KOf KX) mg "time_until_one_is_gone" Law.zaA := by
    dsimp only [L2.KOf]
    refine' DL.zr8 KX G ?a ?l ?c ?k
    (case a => k_is)
    (case l => k_is)
    (case c => k_is)
    (case k => k_is)
  have A_minus : DL.DefAt (L2.KOf KX) mg "minus" Law.zie := by
    dsimp only [L2.KOf]
    refine' DL.zr8 KX G ?a ?l ?c ?k
    (case a => k_is)
    (case l => k_is)
    (case c => k_is)
    (case k => k_is)
  have A_left_after : DL.DefAt (L2.KOf KX) mg "left_after" Law.zd5 := by
    dsimp only [L2.KOf]
    refine' DL.zr8 KX G ?a ?l ?c ?k
    (case a => k_is)
    (case l => k_is)
    (case c => k_is)
    (case k => k_is)
  have A_not_gone : DL.DefAt (L2.KOf KX) mg "not_gone" Law.zfa := by
    dsimp only [L2.KOf]
    refine' DL.zr8 KX G ?a ?l ?c ?k
    (case a => k_is)
    (case l => k_is)
    (case c => k_is)
    (case k => k_is)
  have A_best_left : DL.DefAt (L2.KOf KX) mg "best_left" Law.zcw := by
    dsimp only [L2.KOf]
    refine' DL.zr8 KX G ?a ?l ?c ?k
    (case a => k_is)
    (case l => k_is)
    (case c => k_is)
    (case k => k_is)
  have A_meals_of : DL.DefAt (L2.KOf KX) mg "meals_of" Law.zbF := by
    dsimp only [L2.KOf]
    refine' DL.zr8 KX G ?a ?l ?c ?k
    (case a => k_is)
    (case l => k_is)
    (case c => k_is)
    (case k => k_is)
  have A_plus : DL.DefAt (L2.KOf KX) mg "plus" Law.zjs := by
    dsimp only [L2.KOf]
    refine' DL.zr8 KX G ?a ?l ?c ?k
    (case a => k_is)
    (case l => k_is)
    (case c => k_is)
    (case k => k_is)
  have A_log_of : DL.DefAt (L2.KOf KX) mg "log_of" Law.zgE := by
    dsimp only [L2.KOf]
    refine' DL.zr8 KX G ?a ?l ?c ?k
    (case a => k_is)
    (case l => k_is)
    (case c => k_is)
    (case k => k_is)
  have A_shares_of : DL.DefAt (L2.KOf KX) mg "shares_of" Law.zez := by
    dsimp only [L2.KOf]
    refine' DL.zr8 KX G ?a ?l ?c ?k
    (case a => k_is)
    (case l => k_is)
    (case c => k_is)
    (case k => k_is)
  have A_eaten : DL.DefAt (L2.KOf KX) mg "eaten" Law.zeY := by
    dsimp only [L2.KOf]
    refine' DL.zr8 KX G ?a ?l ?c ?k
    (case a => k_is)
    (case l => k_is)
    (case c => k_is)
    (case k => k_is)
  have A__law_common : DL.DefAt (L2.KOf KX) mg "_law_common" Law.zdK := by
    dsimp only [L2.KOf]
    refine' DL.zr8 KX G ?a ?l ?c ?k
    (case a => k_is)
    (case l => k_is)
    (case c => k_is)
    (case k => k_is)
  have A__law_is_fraction : DL.DefAt (L2.KOf KX) mg "_law_is_fraction" Law.zch := by
    dsimp only [L2.KOf]
    refine' DL.zr8 KX G ?a ?l ?c ?k
    (case a => k_is)
    (case l => k_is)
    (case c => k_is)
    (case k => k_is)
  have A__law_is_table : DL.DefAt (L2.KOf KX) mg "_law_is_table" Law.zbl := by
    dsimp only [L2.KOf]
    refine' DL.zr8 KX G ?a ?l ?c ?k
    (case a => k_is)
    (case l => k_is)
    (case c => k_is)
    (case k => k_is)
  have A__law_less : DL.DefAt (L2.KOf KX) mg "_law_less" Law.zeC := by
    dsimp only [L2.KOf]
    refine' DL.zr8 KX G ?a ?l ?c ?k
    (case a => k_is)
    (case l => k_is)
    (case c => k_is)
    (case k => k_is)
  have A__law_whole : DL.DefAt (L2.KOf KX) mg "_law_whole" Law.zd6 := by
    dsimp only [L2.KOf]
    refine' DL.zr8 KX G ?a ?l ?c ?k
    (case a => k_is)
    (case l => k_is)
    (case c => k_is)
    (case k => k_is)
  have A__law_log_form : DL.DefAt (L2.KOf KX) mg "_law_log_form" Law.zbk := by
    dsimp only [L2.KOf]
    refine' DL.zr8 KX G ?a ?l ?c ?k
    (case a => k_is)
    (case l => k_is)
    (case c => k_is)
    (case k => k_is)
  have A__law_low : DL.DefAt (L2.KOf KX) mg "_law_low" Law.zfe := by
    dsimp only [L2.KOf]
    refine' DL.zr8 KX G ?a ?l ?c ?k
    (case a => k_is)
    (case l => k_is)
    (case c => k_is)
    (case k => k_is)
  have A__law_plus : DL.DefAt (L2.KOf KX) mg "_law_plus" Law.zeB := by
    dsimp only [L2.KOf]
    refine' DL.zr8 KX G ?a ?l ?c ?k
    (case a => k_is)
    (case l => k_is)
    (case c => k_is)
    (case k => k_is)
  have A__law_best : DL.DefAt (L2.KOf KX) mg "_law_best" Law.zeE := by
    dsimp only [L2.KOf]
    refine' DL.zr8 KX G ?a ?l ?c ?k
    (case a => k_is)
    (case l => k_is)
    (case c => k_is)
    (case k => k_is)
  have A__law_eaten_of : DL.DefAt (L2.KOf KX) mg "_law_eaten_of" Law.zdc := by
    dsimp only [L2.KOf]
    refine' DL.zr8 KX G ?a ?l ?c ?k
    (case a => k_is)
    (case l => k_is)
    (case c => k_is)
    (case k => k_is)
  have A__law_goes : DL.DefAt (L2.KOf KX) mg "_law_goes" Law.za9 := by
    dsimp only [L2.KOf]
    refine' DL.zr8 KX G ?a ?l ?c ?k
    (case a => k_is)
    (case l => k_is)
    (case c => k_is)
    (case k => k_is)
  have A_law : DL.DefAt (L2.KOf KX) mg "law" Law.zfL := by
    dsimp only [L2.KOf]
    refine' DL.zr8 KX G ?a ?l ?c ?k
    (case a => k_is)
    (case l => k_is)
    (case c => k_is)
    (case k => k_is)
  refine DL.zr7 hmg A_law (fun _ _ _ _ _ _ us hl => match us,hl with | [_],_ => rfl) fun f fd Fn base => ?_
  have C__law_row := Law.zoc (P := PySem.Challenge.rw_ringtrade_k27_eaten_by_the_log.prog) (w := w) (base := base) T A__law_row
  have C__law_cell := Law.zmP (P := PySem.Challenge.rw_ringtrade_k27_eaten_by_the_log.prog) (w := w) (base := base) T A__law_cell
  have C__law_wishes := Law.zlb (P := PySem.Challenge.rw_ringtrade_k27_eaten_by_the_log.prog) (w := w) (base := base) T A__law_wishes C__law_cell C__law_row
  have C__law_square := Law.zlc (P := PySem.Challenge.rw_ringtrade_k27_eaten_by_the_log.prog) (w := w) (base := base) T A__law_square C__law_cell C__law_wishes
  have C_things_in := Law.zmI (P := PySem.Challenge.rw_ringtrade_k27_eaten_by_the_log.prog) (w := w) (base := base) T A_things_in
  have C_is_square := Law.zmK (P := PySem.Challenge.rw_ringtrade_k27_eaten_by_the_log.prog) (w := w) (base := base) T A_is_square C_things_in
  have C_refuse_unless_square := Law.zgf (P := PySem.Challenge.rw_ringtrade_k27_eaten_by_the_log.prog) (w := w) (base := base) T A_refuse_unless_square C_is_square
  have C_less := Law.zrI (P := PySem.Challenge.rw_ringtrade_k27_eaten_by_the_log.prog) (w := w) (base := base) T A_less
  have C_least := Law.zrf (P := PySem.Challenge.rw_ringtrade_k27_eaten_by_the_log.prog) (w := w) (base := base) T A_least C_less
  have C_greatest_divisor := Law.zhI (P := PySem.Challenge.rw_ringtrade_k27_eaten_by_the_log.prog) (w := w) (base := base) T A_greatest_divisor
  have C_is_whole := Law.zoa (P := PySem.Challenge.rw_ringtrade_k27_eaten_by_the_log.prog) (w := w) (base := base) T A_is_whole
  have C_fraction := Law.zob (P := PySem.Challenge.rw_ringtrade_k27_eaten_by_the_log.prog) (w := w) (base := base) T A_fraction C_is_whole C_greatest_divisor
  have C_times := Law.zrd (P := PySem.Challenge.rw_ringtrade_k27_eaten_by_the_log.prog) (w := w) (base := base) T A_times C_fraction
  have C_time_until_one_is_gone := Law.zfF (P := PySem.Challenge.rw_ringtrade_k27_eaten_by_the_log.prog) (w := w) (base := base) T A_time_until_one_is_gone C_fraction C_times C_least
  have C_minus := Law.zre (P := PySem.Challenge.rw_ringtrade_k27_eaten_by_the_log.prog) (w := w) (base := base) T A_minus C_fraction
  have C_left_after := Law.zlJ (P := PySem.Challenge.rw_ringtrade_k27_eaten_by_the_log.prog) (w := w) (base := base) T A_left_after C_fraction C_times C_minus
  have C_not_gone := Law.zn8 (P := PySem.Challenge.rw_ringtrade_k27_eaten_by_the_log.prog) (w := w) (base := base) T A_not_gone
  have C_best_left := Law.zmL (P := PySem.Challenge.rw_ringtrade_k27_eaten_by_the_log.prog) (w := w) (base := base) T A_best_left
  have C_meals_of := Law.zn9 (P := PySem.Challenge.rw_ringtrade_k27_eaten_by_the_log.prog) (w := w) (base := base) T A_meals_of C_things_in C_best_left C_time_until_one_is_gone C_left_after C_not_gone
  have C_plus := Law.zrH (P := PySem.Challenge.rw_ringtrade_k27_eaten_by_the_log.prog) (w := w) (base := base) T A_plus C_fraction
  have C_log_of := Law.zqa (P := PySem.Challenge.rw_ringtrade_k27_eaten_by_the_log.prog) (w := w) (base := base) T A_log_of C_plus
  have C_shares_of := Law.zmJ (P := PySem.Challenge.rw_ringtrade_k27_eaten_by_the_log.prog) (w := w) (base := base) T A_shares_of C_things_in C_plus
  have C_eaten := Law.zrg (P := PySem.Challenge.rw_ringtrade_k27_eaten_by_the_log.prog) (w := w) (base := base) T A_eaten C_refuse_unless_square C_meals_of C_shares_of C_log_of
  have C__law_common := Law.zld (P := PySem.Challenge.rw_ringtrade_k27_eaten_by_the_log.prog) (w := w) (base := base) T A__law_common
  have C__law_is_fraction := Law.zhJ (P := PySem.Challenge.rw_ringtrade_k27_eaten_by_the_log.prog) (w := w) (base := base) T A__law_is_fraction C__law_common
  have C__law_is_table := Law.zjg (P := PySem.Challenge.rw_ringtrade_k27_eaten_by_the_log.prog) (w := w) (base := base) T A__law_is_table C__law_is_fraction
  have C__law_less := Law.zmN (P := PySem.Challenge.rw_ringtrade_k27_eaten_by_the_log.prog) (w := w) (base := base) T A__law_less
  have C__law_whole := Law.zlK (P := PySem.Challenge.rw_ringtrade_k27_eaten_by_the_log.prog) (w := w) (base := base) T A__law_whole
  have C__law_log_form := Law.zjf (P := PySem.Challenge.rw_ringtrade_k27_eaten_by_the_log.prog) (w := w) (base := base) T A__law_log_form C__law_is_fraction C__law_less C__law_whole
  have C__law_low := Law.zod (P := PySem.Challenge.rw_ringtrade_k27_eaten_by_the_log.prog) (w := w) (base := base) T A__law_low C__law_common
  have C__law_plus := Law.zmM (P := PySem.Challenge.rw_ringtrade_k27_eaten_by_the_log.prog) (w := w) (base := base) T A__law_plus C__law_low
  have C__law_best := Law.zmQ (P := PySem.Challenge.rw_ringtrade_k27_eaten_by_the_log.prog) (w := w) (base := base) T A__law_best
  have C__law_eaten_of := Law.zjh (P := PySem.Challenge.rw_ringtrade_k27_eaten_by_the_log.prog) (w := w) (base := base) T A__law_eaten_of C__law_plus
  have C__law_goes := Law.zmO (P := PySem.Challenge.rw_ringtrade_k27_eaten_by_the_log.prog) (w := w) (base := base) T A__law_goes C__law_plus C__law_best C__law_eaten_of C__law_less
  exact Law.zr6 T Fn C__law_square C__law_cell C__law_is_table C__law_goes C__law_log_form C_eaten
