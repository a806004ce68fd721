import PyProof.Rows.All
import Wide.All
import OpenK.AllK
import Wide.FinOn
import Lean
import PyProof.EqAt
import PyProof.EqKinds
import PyProof.TupleCall
import PyProof.Rows.SetFrom
import KE.KSortTup
import PyProof.Draws
import PyProof.EnumMake
import PyProof.ListRange
import PyProof.Rows.EnumRows
import PyProof.SetRoads
import PyProof.Rows.MinMaxN
import PyProof.Rows.MaxTwoN
import PySem.Challenge.RW_ringtrade_k25_whole_both_lots_alike
set_option Elab.async false
set_option linter.all false
set_option maxRecDepth 100000
set_option maxHeartbeats 4000000
section
namespace L2
open PySem PySem.Spec PyProof.Rows
noncomputable abbrev Key := Sum Int Str
noncomputable def zky : Key→Value→Bool
  | .inl k,v => Value.isInt k v
  | .inr x,v => Value.isStrOf x v
noncomputable def keyH (w : World) : Key→Int
  | .inl k => hashInt k
  | .inr x => hashStr w x
theorem keyIs_shape : ∀ {k : Key} {v : Value},zky k v = true→(∃ i t,k = Sum.inl i∧v = Value.int i t)∨(∃ x t,k = Sum.inr x∧v = Value.str x t)
  | .inl i,v,h => by
    obtain ⟨t,e⟩ := Value.isInt_shape (k := i) (v := v) h
    exact .inl ⟨i,t,rfl,e⟩
  | .inr x,v,h => by
    obtain ⟨t,e⟩ := Value.isStrOf_shape (x := x) (v := v) h
    exact .inr ⟨x,t,rfl,e⟩
theorem zlT (i : Int) (t : Tok) : zky (.inl i) (.int i t) = true := by simp [zky,Value.isInt]
theorem zlS (x : Str) (t : Tok) : zky (.inr x) (.str x t) = true := by simp [zky,Value.isStrOf]
theorem zry (a b : Int) : decide ((Sum.inl a : Key) = Sum.inl b) = (a == b) := by
  by_cases e : a = b
  · subst e; simp
  · have h : ¬ (Sum.inl a : Key) = Sum.inl b := fun q => e (Sum.inl.inj q)
    rw [decide_eq_false h]
    exact (beq_eq_false_iff_ne.mpr e).symm
theorem zrv (a b : Str) : decide ((Sum.inr a : Key) = Sum.inr b) = decide (a = b) := by
  by_cases e : a = b
  · subst e; simp
  · have h : ¬ (Sum.inr a : Key) = Sum.inr b := fun q => e (Sum.inr.inj q)
    rw [decide_eq_false h,decide_eq_false e]
theorem zrx (a : Int) (b : Str) : decide ((Sum.inl a : Key) = Sum.inr b) = false := decide_eq_false (fun q => nomatch q)
theorem zrw (a : Str) (b : Int) : decide ((Sum.inr a : Key) = Sum.inl b) = false := decide_eq_false (fun q => nomatch q)
noncomputable def zbb (prog : Program) (w : World) : PySem.KeyKind prog w Key where
  is := zky
  hash := keyH w
  inj := fun v a b ha hb => by
    rcases keyIs_shape ha with ⟨i,t,rfl,rfl⟩ | ⟨x,t,rfl,rfl⟩
    · rcases keyIs_shape hb with ⟨j,u,rfl,e⟩ | ⟨y,u,rfl,e⟩
      · injection e with e1 _; rw [e1]
      · exact nomatch e
    · rcases keyIs_shape hb with ⟨j,u,rfl,e⟩ | ⟨y,u,rfl,e⟩
      · exact nomatch e
      · injection e with e1 _; rw [e1]
  byValue := fun k v h => by
    rcases keyIs_shape h with ⟨i,t,rfl,rfl⟩ | ⟨x,t,rfl,rfl⟩ <;> rfl
  pyHash := fun hv h => by
    rcases keyIs_shape hv with ⟨i,t,rfl,rfl⟩ | ⟨x,t,rfl,rfl⟩
    · exact wpAny_pyHash_int h
    · exact wpAny_pyHash_str h
  eqBool := fun hu hv h => by
    rcases keyIs_shape hu with ⟨i,t,rfl,rfl⟩ | ⟨x,t,rfl,rfl⟩
    · rcases keyIs_shape hv with ⟨j,u,rfl,rfl⟩ | ⟨y,u,rfl,rfl⟩
      · rw [zry] at h; exact wpAny_eqBool_int h
      · rw [zrx] at h; exact SeqAt.EqAt.int_str i t y u _ _ _ _ h
    · rcases keyIs_shape hv with ⟨j,u,rfl,rfl⟩ | ⟨y,u,rfl,rfl⟩
      · rw [zrw] at h; exact SeqAt.EqAt.str_int x t j u _ _ _ _ h
      · rw [zrv] at h; exact wpAny_eqBool_str h
  «strs» := fun k x t v h => by
    rcases keyIs_shape h with ⟨i,u,rfl,e⟩ | ⟨y,u,rfl,e⟩
    · exact nomatch e
    · injection e with e1 _
      subst e1
      cases v <;> rfl
theorem ziU (prog : Program) (w : World) (i : Int) (t : Tok) : (zbb prog w).is (.inl i) (.int i t) = true := zlT i t
theorem ziT (prog : Program) (w : World) (x : Str) (t : Tok) : (zbb prog w).is (.inr x) (.str x t) = true := zlS x t
end L2
namespace L2
open PySem PySem.Spec PyProof.Rows
inductive V where
  | non | bl (b : Bool) | int (i : Int) | str (x : Str) | byt (b : Array UInt8) | flt (b : UInt64) | ref (a : Addr) | ty (n : String)
  deriving DecidableEq
noncomputable def RelV : V→Value→Prop
  | .non,u => u = Value.none
  | .bl b,u => u = Value.bool b
  | .int i,u => ∃ t,u = Value.int i t
  | .str x,u => ∃ t,u = Value.str x t
  | .byt b,u => ∃ t,u = Value.bytes b t
  | .flt b,u => ∃ t,u = Value.float b t
  | .ref a,u => u = Value.ref a
  | .ty n,u => u = Value.type n
noncomputable abbrev Vals : List V→List Value→Prop := Paired RelV
theorem Vals.length {xs : List V} {us : List Value} (r : Vals xs us) : xs.length = us.length := Paired.length r
theorem Vals.get : ∀ {xs : List V} {us : List Value} {i : Nat} {x : V},Vals xs us→xs[i]? = some x→∃ u,us[i]? = some u∧RelV x u
  | _,_,_,_,.nil,e => by simp at e
  | _,_,0,_,.cons r _,e => by simp at e; subst e; exact ⟨_,rfl,r⟩
  | _,_,i + 1,x,.cons _ t,e => by
    obtain ⟨u,h1,h2⟩ := Vals.get (i := i) (x := x) t (by simpa using e)
    exact ⟨u,by simpa using h1,h2⟩
theorem Vals.set {x : V} {u : Value} (r : RelV x u) : ∀ {xs : List V} {us : List Value} (i : Nat),Vals xs us→Vals (xs.set i x) (us.set i u)
  | _,_,_,.nil => .nil
  | _,_,0,.cons _ t => .cons r t
  | _,_,i + 1,.cons q t => .cons q (Vals.set r i t)
theorem Vals.append {xs ys : List V} {us ws : List Value} (h : Vals xs us) (s : Vals ys ws) : Vals (xs++ys) (us++ws) := by
  induction h with
  | nil => exact s
  | cons r _ ih => exact .cons r ih
theorem Vals.take : ∀ {xs : List V} {us : List Value} (n : Nat),Vals xs us→Vals (xs.take n) (us.take n)
  | _,_,0,_ => .nil
  | _,_,_ + 1,.nil => .nil
  | _,_,n + 1,.cons r t => .cons r (Vals.take n t)
theorem Vals.drop : ∀ {xs : List V} {us : List Value} (n : Nat),Vals xs us→Vals (xs.drop n) (us.drop n)
  | _,_,0,r => r
  | _,_,_ + 1,.nil => .nil
  | _,_,n + 1,.cons _ t => Vals.drop n t
noncomputable def RelO : Option V→Option Value→Prop
  | some v,some u => RelV v u
  | none,none => True
  | _,_ => False
noncomputable def KV {κ : Type} : List (κ × V)→List (κ × Value)→Prop := Paired fun (p : κ × V) (q : κ × Value) => p.1 = q.1∧RelV p.2 q.2
noncomputable def kV : Key→V
  | .inl i => .int i
  | .inr x => .str x
inductive HO where
  | lst (xs : List V)
  | tup (xs : List V)
  | dK (kvs : List (Key × V)) | dT (kvs : List (List Key × V))
  | set (S : Int→Bool) (n : Nat)
  | ins (C dx : Addr) (fs : List (Str × V))
  | own (x : Addr)
  | xd (fs : List (Str × V))
  | met (f x : Addr)
  | rng (lo hi : Int)
  | frz (o : Obj) (u : HO)
  | tbl (ps : Array Value)
  | ext (φ : Heap→Prop)
noncomputable abbrev Hp := Addr→Option HO
noncomputable def upd (H : Hp) (a : Addr) (o : HO) : Hp := fun b => if b = a then some o else H b
theorem zam {H : Hp} {a : Addr} {o : HO} : upd H a o a = some o := by unfold upd; rw [if_pos rfl]
theorem zay {H : Hp} {a b : Addr} {o : HO} (h : b≠a) : upd H a o b = H b := by unfold upd; rw [if_neg h]
theorem zsR {H : Hp} {a b : Addr} {o u : HO} (h : H a = some o) (h' : H b = some u) (d : o≠u) : a≠b := by
  intro e; subst e; rw [h] at h'; exact d (Option.some.inj h')
theorem zbB {H : Hp} {a b : Addr} {o : HO} (h : H a = some o) (h' : H b = none) : a≠b := by
  intro e; subst e; rw [h] at h'; cases h'
section
variable (P : Program) (w : World)
noncomputable def zaU (H : Hp) (h : Heap) (a : Addr) : HO→Prop
  | .lst xs => xs.length≤sizeLine∧∃ (its : List Value) (n : Nat),Vals xs its∧h.get? a = some { cls := .type "list",data := .seq its.toArray n }
  | .tup xs => xs.length≤sizeLine∧∃ its : List Value,Vals xs its∧IsTup h a its.toArray∧∃ o,h.get? a = some o∧o.dict = none
  | .dK kvs => kvs.length≤sizeLine∧(a == sysModules) = false∧∃ vs,KV kvs vs∧h.DictOf (zbb P w) a vs
  | .dT kvs => kvs.length≤sizeLine∧(a == sysModules) = false∧∃ xs : List (List Key × Addr × Value),
      Paired (fun (p : List Key × V) (q : List Key × Addr × Value) => p.1 = q.1∧H q.2.1 = some (.tup (p.1.map kV))∧RelV p.2 q.2.2) kvs xs ∧
      ∃ o es ep,h.get? a = some o∧o.ExactDict∧o.data = .dict es ep∧es.toList = xs.map (entryOfKey (tupleKind (zbb P w)))∧(xs.map (·.1)).Nodup
  | .set S n => h.SetOf (intKind P w) a S n
  | .ins C dx fs => H dx = some (.own a)∧fs.length≤1000∧dx≠a∧h.get? a = some (PySem.W.instObj C dx) ∧
      ∃ mA,h.Ns1 dx mA∧(∀ f,RelO (fs.lookup f) (mA f))∧PySem.Within mA (fs.map (·.1))
  | .own _ => ∃ o,h.get? a = some o
  | .xd fs => ∃ mA,h.Ns1 a mA∧∀ f,RelO (fs.lookup f) (mA f)
  | .rng lo hi => ∃ t u v,h.get? a = some { cls := .type "range",data := .fields #[.int lo t,.int hi u,.int 1 v] }
  | .frz o u => h.get? a = some o∧zaU H h a u
  | .tbl ps => h.get? a = some { cls := .none,data := .fields ps }
  | .met f x => h.get? a = some (PySem.W.methodObj (.ref f) (.ref x))
  | .ext φ => φ h∧(∃ o,h.get? a = some o)∧∀ h1 h2 : Heap,φ h1→(∀ o,h1.get? a = some o→h2.get? a = some o)→φ h2
noncomputable def HOk (H : Hp) (h : Heap) : Prop := ∀ a o,H a = some o→zaU P w H h a o
end
section
variable {P : Program} {w : World} {H H' : Hp} {h h' : Heap} {a : Addr} {o : HO}
theorem zaU.lt (x : zaU P w H h a o) : a < h.objs.size := by
  cases o with
  | lst xs => obtain ⟨_,_,_,_,e⟩ := x; exact Heap.lt_size e
  | tup xs => obtain ⟨_,_,_,p,_⟩ := x; exact p.lt
  | dK kvs => obtain ⟨_,_,_,_,o,_,_,e,_⟩ := x; exact Heap.lt_size e
  | dT kvs => obtain ⟨_,_,_,_,o,_,_,e,_⟩ := x; exact Heap.lt_size e
  | set S n => obtain ⟨o,_,_,_,e,_⟩ := x; exact Heap.lt_size e
  | ins C dx fs => obtain ⟨_,_,_,e,_⟩ := x; exact Heap.lt_size e
  | own y => obtain ⟨_,e⟩ := x; exact Heap.lt_size e
  | xd fs => obtain ⟨_,⟨_,_,_,e,_⟩,_⟩ := x; exact Heap.lt_size e
  | rng lo hi => obtain ⟨_,_,_,e⟩ := x; exact Heap.lt_size e
  | frz ob u => obtain ⟨e,_⟩ := x; exact Heap.lt_size e
  | tbl ps => exact Heap.lt_size (show h.get? a = some _ from x)
  | met f y => exact Heap.lt_size (show h.get? a = some _ from x)
  | ext φ => obtain ⟨_,⟨_,e⟩,_⟩ := x; exact Heap.lt_size e
theorem Paired.mapP {α β : Type} {F G : α→β→Prop} {l₁ : List α} {l₂ : List β} (r : Paired F l₁ l₂) (f : ∀ a b,F a b→G a b) : Paired G l₁ l₂ := by
  induction r with
  | nil => exact .nil
  | cons r _ ih => exact .cons (f _ _ r) ih
theorem zaU.stay (x : zaU P w H h a o) (k : ∀ b u,(b = a∨H b = some (.own a))→h.get? b = some u→h'.get? b = some u)
    (ho : ∀ b,H b = some (.own a)→H' b = some (.own a)) (ht : ∀ b xs,H b = some (.tup xs)→H' b = some (.tup xs)) : zaU P w H' h' a o := by
  induction o with
  | lst xs => obtain ⟨z,its,n,r,e⟩ := x; exact ⟨z,its,n,r,k _ _ (.inl rfl) e⟩
  | tup xs => obtain ⟨z,its,r,⟨ob,e,c⟩,ob2,e2,c2⟩ := x; exact ⟨z,its,r,⟨ob,k _ _ (.inl rfl) e,c⟩,ob2,k _ _ (.inl rfl) e2,c2⟩
  | dK kvs => obtain ⟨z,y,vs,r,ob,es,ep,e,c⟩ := x; exact ⟨z,y,vs,r,ob,es,ep,k _ _ (.inl rfl) e,c⟩
  | dT kvs =>
    obtain ⟨z,y,xs,r,ob,es,ep,e,c⟩ := x
    exact ⟨z,y,xs,Paired.mapP r fun p q z => ⟨z.1,ht _ _ z.2.1,z.2.2⟩,ob,es,ep,k _ _ (.inl rfl) e,c⟩
  | set S n => obtain ⟨ob,es,ep,t,e,c⟩ := x; exact ⟨ob,es,ep,t,k _ _ (.inl rfl) e,c⟩
  | ins C dx fs =>
    obtain ⟨d,z,ne,e,mA,⟨od,es,ep,e2,c⟩,r⟩ := x
    exact ⟨ho _ d,z,ne,k _ _ (.inl rfl) e,mA,⟨od,es,ep,k _ _ (.inr d) e2,c⟩,r⟩
  | own y => obtain ⟨ob,e⟩ := x; exact ⟨ob,k _ _ (.inl rfl) e⟩
  | xd fs => obtain ⟨mA,⟨od,es,ep,e,c⟩,r⟩ := x; exact ⟨mA,⟨od,es,ep,k _ _ (.inl rfl) e,c⟩,r⟩
  | rng lo hi => obtain ⟨t,u,v,e⟩ := x; exact ⟨t,u,v,k _ _ (.inl rfl) e⟩
  | frz ob u ih => obtain ⟨e,q⟩ := x; exact ⟨k _ _ (.inl rfl) e,ih q⟩
  | tbl ps =>
    have e : h.get? a = some { cls := .none,data := .fields ps } := x
    show h'.get? a = some { cls := .none,data := .fields ps }
    exact k a _ (.inl rfl) e
  | met f y =>
    have e : h.get? a = some (PySem.W.methodObj (.ref f) (.ref y)) := x
    show h'.get? a = some (PySem.W.methodObj (.ref f) (.ref y))
    exact k a _ (.inl rfl) e
  | ext φ => obtain ⟨p,⟨o,e⟩,st⟩ := x; exact ⟨st _ _ p fun o q => k _ _ (.inl rfl) q,⟨o,k _ _ (.inl rfl) e⟩,st⟩
theorem HOk.lt (x : HOk P w H h) (e : H a = some o) : a < h.objs.size := (x a o e).lt
theorem HOk.fresh (x : HOk P w H h) (e : h.objs.size≤a) : H a = none := by
  cases q : H a with
  | none => rfl
  | some u => exact absurd (Nat.lt_of_lt_of_le (x.lt q) e) (Nat.lt_irrefl _)
theorem HOk.kept (x : HOk P w H h) (k : ∀ b u,h.get? b = some u→h'.get? b = some u) : HOk P w H h' := fun a o e =>
  (x a o e).stay (fun b u _ q => k b u q) (fun _ q => q) fun _ _ q => q
theorem HOk.laid (x : HOk P w H h) (k : ∀ b u,h.get? b = some u→h'.get? b = some u) (hp : h.objs.size≤a) (new : zaU P w (upd H a o) h' a o) : HOk P w (upd H a o) h' := fun b u e => by
  have hn := x.fresh hp
  by_cases hb : b = a
  · subst hb; rw [zam] at e; cases e; exact new
  · rw [zay hb] at e
    exact (x b u e).stay (fun c v _ q => k c v q) (fun c q => by rw [zay (zbB q hn)]; exact q) fun c xs q => by rw [zay (zbB q hn)]; exact q
end
noncomputable def Rd (H : Hp) (a : Addr) (u : HO) : Prop := H a = some u∨∃ o,H a = some (.frz o u)
theorem Rd.ok {P : Program} {w : World} {H : Hp} {h : Heap} {a : Addr} {u : HO} (r : Rd H a u) (x : HOk P w H h) : zaU P w H h a u := by
  rcases r with r | ⟨o,r⟩
  · exact x a u r
  · obtain ⟨_,q⟩ := x a _ r
    exact q
noncomputable def Mut : Option HO→Prop
  | some (.lst _) => True
  | some (.dK _) => True
  | some (.dT _) => True
  | some (.set _ _) => True
  | some (.ins _ _ _) => True
  | some (.ext _) => True
  | _ => False
section
variable {P : Program} {w : World} {H : Hp} {h h' : Heap} {x e : Addr} {o' : HO}
theorem HOk.write (ok : HOk P w H h) (mu : Mut (H x)) (he : e = x∨H e = some (.own x)) (k : ∀ b u,b≠e→h.get? b = some u→h'.get? b = some u) (heo : ∃ u,h'.get? e = some u)
    (new : zaU P w (upd H x o') h' x o') : HOk P w (upd H x o') h' := fun b u q => by
  have nown : ∀ c y,H c = some (.own y)→c≠x := fun c y r z => by subst z; rw [r] at mu; exact mu
  have ntup : ∀ c xs,H c = some (.tup xs)→c≠x := fun c xs r z => by subst z; rw [r] at mu; exact mu
  by_cases hb : b = x
  · subst hb; rw [zam] at q; cases q; exact new
  · rw [zay hb] at q
    by_cases hbe : b = e
    · have q' : H b = some (.own x) := by
        rcases he with z | z
        · exact absurd (hbe.trans z) hb
        · rw [hbe]; exact z
      rw [q] at q'; cases q'
      obtain ⟨v,hv⟩ := heo
      exact ⟨v,by rw [hbe]; exact hv⟩
    · refine (ok b u q).stay (fun c v hc r => k c v ?_ r) (fun c r => by rw [zay (nown c b r)]; exact r) fun c xs r => by rw [zay (ntup c xs r)]; exact r
      rcases hc with rfl | hc
      · exact hbe
      · rintro rfl
        rcases he with z | z
        · exact nown c b hc z
        · rw [hc] at z; cases z; exact hb rfl
end
structure Un (fs ex : List Addr) (H H' : Hp) (h h' : Heap) : Prop where
  keep : ∀ b o,h.get? b = some o→H b = none→b∉fs→b∉ex→h'.get? b = some o
  slot : ∀ b o,h.get? b = some o→H b = none→b∈fs→b∉ex→∃ sl,h'.get? b = some { o with slots := sl }
  free : ∀ b o,h.get? b = some o→H b = none→b∉ex→H' b = none
  there : ∀ b o,h.get? b = some o→b∉ex→∃ o',h'.get? b = some o'
  tups : ∀ b xs,H b = some (.tup xs)→H' b = some (.tup xs)
  frzs : ∀ b o u,H b = some (.frz o u)→H' b = some (.frz o u)
  tbls : ∀ b ps,H b = some (.tbl ps)→∃ more,H' b = some (.tbl (ps++more))
section
variable {fs fs' ex ex' : List Addr} {H H1 H2 : Hp} {h h1 h2 h' : Heap} {a x e : Addr} {o : HO}
theorem Un.any (u : Un fs ex H H1 h h1) {b : Addr} {ob : Obj} (q : h.get? b = some ob) (n : H b = none) (hx : b∉ex) : ∃ sl,h1.get? b = some { ob with slots := sl } := by
  by_cases hb : b∈fs
  · exact u.slot b ob q n hb hx
  · exact ⟨ob.slots,u.keep b ob q n hb hx⟩
theorem Un.kept (k : ∀ b u,h.get? b = some u→h'.get? b = some u) : Un fs ex H H h h' :=
  ⟨fun b ob q _ _ _ => k b ob q,fun b ob q _ _ _ => ⟨ob.slots,k b ob q⟩,fun _ _ _ n _ => n,fun b ob q _ => ⟨ob,k b ob q⟩,fun _ _ q => q,fun _ _ _ q => q,fun _ ps q => ⟨#[],by rw [q]; simp⟩⟩
theorem Un.refl : Un fs ex H H h h := Un.kept fun _ _ q => q
theorem Un.laid (k : ∀ b u,h.get? b = some u→h'.get? b = some u) (hp : h.objs.size≤a) (hn : H a = none) : Un fs ex H (upd H a o) h h' where
  keep := fun b u q _ _ _ => k b u q
  slot := fun b u q _ _ _ => ⟨u.slots,k b u q⟩
  free := fun b u q n _ => by rw [zay (Nat.ne_of_lt (Nat.lt_of_lt_of_le (Heap.lt_size q) hp))]; exact n
  there := fun b u q _ => ⟨u,k b u q⟩
  tups := fun b xs q => by rw [zay (zbB q hn)]; exact q
  frzs := fun b u xs q => by rw [zay (zbB q hn)]; exact q
  tbls := fun b ps q => ⟨#[],by rw [zay (zbB q hn),q]; simp⟩
theorem Un.write (mu : Mut (H x)) (he : e = x∨H e = some (.own x)) (k : ∀ b u,b≠e→h.get? b = some u→h'.get? b = some u) (heo : ∃ u,h'.get? e = some u) : Un fs ex H (upd H x o) h h' := by
  have hx : ∀ b,H b = none→b≠x := fun b n z => by subst z; rw [n] at mu; exact mu
  have hb : ∀ b,H b = none→b≠e := fun b n z => by
    subst z
    rcases he with r | r
    · exact hx b n r
    · rw [n] at r; cases r
  have hm : ∀ b u,H b = some u→¬ Mut (some u)→b≠x := fun b u q nm z => by subst z; rw [q] at mu; exact nm mu
  refine ⟨fun b u q n _ _ => k b u (hb b n) q,fun b u q n _ _ => ⟨u.slots,k b u (hb b n) q⟩,fun b u q n _ => by rw [zay (hx b n)]; exact n,fun b u q _ => ?_,
    fun b xs q => by rw [zay (hm b _ q fun z => z)]; exact q,fun b u xs q => by rw [zay (hm b _ q fun z => z)]; exact q,fun b ps q => ⟨#[],by rw [zay (hm b _ q fun z => z),q]; simp⟩⟩
  by_cases hbe : b = e
  · subst hbe; exact heo
  · exact ⟨u,k b u hbe q⟩
end
noncomputable def trk (h : Heap) (H : Hp) : List Addr := (List.range h.objs.size).filter fun a => (H a).isSome
noncomputable def hidT (h : Heap) (H : Hp) : Heap := PySem.W.hideAll h (trk h H)
theorem zl6 (h : Heap) (H : Hp) : (hidT h H).objs.size = h.objs.size := PySem.W.hideAll_size _ _
theorem znE {h : Heap} {H : Hp} {b : Addr} {o : Obj} (e : h.get? b = some o) (n : H b = none) : (hidT h H).get? b = some o :=
  PySem.W.hideAll_get _ e fun hm => by
    have q : (H b).isSome = true := (List.mem_filter.mp hm).2
    rw [n] at q; simp at q
theorem zpu {h : Heap} {H : Hp} {b : Addr} {o : Obj} (e : (hidT h H).get? b = some o) : h.get? b = some o∧H b = none := by
  have e' : h.get? b = some o := PySem.W.of_hideAll (trk h H) e
  refine ⟨e',?_⟩
  cases q : H b with
  | none => rfl
  | some x =>
    have hm : b∈trk h H := List.mem_filter.mpr ⟨List.mem_range.mpr (Heap.lt_size e'),by simp [q]⟩
    have z : (hidT h H).get? b = none := PySem.W.hideAll_none (trk h H) hm
    rw [z] at e; cases e
noncomputable def zgp (g h : Heap) (L : Addr) : List (Addr × Obj) := (List.range h.objs.size).filterMap fun a => if a = L∨(g.get? a).isSome = true then none else (h.get? a).map fun o => (a,o)
theorem zf9 {g h : Heap} {L a : Addr} {o : Obj} (h1 : a≠L) (h2 : g.get? a = none) (h3 : h.get? a = some o) : (a,o)∈zgp g h L :=
  List.mem_filterMap.mpr ⟨a,List.mem_range.mpr (Heap.lt_size h3),by simp [h1,h2,h3]⟩
theorem zgz {g h : Heap} {L : Addr} {p : Addr × Obj} (hp : p∈zgp g h L) : p.1≠L∧g.get? p.1 = none∧h.get? p.1 = some p.2 := by
  obtain ⟨b,_,e⟩ := List.mem_filterMap.mp hp
  split at e
  · cases e
  · rename_i hn
    cases q : h.get? b with
    | none => rw [q] at e; simp at e
    | some u =>
      rw [q] at e
      simp only [Option.map_some,Option.some.injEq] at e
      subst e
      refine ⟨fun z => hn (.inl z),?_,q⟩
      show g.get? b = none
      cases r : g.get? b with
      | none => rfl
      | some v => exact (hn (.inr (by simp [r]))).elim
noncomputable def rest (g h : Heap) (L d : Addr) : List (Addr × Obj) := (zgp g h L).filter fun p => decide (p.1≠d)
theorem znt {g h : Heap} {L : Addr} : News g L h (zgp g h L) := fun p hp => let ⟨a,b,c⟩ := zgz hp; ⟨c,a,b⟩
end L2
namespace L2
open PySem PySem.Spec PyProof.Rows
structure Mod (K : PySem.W.Frag) (mg : Str→Option Value) (base : Heap) : Prop where
  kin : K.In base
  glob : base.Ns mainGlobals mg
  blt : ∃ mb,base.Ns builtinsNs mb∧∀ x : Str,x≠"__name__"→mb x = bootBuiltins x
  nolimit : base.NoLimit
structure Cx where
  prog : Program
  w : World
  K : PySem.W.Frag
  mg : Str→Option Value
  base : Heap
  A : Around
  N : List Str
  s₀ : Shared
  H₀ : Hp
  env : Env
  outer : List Env
  stack : List Env
  ex : List Addr
  fn : Str→Bool
  calm : Bool
  pn : List (Addr × Obj)
  xe : Value→Shared→Prop
noncomputable def frs (l : List Env) : List Addr := l.filterMap (·.frame)
noncomputable abbrev Cx.fs (X : Cx) : List Addr := frs X.outer
noncomputable def Vis (sc : Scope) (x : Str) : Prop := sc.names.lookup x = some .local∨sc.names.lookup x = some .cell∨sc.names.lookup x = some .free
noncomputable def Loc (sc : Scope) (x : Str) : Prop := sc.names.lookup x = some .local∨sc.names.lookup x = some .cell
noncomputable def Look (env : Env) (h : Heap) (m : Str→Option Value) (x : Str) (u : Value) : Prop :=
  (env.kindOf x = some .local∧m x = some u)∨((env.kindOf x = some .cell∨env.kindOf x = some .free)∧∃ c,env.cells.lookup x = some c∧h.IsCell c (some u))
structure Cx.Ok (X : Cx) : Prop where
  mod : Mod X.K X.mg X.base
  kind : X.env.scope.kind = .function
  glob : X.env.globals = mainGlobals
  blt : X.env.builtins = builtinsNs
  above : X.s₀.heap.objs.size≤X.env.locals
  inj : ∀ x y c,X.env.cells.lookup x = some c→X.env.cells.lookup y = some c→x = y
  has : ∀ x,(X.env.kindOf x = some .cell∨X.env.kindOf x = some .free)→∃ c,X.env.cells.lookup x = some c
  cab : ∀ x c,X.fn x = true→X.env.cells.lookup x = some c→X.s₀.heap.objs.size≤c
  hd : X.calm = true→X.A.handled = none
  frames : X.A.frames = some X.stack
  stk : X.stack = X.outer∨(X.stack = X.env::X.outer∧X.env.frame = some X.env.locals)
  exf : ∀ b∈X.ex,b≠X.env.locals∧∀ x c,X.env.cells.lookup x = some c→c≠b
  bs : ∀ b o,X.base.get? b = some o→X.s₀.heap.get? b = some o∧X.H₀ b = none
  bsz : X.base.objs.size≤X.s₀.heap.objs.size
  noex : ∀ b o,X.base.get? b = some o→b∉X.ex
  exfs : ∀ b∈X.ex,b∉X.fs
  funs : X.s₀.heap.FunFrames X.base X.outer
  frf : ∀ b∈X.fs,X.H₀ b = none
structure Inv (X : Cx) (pins : List (Addr × Obj)) (σ : List (Option V)) (H : Hp) (s : Shared) : Prop where
  ok : X.Ok
  os : s.os = X.s₀.os
  bare : AllBare s.gens
  base : Un X.fs X.ex X.H₀ H X.s₀.heap s.heap
  loc : ∃ m,s.heap.Ns X.env.locals m∧∀ (i : Nat) (x : Str) (v : V),X.N[i]? = some x→σ[i]? = some (some v)→Vis X.env.scope x→∃ u,RelV v u∧Look X.env s.heap m x u
  cell : ∀ x c,X.env.cells.lookup x = some c→∃ v,s.heap.IsCell c v
  free : H X.env.locals = none
  freeC : ∀ x c,X.env.cells.lookup x = some c→H c = none
  pin : ∀ p∈X.pn++pins,s.heap.get? p.1 = some p.2∧H p.1 = none∧p.1≠X.env.locals∧p.1∉X.fs∧∀ v,p.2.data≠.cell v
  hok : HOk X.prog X.w H s.heap
  len : σ.length = X.N.length
section
variable {X : Cx} {pins : List (Addr × Obj)} {σ : List (Option V)} {H H' : Hp} {s : Shared} {h' : Heap}
theorem Cx.Ok.nofr (ok : X.Ok) {b : Addr} {o : Obj} (e : X.base.get? b = some o) : b∉X.fs := fun hb => by
  have := (ok.funs.mem hb).1
  rw [e] at this; cases this
theorem Inv.bs (I : Inv X pins σ H s) : ∀ b o,X.base.get? b = some o→s.heap.get? b = some o∧H b = none := fun b o e =>
  ⟨I.base.keep b o (I.ok.bs b o e).1 (I.ok.bs b o e).2 (I.ok.nofr e) (I.ok.noex b o e),I.base.free b o (I.ok.bs b o e).1 (I.ok.bs b o e).2 (I.ok.noex b o e)⟩
theorem Inv.bk (I : Inv X pins σ H s) : ∀ b o,X.base.get? b = some o→s.heap.get? b = some o := fun b o e => (I.bs b o e).1
theorem Inv.mod (I : Inv X pins σ H s) : Mod X.K X.mg X.base := I.ok.mod
theorem Inv.kIn (I : Inv X pins σ H s) : X.K.In s.heap := I.ok.mod.kin.keeps I.bk
theorem Inv.nolimit (I : Inv X pins σ H s) : s.heap.NoLimit := I.ok.mod.nolimit.keeps I.bk
theorem Inv.fr (I : Inv X pins σ H s) : ∃ m,Fr X.base X.env.locals s.heap m :=
  let ⟨m,hn,_⟩ := I.loc
  ⟨m,hn,I.bk,Nat.le_trans I.ok.bsz I.ok.above⟩
theorem Inv.lt (I : Inv X pins σ H s) : X.env.locals < s.heap.objs.size := let ⟨_,hn,_⟩ := I.loc; hn.lt
theorem Inv.sz (I : Inv X pins σ H s) : X.s₀.heap.objs.size≤s.heap.objs.size := Nat.le_trans I.ok.above (Nat.le_of_lt I.lt)
theorem Inv.nofs (I : Inv X pins σ H s) {a : Addr} (h : s.heap.objs.size≤a) : a∉X.fs := fun hb => by
  obtain ⟨_,o,ho,_⟩ := I.ok.funs.mem hb
  exact absurd (Nat.lt_of_lt_of_le (Heap.lt_size ho) (Nat.le_trans I.sz h)) (Nat.lt_irrefl _)
theorem Inv.cne (I : Inv X pins σ H s) : ∀ x c,X.env.cells.lookup x = some c→c≠X.env.locals := fun x c e z => by
  obtain ⟨v,o,ho,hd⟩ := I.cell x c e
  obtain ⟨m,⟨o',es,ep,ho',hd',_⟩,_⟩ := I.loc
  rw [z,ho'] at ho; cases ho; rw [hd'] at hd; cases hd
theorem Inv.funs (I : Inv X pins σ H s) : s.heap.FunFrames X.base X.outer := by
  have all : ∀ (l : List Env),(∀ b∈frs l,b∈X.fs)→X.s₀.heap.FunFrames X.base l→s.heap.FunFrames X.base l := by
    intro l
    induction l with
    | nil => intro _ _; trivial
    | cons env r ih =>
      intro hs hl
      obtain ⟨hk,⟨L,o,hf,hn,ho,hd⟩,hr⟩ := hl
      have hL : L∈X.fs := hs L (by unfold frs; rw [List.filterMap_cons,hf]; exact List.mem_cons_self)
      obtain ⟨sl,e⟩ := I.base.slot L o ho (I.ok.frf L hL) hL fun z => I.ok.exfs L z hL
      exact ⟨hk,⟨L,_,hf,hn,e,hd⟩,ih (fun b hb => hs b (by unfold frs; rw [List.filterMap_cons,hf]; exact List.mem_cons_of_mem _ hb)) hr⟩
  exact all X.outer (fun _ hb => hb) I.ok.funs
theorem Inv.stack (I : Inv X pins σ H s) : s.heap.FunFrames X.base X.stack := by
  rcases I.ok.stk with e | ⟨e,hf⟩
  · rw [e]; exact I.funs
  · rw [e]
    obtain ⟨m,hn,_⟩ := I.loc
    refine .cons (by rw [I.ok.kind]; decide) hf hn ?_ I.funs
    exact Heap.get?_none_of_le (Nat.le_trans I.ok.bsz I.ok.above)
theorem Inv.stkSub (I : Inv X pins σ H s) : ∀ b∈frs X.stack,b∈X.env.locals::X.fs := fun b hb => by
  rcases I.ok.stk with e | ⟨e,hf⟩
  · rw [e] at hb; exact List.mem_cons_of_mem _ hb
  · rw [e] at hb
    unfold frs at hb
    rw [List.filterMap_cons,hf] at hb
    exact hb
theorem Inv.stkFree (I : Inv X pins σ H s) : ∀ b∈frs X.stack,H b = none := fun b hb => by
  rcases List.mem_cons.mp (I.stkSub b hb) with e | hb
  · rw [e]; exact I.free
  · obtain ⟨_,o,ho,_⟩ := I.ok.funs.mem hb
    exact I.base.free b o ho (I.ok.frf b hb) fun z => I.ok.exfs b z hb
theorem Inv.step {g' : Array GenState} {t' : Nat} {d' : Drawn} {ch : List Addr} (I : Inv X pins σ H s)
    (hch : ∀ b∈ch,(b∈X.ex∨X.s₀.heap.objs.size≤b)∧b≠X.env.locals∧(∀ x c,X.env.cells.lookup x = some c→c≠b)∧∀ p∈X.pn++pins,p.1≠b)
    (keep : ∀ b o,b≠X.env.locals→b∉X.fs→b∉ch→s.heap.get? b = some o→H b = none→h'.get? b = some o)
    (slot : ∀ b o,b≠X.env.locals→b∈X.fs→b∉ch→s.heap.get? b = some o→H b = none→∃ sl,h'.get? b = some { o with slots := sl }) (free : ∀ b o,b∉ch→s.heap.get? b = some o→H b = none→H' b = none)
    (there : ∀ b o,b∉ch→s.heap.get? b = some o→∃ o',h'.get? b = some o')
    (tups : ∀ b xs,H b = some (.tup xs)→H' b = some (.tup xs)) (frzs : ∀ b o u,H b = some (.frz o u)→H' b = some (.frz o u)) (tbls : ∀ b ps,H b = some (.tbl ps)→∃ more,H' b = some (.tbl (ps++more)))
    (ns : ∀ m,s.heap.Ns X.env.locals m→h'.Ns X.env.locals m) (hok : HOk X.prog X.w H' h') (hg : AllBare g') :
    Inv X pins σ H' { s with heap := h',gens := g',drawn := d',toks := t' } := by
  have neL : ∀ b o,X.s₀.heap.get? b = some o→b≠X.env.locals := fun b o e => Nat.ne_of_lt (Nat.lt_of_lt_of_le (Heap.lt_size e) I.ok.above)
  have neC : ∀ b o,X.s₀.heap.get? b = some o→b∉X.ex→b∉ch := fun b o e hx hb => by
    rcases (hch b hb).1 with z | z
    · exact hx z
    · exact absurd (Nat.lt_of_lt_of_le (Heap.lt_size e) z) (Nat.lt_irrefl _)
  have cellK : ∀ x c,X.env.cells.lookup x = some c→∀ v,s.heap.IsCell c v→h'.IsCell c v := fun x c e v ⟨o,ho,hd⟩ => by
    have nch : c∉ch := fun z => (hch c z).2.2.1 x c e rfl
    by_cases hc : c∈X.fs
    · obtain ⟨sl,q⟩ := slot c o (I.cne x c e) hc nch ho (I.freeC x c e)
      exact ⟨_,q,hd⟩
    · exact ⟨o,keep c o (I.cne x c e) hc nch ho (I.freeC x c e),hd⟩
  refine ⟨I.ok,I.os,hg,⟨fun b o e n hb hx => ?_,fun b o e n hb hx => ?_,fun b o e n hx => ?_,fun b o e hx => ?_,fun b xs e => tups b xs (I.base.tups b xs e),fun b o xs e => frzs b o xs (I.base.frzs b o xs e),fun b ps e => ?_⟩,?_,fun x c e => ?_,?_,fun x c e => ?_,fun p hp => ?_,hok,I.len⟩
  · exact keep b o (neL b o e) hb (neC b o e hx) (I.base.keep b o e n hb hx) (I.base.free b o e n hx)
  · obtain ⟨sl,e1⟩ := I.base.slot b o e n hb hx
    obtain ⟨sl',e2⟩ := slot b _ (neL b o e) hb (neC b o e hx) e1 (I.base.free b o e n hx)
    exact ⟨sl',e2⟩
  · obtain ⟨o',e1⟩ := I.base.there b o e hx
    exact free b o' (neC b o e hx) e1 (I.base.free b o e n hx)
  · obtain ⟨o',e1⟩ := I.base.there b o e hx
    exact there b o' (neC b o e hx) e1
  · obtain ⟨m1,e1⟩ := I.base.tbls b ps e
    obtain ⟨m2,e2⟩ := tbls b _ e1
    exact ⟨m1++m2,by rw [e2,Array.append_assoc]⟩
  · obtain ⟨m,hn,hl⟩ := I.loc
    refine ⟨m,ns m hn,fun i x v e1 e2 e3 => ?_⟩
    obtain ⟨u,r,l⟩ := hl i x v e1 e2 e3
    refine ⟨u,r,?_⟩
    rcases l with l | ⟨k,c,e,z⟩
    · exact .inl l
    · exact .inr ⟨k,c,e,cellK x c e _ z⟩
  · obtain ⟨v,z⟩ := I.cell x c e
    exact ⟨v,cellK x c e v z⟩
  · obtain ⟨m,⟨o,_,_,ho,_⟩,_⟩ := I.loc
    exact free _ o (fun z => (hch _ z).2.1 rfl) ho I.free
  · obtain ⟨v,o,ho,hd⟩ := I.cell x c e
    exact free c o (fun z => (hch c z).2.2.1 x c e rfl) ho (I.freeC x c e)
  · obtain ⟨e,n,ne,nf,d⟩ := I.pin p hp
    have nch : p.1∉ch := fun z => (hch p.1 z).2.2.2 p hp rfl
    exact ⟨keep p.1 p.2 ne nf nch e n,free p.1 p.2 nch e n,ne,nf,d⟩
theorem Inv.un {t' : Nat} (I : Inv X pins σ H s) (u : Un X.fs [] H H' s.heap h') (hok : HOk X.prog X.w H' h') : Inv X pins σ H' { s with heap := h',toks := t' } := by
  obtain ⟨m,⟨o,es,ep,ho,r⟩,_⟩ := id I.loc
  obtain ⟨sl,hL⟩ := u.any ho I.free (by simp)
  exact I.step (g' := s.gens) (d' := s.drawn) (ch := []) (fun _ z => nomatch z) (fun b o _ hb _ e n => u.keep b o e n hb (by simp)) (fun b o _ hb _ e n => u.slot b o e n hb (by simp)) (fun b o _ e n => u.free b o e n (by simp)) (fun b o _ e => u.there b o e (by simp)) u.tups u.frzs u.tbls (fun m' hm => by
    obtain ⟨o',es',ep',ho',r'⟩ := hm
    rw [ho] at ho'; cases ho'
    exact ⟨_,es',ep',hL,r'⟩) hok I.bare
theorem Inv.call {g' : Array GenState} {t' : Nat} {d' : Drawn} {ch : List Addr} (I : Inv X pins σ H s) (u : Un (frs X.stack) ch H H' s.heap h') (hok : HOk X.prog X.w H' h') (hg : AllBare g')
    (hch : ∀ b∈ch,(b∈X.ex∨X.s₀.heap.objs.size≤b)∧b≠X.env.locals∧(∀ x c,X.env.cells.lookup x = some c→c≠b)∧∀ p∈X.pn++pins,p.1≠b) :
    Inv X pins σ H' { s with heap := h',gens := g',drawn := d',toks := t' } := by
  obtain ⟨m,⟨o,es,ep,ho,r⟩,_⟩ := id I.loc
  obtain ⟨sl,hL⟩ := u.any ho I.free fun z => (hch _ z).2.1 rfl
  exact I.step (ch := ch) hch (fun b o hL hb hc e n => u.keep b o e n (fun z => (List.mem_cons.mp (I.stkSub b z)).elim hL hb) hc) (fun b o _ _ hc e n => u.any e n hc) (fun b o hc e n => u.free b o e n hc) (fun b o hc e => u.there b o e hc) u.tups u.frzs u.tbls (fun m' hm => by
    obtain ⟨o',es',ep',ho',r'⟩ := hm
    rw [ho] at ho'; cases ho'
    exact ⟨_,es',ep',hL,r'⟩) hok hg
theorem Inv.turned {t' : Nat} {it : Addr} (I : Inv X pins σ H s) (k : ∀ b o,b≠it→s.heap.get? b = some o→h'.get? b = some o) (hn : H it = none) (hL : it≠X.env.locals)
    (h1 : it∈X.ex∨X.s₀.heap.objs.size≤it) (h2 : ∀ x c,X.env.cells.lookup x = some c→c≠it) (h3 : ∀ p∈X.pn++pins,p.1≠it) : Inv X pins σ H { s with heap := h',toks := t' } := by
  have nit : ∀ b u,H b = some u→b≠it := fun b u e z => by rw [z,hn] at e; cases e
  refine I.step (g' := s.gens) (d' := s.drawn) (ch := [it]) (fun b hb => ?_) (fun b o _ _ hc e _ => k b o (fun z => hc (by simp [z])) e) (fun b o _ _ hc e _ => ⟨o.slots,k b o (fun z => hc (by simp [z])) e⟩) (fun _ _ _ _ n => n)
    (fun b o hc e => ⟨o,k b o (fun z => hc (by simp [z])) e⟩) (fun _ _ e => e) (fun _ _ _ e => e) (fun b ps e => ⟨#[],by rw [e]; simp⟩) (fun m hm => ?_) (fun b u e => ?_) I.bare
  · have e : b = it := by simpa using hb
    subst e
    exact ⟨h1,hL,h2,h3⟩
  · obtain ⟨o,es,ep,ho,r⟩ := hm
    exact ⟨o,es,ep,k _ o (Ne.symm hL) ho,r⟩
  · refine (I.hok b u e).stay (fun c v hc q => k c v ?_ q) (fun _ q => q) fun _ _ q => q
    rcases hc with z | z
    · rw [z]; exact nit b u e
    · exact nit c _ z
theorem Inv.tok (I : Inv X pins σ H s) (t : Nat) : Inv X pins σ H { s with toks := t } := I.un (h' := s.heap) (t' := t) Un.refl I.hok
theorem Inv.kept {t' : Nat} (I : Inv X pins σ H s) (k : ∀ b u,s.heap.get? b = some u→h'.get? b = some u) : Inv X pins σ H { s with heap := h',toks := t' } := I.un (Un.kept k) (I.hok.kept k)
theorem Inv.laid {a : Addr} {o : HO} {t' : Nat} (I : Inv X pins σ H s) (k : ∀ b u,s.heap.get? b = some u→h'.get? b = some u) (hp : s.heap.objs.size≤a) (new : zaU X.prog X.w (upd H a o) h' a o) :
    Inv X pins σ (upd H a o) { s with heap := h',toks := t' } := I.un (Un.laid k hp (I.hok.fresh hp)) (I.hok.laid k hp new)
theorem Inv.write {x e : Addr} {o : HO} {t' : Nat} (I : Inv X pins σ H s) (mu : Mut (H x)) (he : e = x∨H e = some (.own x)) (k : ∀ b u,b≠e→s.heap.get? b = some u→h'.get? b = some u) (heo : ∃ u,h'.get? e = some u)
    (new : zaU X.prog X.w (upd H x o) h' x o) : Inv X pins σ (upd H x o) { s with heap := h',toks := t' } := I.un (Un.write mu he k heo) (I.hok.write mu he k heo new)
theorem Inv.pins_of {pins' : List (Addr × Obj)} (I : Inv X pins σ H s) (h : ∀ p∈pins',s.heap.get? p.1 = some p.2∧H p.1 = none∧p.1≠X.env.locals∧p.1∉X.fs∧∀ v,p.2.data≠.cell v) : Inv X pins' σ H s :=
  ⟨I.ok,I.os,I.bare,I.base,I.loc,I.cell,I.free,I.freeC,fun p hp => (List.mem_append.mp hp).elim (fun z => I.pin p (List.mem_append_left _ z)) (h p),I.hok,I.len⟩
theorem zjH {N : List Str} (hN : N.Nodup) {i j : Nat} {x : Str} (a : N[i]? = some x) (b : N[j]? = some x) : i = j := by
  obtain ⟨h1,e1⟩ := List.getElem?_eq_some_iff.mp a
  obtain ⟨h2,e2⟩ := List.getElem?_eq_some_iff.mp b
  exact (List.getElem_inj hN).mp (e1.trans e2.symm)
theorem zhA {M : Model} {A : Around} {E : Value→Shared→Prop} {i : Nat} {x : Str} {v : V} {u : Value} {Q : Unit→Shared→Prop} (I : Inv X pins σ H s) (hN : X.N.Nodup) (hi : X.N[i]? = some x) (hx : Loc X.env.scope x) (r : RelV v u)
    (h : ∀ s',Inv X pins (σ.set i (some v)) H s'→(∃ a,Heap.SameBut a s.heap s'.heap∧(a = X.env.locals∨X.env.cells.lookup x = some a))→Q () s') (hf : X.fn x = true∨X.env.scope.names.lookup x = some .local := by first | exact .inl rfl | exact .inr rfl | assumption) : wpAny M A (storeName X.env x u) Q E s := by
  obtain ⟨m,hn,hl⟩ := id I.loc
  have hcls : (X.env.scope.kind == .class || (X.env.scope.kind == .module && X.env.locals != X.env.globals)) = false := by rw [I.ok.kind]; rfl
  have hiσ : i < σ.length := by rw [I.len]; exact (List.getElem?_eq_some_iff.mp hi).1
  have cne := I.cne
  have tracked : ∀ {a : Addr} {h' : Heap},(∃ o,s.heap.get? a = some o∧H a = none)→Heap.SameBut a s.heap h'→HOk X.prog X.w H h' := fun {a h'} ha hs b ob e => by
    obtain ⟨_,_,hfree⟩ := ha
    refine (I.hok b ob e).stay (fun c w' hc q => (hs.2 c ?_).trans q) (fun _ q => q) fun _ _ q => q
    rintro rfl
    rcases hc with rfl | hc
    · rw [hfree] at e; cases e
    · rw [hfree] at hc; cases hc
  rcases hx with hk | hk
  · refine wpAny_storeName_local hk hn (fun h' hn' hs => ?_) hcls
    obtain ⟨oL,_,_,hoL,_⟩ := id hn
    refine h _ ⟨I.ok,I.os,I.bare,⟨fun b o e n hb hx => ?_,fun b o e n hb hx => ?_,I.base.free,fun b o e hx => ?_,I.base.tups,I.base.frzs,I.base.tbls⟩,⟨_,hn',fun j y v' e1 e2 e3 => ?_⟩,fun y c e => ?_,I.free,I.freeC,fun p hp => ?_,tracked ⟨oL,hoL,I.free⟩ hs,by simpa using I.len⟩ ⟨_,hs,.inl rfl⟩
    · exact (hs.2 b (Nat.ne_of_lt (Nat.lt_of_lt_of_le (Heap.lt_size e) I.ok.above))).trans (I.base.keep b o e n hb hx)
    · obtain ⟨sl,e1⟩ := I.base.slot b o e n hb hx
      exact ⟨sl,(hs.2 b (Nat.ne_of_lt (Nat.lt_of_lt_of_le (Heap.lt_size e) I.ok.above))).trans e1⟩
    · obtain ⟨o',e1⟩ := I.base.there b o e hx
      exact ⟨o',(hs.2 b (Nat.ne_of_lt (Nat.lt_of_lt_of_le (Heap.lt_size e) I.ok.above))).trans e1⟩
    · by_cases hj : j = i
      · subst hj
        rw [hi] at e1; cases e1
        rw [List.getElem?_set_self hiσ] at e2
        cases e2
        exact ⟨u,r,.inl ⟨hk,by simp⟩⟩
      · rw [List.getElem?_set_ne (Ne.symm hj)] at e2
        obtain ⟨u',r',q⟩ := hl j y v' e1 e2 e3
        refine ⟨u',r',?_⟩
        rcases q with ⟨k,e⟩ | ⟨k,c,e,z⟩
        · refine .inl ⟨k,?_⟩
          have : y≠x := fun e => hj (zjH hN e1 (e ▸ hi))
          simp [this,e]
        · exact .inr ⟨k,c,e,z.sameBut hs (cne y c e)⟩
    · obtain ⟨w',z⟩ := I.cell y c e
      exact ⟨w',z.sameBut hs (cne y c e)⟩
    · obtain ⟨e,n,ne,nf,d⟩ := I.pin p hp
      exact ⟨(hs.2 p.1 ne).trans e,n,ne,nf,d⟩
  · have hfn : X.fn x = true := by
      rcases hf with z | z
      · exact z
      · rw [z] at hk; cases hk
    obtain ⟨c,hc⟩ := I.ok.has x (.inl hk)
    obtain ⟨w',z⟩ := I.cell x c hc
    refine wpAny_storeName_cell I.ok.kind hk hc z (fun h' hc' hs => ?_)
    obtain ⟨oc,hoc,hocd⟩ := id z
    refine h { s with heap := h' } ⟨I.ok,I.os,I.bare,⟨fun b o e n hb hx => ?_,fun b o e n hb hx => ?_,I.base.free,fun b o e hx => ?_,I.base.tups,I.base.frzs,I.base.tbls⟩,⟨m,hn.sameBut hs (Ne.symm (cne x c hc)),fun j y v' e1 e2 e3 => ?_⟩,fun y c' e => ?_,I.free,I.freeC,fun p hp => ?_,tracked ⟨oc,hoc,I.freeC x c hc⟩ hs,by simpa using I.len⟩ ⟨c,hs,.inr hc⟩
    · exact (hs.2 b (Nat.ne_of_lt (Nat.lt_of_lt_of_le (Heap.lt_size e) (I.ok.cab x c hfn hc)))).trans (I.base.keep b o e n hb hx)
    · obtain ⟨sl,e1⟩ := I.base.slot b o e n hb hx
      exact ⟨sl,(hs.2 b (Nat.ne_of_lt (Nat.lt_of_lt_of_le (Heap.lt_size e) (I.ok.cab x c hfn hc)))).trans e1⟩
    · obtain ⟨o',e1⟩ := I.base.there b o e hx
      exact ⟨o',(hs.2 b (Nat.ne_of_lt (Nat.lt_of_lt_of_le (Heap.lt_size e) (I.ok.cab x c hfn hc)))).trans e1⟩
    · by_cases hj : j = i
      · subst hj
        rw [hi] at e1; cases e1
        rw [List.getElem?_set_self hiσ] at e2
        cases e2
        exact ⟨u,r,.inr ⟨.inl hk,c,hc,hc'⟩⟩
      · rw [List.getElem?_set_ne (Ne.symm hj)] at e2
        obtain ⟨u',r',q⟩ := hl j y v' e1 e2 e3
        refine ⟨u',r',?_⟩
        rcases q with q | ⟨k,c',e,z'⟩
        · exact .inl q
        · refine .inr ⟨k,c',e,z'.sameBut hs ?_⟩
          rintro rfl
          exact hj (zjH hN e1 (I.ok.inj _ _ _ e hc ▸ hi))
    · by_cases hcc : c' = c
      · subst hcc; exact ⟨_,hc'⟩
      · obtain ⟨w2,z2⟩ := I.cell y c' e
        exact ⟨w2,z2.sameBut hs hcc⟩
    · obtain ⟨e,n,ne,nf,d⟩ := I.pin p hp
      refine ⟨(hs.2 p.1 ?_).trans e,n,ne,nf,d⟩
      intro q
      rw [q,hoc] at e
      have q' : oc = p.2 := Option.some.inj e
      exact d w' (by rw [← q']; exact hocd)
theorem zjm {M : Model} {A : Around} {E : Value→Shared→Prop} {i : Nat} {x : Str} {v : V} {u : Value} {Q : Unit→Shared→Prop} (I : Inv X pins σ H s) (hN : X.N.Nodup) (hi : X.N[i]? = some x) (hx : Loc X.env.scope x) (r : RelV v u)
    (h : ∀ s',Inv X pins (σ.set i (some v)) H s'→Q () s') (hf : X.fn x = true∨X.env.scope.names.lookup x = some .local := by first | exact .inl rfl | exact .inr rfl | assumption) : wpAny M A (storeName X.env x u) Q E s :=
  zhA I hN hi hx r (fun s' I' _ => h s' I') hf
theorem Inv.call' {s' : Shared} {ch : List Addr} (I : Inv X pins σ H s) (ho : s'.os = s.os) (u : Un (frs X.stack) ch H H' s.heap s'.heap) (hok : HOk X.prog X.w H' s'.heap) (hg : AllBare s'.gens)
    (hch : ∀ b∈ch,(b∈X.ex∨X.s₀.heap.objs.size≤b)∧b≠X.env.locals∧(∀ x c,X.env.cells.lookup x = some c→c≠b)∧∀ p∈X.pn++pins,p.1≠b) : Inv X pins σ H' s' := by
  obtain ⟨h',g',d',t',o'⟩ := s'
  have e : o' = s.os := ho
  subst e
  exact I.call (g' := g') (t' := t') (d' := d') u hok hg hch
end
noncomputable abbrev XK := Value→Option Addr→Hp→Prop
noncomputable abbrev St := List (Option V)
noncomputable abbrev VK := V→Hp→Prop
noncomputable abbrev TE := St→Hp→VK→Prop
noncomputable abbrev TT := St→Hp→(Bool→Hp→Prop)→Prop
noncomputable abbrev TA := St→Hp→(List V→Hp→Prop)→Prop
structure Ends where
  nx : St→Hp→Prop
  rt : VK
  bk : St→Hp→Prop := fun _ _ => False
  ct : St→Hp→Prop := fun _ _ => False
noncomputable abbrev TS := Ends→St→Hp→Prop
noncomputable def EP (X : Cx) (pins : List (Addr × Obj)) (σ : St) (Q : VK) (u : Value) (s' : Shared) : Prop := ∃ v H',Inv X pins σ H' s'∧RelV v u∧Q v H'
noncomputable def TP (X : Cx) (pins : List (Addr × Obj)) (σ : St) (Q : Bool→Hp→Prop) (b : Bool) (s' : Shared) : Prop := ∃ H',Inv X pins σ H' s'∧Q b H'
noncomputable def AP (X : Cx) (pins : List (Addr × Obj)) (σ : St) (Q : List V→Hp→Prop) (us : List Value) (s' : Shared) : Prop := ∃ vs H',Inv X pins σ H' s'∧Vals vs us∧Q vs H'
noncomputable def SP (X : Cx) (pins : List (Addr × Obj)) (D : Ends) (f : Flow) (s' : Shared) : Prop :=
  match f with
  | .next => ∃ σ' H',Inv X pins σ' H' s'∧D.nx σ' H'
  | .brk => ∃ σ' H',Inv X pins σ' H' s'∧D.bk σ' H'
  | .cont => ∃ σ' H',Inv X pins σ' H' s'∧D.ct σ' H'
  | .ret u => ∃ v σ' H',Inv X pins σ' H' s'∧RelV v u∧D.rt v H'
noncomputable def PE (X : Cx) (e : Expr) (t : TE) : Prop :=
  ∀ (pins : List (Addr × Obj)) (s : Shared) (σ : St) (H : Hp) (Q : VK),Inv X pins σ H s→t σ H Q→wpAny (model X.prog X.w) X.A (eval e X.env) (EP X pins σ Q) X.xe s
noncomputable def PT (X : Cx) (e : Expr) (t : TT) : Prop :=
  ∀ (pins : List (Addr × Obj)) (s : Shared) (σ : St) (H : Hp) (Q : Bool→Hp→Prop),Inv X pins σ H s→t σ H Q→wpAny (model X.prog X.w) X.A (isTrue e X.env (eval e X.env)) (TP X pins σ Q) X.xe s
noncomputable def PW (X : Cx) (e : Expr) (t : TT) : Prop :=
  ∀ (whole : Sem Value) (pins : List (Addr × Obj)) (s : Shared) (σ : St) (H : Hp) (Q : Bool→Hp→Prop),Inv X pins σ H s→t σ H Q→wpAny (model X.prog X.w) X.A (isTrue e X.env whole) (TP X pins σ Q) X.xe s
theorem PW.pt {X : Cx} {e : Expr} {t : TT} (h : PW X e t) : PT X e t := h _
noncomputable def PA (X : Cx) (es : List Expr) (t : TA) : Prop :=
  ∀ (pos : Pos) (pins : List (Addr × Obj)) (s : Shared) (σ : St) (H : Hp) (Q : List V→Hp→Prop),Inv X pins σ H s→t σ H Q→wpAny (model X.prog X.w) X.A (spliced (backTo pos (starEach es X.env))) (AP X pins σ Q) X.xe s
noncomputable def PS (X : Cx) (st : Stmt) (t : TS) : Prop :=
  ∀ (pins : List (Addr × Obj)) (s : Shared) (σ : St) (H : Hp) (D : Ends),Inv X pins σ H s→t D σ H→wpAny (model X.prog X.w) X.A (exec st X.env) (SP X pins D) X.xe s
noncomputable def PSs (X : Cx) (st : List Stmt) (t : TS) : Prop :=
  ∀ (pins : List (Addr × Obj)) (s : Shared) (σ : St) (H : Hp) (D : Ends),Inv X pins σ H s→t D σ H→wpAny (model X.prog X.w) X.A (execs st X.env) (SP X pins D) X.xe s
theorem thn {α : Type} {t : Sem α} {Q Q' : α→Shared→Prop} {M : Model} {A : Around} {E : Value→Shared→Prop} {s : Shared} (h : wpAny M A t Q E s) (hQ : ∀ a s,Q a s→Q' a s) : wpAny M A t Q' E s := wpAny_mono h hQ fun _ _ x => x
end L2
namespace L2
open PySem PySem.Spec PyProof.Rows
section
variable {X : Cx}
noncomputable def tVar (i : Nat) : TE := fun σ H Q => ∃ v,σ[i]? = some (some v)∧Q v H
noncomputable def tC (v : V) : TE := fun _ H Q => Q v H
theorem zh3 {i : Nat} {x : Str} {pos : Pos} (hN : X.N[i]? = some x) (hv : Vis X.env.scope x) (hd : (x == ("__debug__" : Str)) = false := by decide) (hcd : (x == ("__classdict__" : Str)) = false := by decide) : PE X (.Name x pos) (tVar i) := by
  intro pins s σ H Q I h
  obtain ⟨v,e,h⟩ := h
  obtain ⟨m,hn,hl⟩ := I.loc
  obtain ⟨u,r,l⟩ := hl i x v hN e hv
  have fin : EP X pins σ Q u s := ⟨v,H,I,r,h⟩
  rcases l with ⟨hk,hm⟩ | ⟨hk,c,hc,hcell⟩
  · exact wpAny_Name (wpAny_loadName_local I.ok.kind hk hn hm fin) hd
  · rcases hk with hk | hk
    · exact wpAny_Name (wpAny_loadName_cell I.ok.kind hk hc hcell fin) hd
    · exact wpAny_Name (wpAny_loadName_free I.ok.kind hk hc hcell fin hcd) hd
theorem zq3 {i j pos} : PE X (.Constant (.int i) j pos) (tC (.int i)) := fun _ _ _ H _ I h => wpAny_Constant_int ⟨.int i,H,I.tok _,⟨_,rfl⟩,h⟩
theorem zsH {b j pos} : PE X (.Constant (.bool b) j pos) (tC (.bl b)) := fun _ _ _ H _ I h => Constant_bool ⟨.bl b,H,I,rfl,h⟩
theorem zq1 {j pos} : PE X (.Constant .none j pos) (tC .non) := fun _ _ _ H _ I h => Constant_none ⟨.non,H,I,rfl,h⟩
noncomputable def Gl (X : Cx) (x : Str) : Prop := X.env.kindOf x = some .globalImplicit
theorem zlQ {E : Value→Shared→Prop} {pins : List (Addr × Obj)} {s : Shared} {σ : St} {H : Hp} {x : Str} {u : Value} {pos : Pos} {Q : Value→Shared→Prop} (I : Inv X pins σ H s) (hg : Gl X x) (hm : X.mg x = some u) (h : Q u s)
    (hd : (x == ("__debug__" : Str)) = false := by decide) : wpAny (model X.prog X.w) X.A (eval (.Name x pos) X.env) Q E s :=
  Calls.Name_function_global I.ok.kind hg (Calls.loadGlobal_global (by rw [I.ok.glob]; exact I.mod.glob.keeps I.bk) hm h) hd
theorem zib {E : Value→Shared→Prop} {pins : List (Addr × Obj)} {s : Shared} {σ : St} {H : Hp} {x : Str} {u : Value} {pos : Pos} {Q : Value→Shared→Prop} (I : Inv X pins σ H s) (hg : Gl X x) (hm : X.mg x = none) (hv : bootBuiltins x = some u) (h : Q u s)
    (hn : x≠"__name__" := by decide) (hd : (x == ("__debug__" : Str)) = false := by decide) : wpAny (model X.prog X.w) X.A (eval (.Name x pos) X.env) Q E s := by
  obtain ⟨mb,h1,h2⟩ := I.mod.blt
  exact Calls.Name_function_global I.ok.kind hg (Calls.loadGlobal_builtin (by rw [I.ok.glob]; exact I.mod.glob.keeps I.bk) hm (by rw [I.ok.blt]; exact h1.keeps I.bk) ((h2 x hn).trans hv) h) hd
theorem zpb {x : Str} {v : V} {u : Value} {pos : Pos} (hg : Gl X x) (hm : X.mg x = some u) (r : RelV v u) (hd : (x == ("__debug__" : Str)) = false := by decide) : PE X (.Name x pos) (tC v) :=
  fun _ _ _ H _ I h => zlQ I hg hm ⟨v,H,I,r,h⟩ hd
theorem zpe {x : Str} {v : V} {u : Value} {pos : Pos} (hg : Gl X x) (hm : X.mg x = none) (hv : bootBuiltins x = some u) (r : RelV v u) (hn : x≠"__name__" := by decide) (hd : (x == ("__debug__" : Str)) = false := by decide) : PE X (.Name x pos) (tC v) :=
  fun _ _ _ H _ I h => zib I hg hm hv ⟨v,H,I,r,h⟩ hn hd
variable {a b : Expr} {ta tb : TE} {pos : Pos}
variable {tA tB' : TT} {rest : List Expr}
noncomputable def tAnd (t u : TT) : TT := fun σ H Q => t σ H fun c H1 => if c = true then u σ H1 Q else Q false H1
noncomputable def tOr (t u : TT) : TT := fun σ H Q => t σ H fun c H1 => if c = true then Q true H1 else u σ H1 Q
noncomputable def tNot (t : TT) : TT := fun σ H Q => t σ H fun c H1 => Q (! c) H1
theorem zo2 (ha : PT X a tA) : PW X (.BoolOp .And [a] pos) tA := by
  intro wh pins s σ H Q I h
  refine isTrue_and (thn (ha pins s σ H Q I h) fun c s1 e => ?_)
  cases c with
  | true => exact isTrue_and_nil e
  | false => exact e
theorem zqO (ha : PT X a tA) : PW X (.BoolOp .Or [a] pos) tA := by
  intro wh pins s σ H Q I h
  refine isTrue_or (thn (ha pins s σ H Q I h) fun c s1 e => ?_)
  cases c with
  | false => exact isTrue_or_nil e
  | true => exact e
theorem zqP (ha : PT X a tA) (hb : PW X (.BoolOp .And (b::rest) pos) tB') : PW X (.BoolOp .And (a::b::rest) pos) (tAnd tA tB') := by
  intro wh pins s σ H Q I h
  refine isTrue_and (thn (ha pins s σ H _ I h) fun c s1 ⟨H1,I1,q1⟩ => ?_)
  cases c with
  | true => exact hb wh pins s1 σ H1 Q I1 q1
  | false => exact ⟨H1,I1,q1⟩
theorem zsC (ha : PT X a tA) (hb : PW X (.BoolOp .Or (b::rest) pos) tB') : PW X (.BoolOp .Or (a::b::rest) pos) (tOr tA tB') := by
  intro wh pins s σ H Q I h
  refine isTrue_or (thn (ha pins s σ H _ I h) fun c s1 ⟨H1,I1,q1⟩ => ?_)
  cases c with
  | true => exact ⟨H1,I1,q1⟩
  | false => exact hb wh pins s1 σ H1 Q I1 q1
theorem zqR (ha : PT X a tA) : PT X (.UnaryOp .Not a pos) (tNot tA) := by
  intro pins s σ H Q I h
  exact isTrue_not (ha pins s σ H (fun c H1 => Q (! c) H1) I h)
noncomputable def zsq (ta tb : TE) : TE := fun σ H Q => ta σ H fun x H1 => ∃ c,x = .bl c∧if c = true then tb σ H1 Q else Q (.bl false) H1
noncomputable def zsl (ta : TE) : TE := fun σ H Q => ta σ H fun x H1 => ∃ c,x = .bl c∧Q (.bl (! c)) H1
theorem zqZ {op} {t : TE} (h : PE X a t) : PE X (.BoolOp op [a] pos) t := fun pins s σ H Q I hw => BoolOp_one (h pins s σ H Q I hw)
theorem zq6 (ha : PE X a ta) (hb : PE X (.BoolOp .And (b::rest) pos) tb) : PE X (.BoolOp .And (a::b::rest) pos) (zsq ta tb) := by
  intro pins s σ H Q I h
  refine BoolOp_and (thn (ha pins s σ H _ I h) fun v s1 ⟨x,H1,I1,r1,q1⟩ => ?_)
  obtain ⟨c,rfl,q1⟩ := q1
  cases r1
  refine wpAny_truthy_bool ?_
  cases c with
  | true => exact hb pins s1 σ H1 Q I1 q1
  | false => exact ⟨.bl false,H1,I1,rfl,q1⟩
theorem zq0 (ha : PE X a ta) : PE X (.UnaryOp .Not a pos) (zsl ta) := by
  intro pins s σ H Q I h
  refine UnaryOp_ (thn (ha pins s σ H _ I h) fun v s1 ⟨x,H1,I1,r1,q1⟩ => ?_)
  obtain ⟨c,rfl,q1⟩ := q1
  cases r1
  exact not_of (wpAny_truthy_bool ⟨.bl (! c),H1,I1,rfl,q1⟩)
noncomputable def tIf (t : TT) (ta tb : TE) : TE := fun σ H Q => t σ H fun c H1 => if c = true then ta σ H1 Q else tb σ H1 Q
theorem znk {c : Expr} (hc : PT X c tA) (ha : PE X a ta) (hb : PE X b tb) : PE X (.IfExp c a b pos) (tIf tA ta tb) := by
  intro pins s σ H Q I h
  refine wpAny_IfExp (thn (hc pins s σ H _ I h) fun d s1 ⟨H1,I1,q1⟩ => ?_)
  cases d with
  | true => exact ha pins s1 σ H1 Q I1 q1
  | false => exact hb pins s1 σ H1 Q I1 q1
end
end L2
namespace L2
open PySem PySem.Spec PyProof.Rows
noncomputable def SqL (K : PySem.W.Frag) (H : Hp) (a : Addr) (xs : List V) : Prop :=
  Rd H a (.lst xs) ∨
    ∃ (o : Obj) (its : Array Value) (n : Nat),K.lookup a = some o∧o.cls = .type "list"∧o.dict = none∧o.data = .seq its n∧its.size≤sizeLine∧Vals xs its.toList
noncomputable def SqT (K : PySem.W.Frag) (H : Hp) (a : Addr) (xs : List V) : Prop :=
  Rd H a (.tup xs) ∨
    ∃ (o : Obj) (its : Array Value) (n : Nat),K.lookup a = some o∧o.cls = .type "tuple"∧o.data = .seq its n∧its.size≤sizeLine∧Vals xs its.toList
noncomputable def absV : Value→Option V
  | .none => some .non
  | .bool b => some (.bl b)
  | .int i _ => some (.int i)
  | .str x _ => some (.str x)
  | .bytes b _ => some (.byt b)
  | .float b _ => some (.flt b)
  | .ref a => some (.ref a)
  | .type n => some (.ty n)
  | _ => none
theorem RelV.abs {x : V} {u : Value} (r : RelV x u) : absV u = some x := by
  cases x with
  | non => cases r; rfl
  | bl _ => cases r; rfl
  | int _ => obtain ⟨t,rfl⟩ := r; rfl
  | str _ => obtain ⟨t,rfl⟩ := r; rfl
  | byt _ => obtain ⟨t,rfl⟩ := r; rfl
  | flt _ => obtain ⟨t,rfl⟩ := r; rfl
  | ref _ => cases r; rfl
  | ty _ => cases r; rfl
theorem RelV.inj {x y : V} {u : Value} (r : RelV x u) (q : RelV y u) : x = y := Option.some.inj (r.abs.symm.trans q.abs)
theorem Vals.inj {xs ys : List V} {us : List Value} (h : Vals xs us) (h' : Vals ys us) : xs = ys := by
  induction h generalizing ys with
  | nil => cases h'; rfl
  | cons r t ih =>
    cases h' with
    | cons r' t' => rw [r.inj r',ih t']
section
variable {X : Cx} {pins : List (Addr × Obj)} {σ : St} {H : Hp} {s : Shared} {a : Addr} {xs ys : List V}
theorem SqL.of {K : PySem.W.Frag} (h : H a = some (.lst xs)) : SqL K H a xs := .inl (.inl h)
theorem Inv.list (I : Inv X pins σ H s) (h : SqL X.K H a xs) : ∃ its : List Value,Vals xs its∧PlainL s.heap a its.toArray∧xs.length≤sizeLine := by
  rcases h with h | ⟨o,its,n,hk,hc,hd,hs,hz,r⟩
  · obtain ⟨z,its,n,r,e⟩ := h.ok I.hok
    exact ⟨its,r,⟨_,n,e,rfl,rfl,rfl⟩,z⟩
  · refine ⟨its.toList,r,⟨o,n,I.kIn a o hk,hc,hd,by simpa using hs⟩,?_⟩
    have e := r.length
    simp only [Array.length_toList] at e
    omega
theorem Inv.tuple (I : Inv X pins σ H s) (h : SqT X.K H a xs) : ∃ its : List Value,Vals xs its∧IsTup s.heap a its.toArray∧xs.length≤sizeLine := by
  rcases h with h | ⟨o,its,n,hk,hc,hs,hz,r⟩
  · obtain ⟨z,its,r,p,_⟩ := h.ok I.hok
    exact ⟨its,r,p,z⟩
  · refine ⟨its.toList,r,⟨o,I.kIn a o hk,hc,n,by simpa using hs⟩,?_⟩
    have e := r.length
    simp only [Array.length_toList] at e
    omega
theorem Inv.list_inj (I : Inv X pins σ H s) (h : SqL X.K H a xs) (h' : SqL X.K H a ys) : xs = ys := by
  obtain ⟨its,r,⟨o,n,e,_,_,d⟩,_⟩ := I.list h
  obtain ⟨its',r',⟨o',n',e',_,_,d'⟩,_⟩ := I.list h'
  rw [e] at e'; cases e'
  rw [d] at d'
  injection d' with d1 _
  have : its = its' := by simpa using congrArg Array.toList d1
  subst this
  exact r.inj r'
theorem Inv.tuple_inj (I : Inv X pins σ H s) (h : SqT X.K H a xs) (h' : SqT X.K H a ys) : xs = ys := by
  obtain ⟨its,r,⟨o,e,_,n,d⟩,_⟩ := I.tuple h
  obtain ⟨its',r',⟨o',e',_,n',d'⟩,_⟩ := I.tuple h'
  rw [e] at e'; cases e'
  rw [d] at d'
  injection d' with d1 _
  have : its = its' := by simpa using congrArg Array.toList d1
  subst this
  exact r.inj r'
end
noncomputable abbrev Cx.wish (X : Cx) (E : Value→Shared→Prop) : Cx := { X with xe := E }
noncomputable abbrev Cx.nox (X : Cx) : Cx := X.wish fun _ _ => False
theorem Cx.Ok.wish {X : Cx} (ok : X.Ok) (E : Value→Shared→Prop) : (X.wish E).Ok :=
  ⟨ok.mod,ok.kind,ok.glob,ok.blt,ok.above,ok.inj,ok.has,ok.cab,ok.hd,ok.frames,ok.stk,ok.exf,ok.bs,ok.bsz,ok.noex,ok.exfs,ok.funs,ok.frf⟩
theorem Cx.Ok.unwish {X : Cx} {E : Value→Shared→Prop} (ok : (X.wish E).Ok) : X.Ok :=
  ⟨ok.mod,ok.kind,ok.glob,ok.blt,ok.above,ok.inj,ok.has,ok.cab,ok.hd,ok.frames,ok.stk,ok.exf,ok.bs,ok.bsz,ok.noex,ok.exfs,ok.funs,ok.frf⟩
section
variable {X : Cx} {pins : List (Addr × Obj)} {σ : St} {H : Hp} {s : Shared} {E : Value → Shared → Prop}
theorem Inv.wish (I : Inv X pins σ H s) (E : Value→Shared→Prop) : Inv (X.wish E) pins σ H s := ⟨I.ok.wish E,I.os,I.bare,I.base,I.loc,I.cell,I.free,I.freeC,I.pin,I.hok,I.len⟩
theorem Inv.unwish (I : Inv (X.wish E) pins σ H s) : Inv X pins σ H s := ⟨I.ok.unwish,I.os,I.bare,I.base,I.loc,I.cell,I.free,I.freeC,I.pin,I.hok,I.len⟩
theorem SP.unwish {D : Ends} {f : Flow} {s' : Shared} (h : SP (X.wish E) pins D f s') : SP X pins D f s' := by
  cases f with
  | next => obtain ⟨σ',H',I,q⟩ := h; exact ⟨σ',H',I.unwish,q⟩
  | brk => obtain ⟨σ',H',I,q⟩ := h; exact ⟨σ',H',I.unwish,q⟩
  | cont => obtain ⟨σ',H',I,q⟩ := h; exact ⟨σ',H',I.unwish,q⟩
  | ret u => obtain ⟨v,σ',H',I,r,q⟩ := h; exact ⟨v,σ',H',I.unwish,r,q⟩
theorem PSs.nox {st : List Stmt} {t : TS} (h : PSs X.nox st t) : PSs X st t := fun pins s σ H D I hw =>
  wpAny_mono (h pins s σ H D (I.wish _) hw) (fun _ _ q => q.unwish) fun _ _ z => False.elim z
end
section
variable {X : Cx} {st : Stmt} {rest : List Stmt} {t u : TS} {e : Expr} {te : TE} {pos : Pos}
noncomputable def zsm : TS := fun D σ H => D.nx σ H
noncomputable def tSeq (t u : TS) : TS := fun D σ H => t { D with nx := u D } σ H
theorem zo5 : PSs X [] zsm := fun _ _ σ H _ I h => wpAny_execs_nil ⟨σ,H,I,h⟩
theorem znd (h1 : PS X st t) (h2 : PSs X rest u) : PSs X (st::rest) (tSeq t u) := by
  intro pins s σ H D I h
  refine wpAny_execs_cons (thn (h1 pins s σ H { D with nx := u D } I h) fun f s1 q => ?_)
  cases f with
  | next =>
    obtain ⟨σ',H',I',q⟩ := q
    exact h2 pins s1 σ' H' D I' q
  | ret v => exact q
  | brk => exact q
  | cont => exact q
theorem Inv.quiet {pins : List (Addr × Obj)} {σ : St} {H : Hp} {s : Shared} (I : Inv X pins σ H s) : interactive X.env = false := by simp [interactive,I.ok.kind]
noncomputable def zsn (te : TE) : TS := fun D σ H => te σ H fun _ H1 => D.nx σ H1
theorem zlm (he : PE X e te) (hs : swapsWith e none pos.line X.env = pure false := by rfl) : PS X (.Expr e pos) (zsn te) := by
  intro pins s σ H D I h
  exact wpAny_Expr_any (thn (he pins s σ H _ I h) fun v s1 ⟨x,H1,I1,r1,q1⟩ => ⟨σ,H1,I1,q1⟩) I.quiet hs
noncomputable def tRet (te : TE) : TS := fun D σ H => te σ H D.rt
theorem zqS (he : PE X e te) : PS X (.Return (some e) pos) (tRet te) := by
  intro pins s σ H D I h
  exact wpAny_Return_some (thn (he pins s σ H _ I h) fun v s1 ⟨x,H1,I1,r1,q1⟩ => ⟨x,σ,H1,I1,r1,q1⟩)
noncomputable def tIfS (c : TT) (t u : TS) : TS := fun D σ H => c σ H fun b H1 => if b = true then t D σ H1 else u D σ H1
theorem zsD {c : Expr} {a b : List Stmt} {tc : TT} (hc : PT X c tc) (ha : PSs X a t) (hb : PSs X b u) : PS X (.If c a b pos) (tIfS tc t u) := by
  intro pins s σ H D I h
  refine wpAny_If (thn (hc pins s σ H _ I h) fun d s1 ⟨H1,I1,q1⟩ => ?_)
  cases d with
  | true => exact ha pins s1 σ H1 D I1 q1
  | false => exact hb pins s1 σ H1 D I1 q1
noncomputable def zqe : TS := fun _ _ _ => False
theorem znf : PS X st zqe := fun _ _ _ _ _ _ h => h.elim
end
noncomputable abbrev TG := V→St→Hp→(St→Hp→Prop)→Prop
noncomputable abbrev TGs := List V→St→Hp→(St→Hp→Prop)→Prop
noncomputable def PG (X : Cx) (target : Expr) (t : TG) : Prop :=
  ∀ (pins : List (Addr × Obj)) (s : Shared) (σ : St) (H : Hp) (v : V) (u : Value) (Q : St→Hp→Prop),Inv X pins σ H s→RelV v u→t v σ H Q →
    wpAny (model X.prog X.w) X.A (assign target X.env u) (fun _ s' => ∃ σ' H',Inv X pins σ' H' s'∧Q σ' H') X.xe s
noncomputable def PGs (X : Cx) (ts : List Expr) (t : TGs) : Prop :=
  ∀ (pins : List (Addr × Obj)) (s : Shared) (σ : St) (H : Hp) (vs : List V) (us : List Value) (Q : St→Hp→Prop),Inv X pins σ H s→Vals vs us→t vs σ H Q →
    wpAny (model X.prog X.w) X.A (assignInOrder ((assignEach ts X.env).map (·.2)) us) (fun _ s' => ∃ σ' H',Inv X pins σ' H' s'∧Q σ' H') X.xe s
noncomputable abbrev TSet := V→V→V→Hp→(Hp→Prop)→Prop
noncomputable def PSet (X : Cx) (t : TSet) : Prop :=
  ∀ (pins : List (Addr × Obj)) (s : Shared) (σ : St) (H : Hp) (o i v : V) (ov iv u : Value) (Q : Hp→Prop),Inv X pins σ H s→RelV o ov→RelV i iv→RelV v u→t o i v H Q →
    wpAny (model X.prog X.w) X.A (setItem ov iv u) (fun _ s' => ∃ H',Inv X pins σ H' s'∧Q H') X.xe s
section
variable {X : Cx} {pos : Pos}
noncomputable def zrM (i : Nat) : TG := fun v σ H Q => Q (σ.set i (some v)) H
theorem zo9 {i : Nat} {x : Str} (hN : X.N.Nodup) (hi : X.N[i]? = some x) (hx : Loc X.env.scope x) (hf : X.fn x = true∨X.env.scope.names.lookup x = some .local := by first | exact .inl rfl | exact .inr rfl | assumption) : PG X (.Name x pos) (zrM i) := by
  intro pins s σ H v u Q I r h
  exact wpAny_assign_Name (zjm I hN hi hx r (fun s' I' => ⟨_,H,I',h⟩) hf)
noncomputable def gNil : TGs := fun vs σ H Q => vs = []∧Q σ H
noncomputable def zs0 (t : TG) (u : TGs) : TGs := fun vs σ H Q => ∃ v r,vs = v::r∧t v σ H fun σ' H' => u r σ' H' Q
theorem zo8 : PGs X [] gNil := by
  intro pins s σ H vs us Q I r h
  obtain ⟨e,h⟩ := h
  subst e
  cases r
  exact assignInOrder_nil ⟨σ,H,I,h⟩
theorem znj {e : Expr} {es : List Expr} {t : TG} {u : TGs} (h1 : PG X e t) (h2 : PGs X es u)
    (hs : (assignEach (e::es) X.env).map (·.2) = assign e X.env::(assignEach es X.env).map (·.2) := by rfl) : PGs X (e::es) (zs0 t u) := by
  intro pins s σ H vs us Q I r h
  obtain ⟨v,vr,e1,h⟩ := h
  subst e1
  cases r with
  | cons r rr =>
    rw [hs]
    refine assignInOrder_cons (thn (h1 pins s σ H _ _ _ I r h) fun _ s1 ⟨σ1,H1,I1,q1⟩ => ?_)
    exact h2 pins s1 σ1 H1 _ _ Q I1 rr q1
noncomputable def gTup (K : PySem.W.Frag) (n : Nat) (t : TGs) : TG := fun v σ H Q => ∃ a xs,v = .ref a∧SqT K H a xs∧xs.length = n∧t xs σ H Q
theorem zqV {es : List Expr} {k : Nat} {t : TGs} {n : Nat} (hc : X.calm = true) (h : PGs X es t)
    (hn : (assignEach es X.env).length = n := by rfl) (hst : (assignEach es X.env).findIdx? (·.1) = none := by rfl) : PG X (.Tuple es k pos) (gTup X.K n t) := by
  intro pins s σ H v u Q I r hw
  obtain ⟨a,xs,e1,hq,hl,hw⟩ := hw
  subst e1
  cases r
  obtain ⟨its,rv,ht,hz⟩ := I.tuple hq
  refine assign_Tuple_tuple (I.ok.hd hc) ht (by simp [hn,← hl,rv.length]) hst fun h' hx => ?_
  have I1 : Inv X pins σ H { s with heap := h' } := I.kept (t' := s.toks) fun b o e => hx b o (Nat.ne_of_lt (Heap.lt_size e)) e
  exact h pins _ σ H xs _ Q I1 (by simpa using rv) hw
noncomputable def gSub (to ti : TE) (t : TSet) : TG := fun v σ H Q => to σ H fun o H1 => ti σ H1 fun i H2 => t o i v H2 fun H3 => Q σ H3
theorem zqW {o i : Expr} {to ti : TE} {t : TSet} (ho : PE X o to) (hi : PE X i ti) (hs : PSet X t)
    (ha : ∀ v,assign (.Subscript o i pos) X.env v = (do
      let ov ← holding [v] (eval o X.env)
      let iv ← holding [v,ov] (eval i X.env)
      standAt pos
      holding [v,ov,iv] (setItem ov iv v)
      release [v,ov,iv] []) := by intro _; rfl) : PG X (.Subscript o i pos) (gSub to ti t) := by
  intro pins s σ H v u Q I r h
  rw [ha]
  refine wpAny_bind (wpAny_holding (thn (ho pins s σ H _ I h) fun ov s1 ⟨x,H1,I1,r1,q1⟩ => ?_))
  refine wpAny_bind (wpAny_holding (thn (hi pins s1 σ H1 _ I1 q1) fun iv s2 ⟨y,H2,I2,r2,q2⟩ => ?_))
  refine wpAny_bind (wpAny_standAt (wpAny_bind (wpAny_holding (thn (hs pins s2 σ H2 x y v ov iv u _ I2 r1 r2 r q2) fun _ s3 ⟨H3,I3,q3⟩ => ?_))))
  exact wpAny_release ⟨σ,H3,I3,q3⟩
noncomputable def tAsg (te : TE) (g : TG) : TS := fun D σ H => te σ H fun x H1 => g x σ H1 D.nx
theorem zqT {tg e : Expr} {te : TE} {g : TG} (he : PE X e te) (hg : PG X tg g) (hs : swapsWithSole [tg] e pos.line X.env = pure false := by rfl) (hw : swappedStores [tg] e X.env = pure none := by rfl)
    (h1 : (assignEach [tg] X.env).map (·.2) = [assign tg X.env] := by rfl) : PS X (.Assign [tg] e pos) (tAsg te g) := by
  intro pins s σ H D I h
  refine wpAny_Assign_stores (thn (he pins s σ H _ I h) fun v s1 ⟨x,H1,I1,r1,q1⟩ => ?_) hs hw
  rw [h1]
  exact thn (hg pins s1 σ H1 x v _ I1 r1 q1) fun _ s2 q => q
theorem zof {i : Nat} {x : Str} {e : Expr} {te : TE} {pos' : Pos} (hN : X.N.Nodup) (hi : X.N[i]? = some x) (hx : Loc X.env.scope x) (he : PE X e te) (hs : swapsWith e (some (.Name x pos')) pos.line X.env = pure false := by rfl) (hf : X.fn x = true∨X.env.scope.names.lookup x = some .local := by first | exact .inl rfl | exact .inr rfl | assumption) :
    PS X (.Assign [.Name x pos'] e pos) (tAsg te (zrM i)) := by
  intro pins s σ H D I h
  refine wpAny_Assign_Name (thn (he pins s σ H _ I h) fun v s1 ⟨y,H1,I1,r1,q1⟩ => ?_) hs
  exact zjm I1 hN hi hx r1 (fun s2 I2 => ⟨_,H1,I2,q1⟩) hf
end
section
variable {X : Cx} {pos : Pos}
noncomputable def zqd (c : TT) (tb : TS) : TS := fun D σ H => ∃ W : Nat→St→Hp→Prop,(∃ m,W m σ H)∧∀ m σ H,W m σ H →
  c σ H fun b H1 => if b = true then ∃ N : St→Hp→Prop,(∀ σ' H',N σ' H'→∃ m',m' < m∧W m' σ' H')∧tb { D with nx := N,ct := N,bk := D.nx } σ H1 else D.nx σ H1
theorem zne {c : Expr} {body : List Stmt} {tc : TT} {tb : TS} (hp : PassesOwn (model X.prog X.w) X.A X.env X.xe) (hc : PT X c tc) (hb : PSs X body tb) : PS X (.While c body [] pos) (zqd tc tb) := by
  intro pins s σ H D I h
  obtain ⟨W,⟨m0,w0⟩,turn⟩ := h
  refine wpAny_While (codeAny_whileLoop (fun n s' => ∃ σ' H',Inv X pins σ' H' s'∧W n σ' H') ?_ m0 ⟨σ,H,I,w0⟩)
  rintro n s1 ⟨σ1,H1,I1,w1⟩
  refine wpAny_passesOwn hp (thn (hc pins s1 σ1 H1 _ I1 (turn n σ1 H1 w1)) fun b s2 ⟨H2,I2,q2⟩ => ?_)
  cases b with
  | true =>
    obtain ⟨N,hN,q2⟩ := q2
    rw [if_pos rfl]
    refine wpAny_passesOwn hp (thn (hb pins s2 σ1 H2 _ I2 q2) fun f s3 q3 => ?_)
    cases f with
    | next =>
      obtain ⟨σ3,H3,I3,n3⟩ := q3
      obtain ⟨m',hm,w3⟩ := hN σ3 H3 n3
      exact ⟨m',hm,σ3,H3,I3,w3⟩
    | cont =>
      obtain ⟨σ3,H3,I3,n3⟩ := q3
      obtain ⟨m',hm,w3⟩ := hN σ3 H3 n3
      exact ⟨m',hm,σ3,H3,I3,w3⟩
    | brk => exact q3
    | ret v => exact q3
  | false =>
    rw [if_neg Bool.false_ne_true]
    exact wpAny_execs_nil ⟨σ1,H2,I2,q2⟩
end
structure It where
  go : Nat→Hp→Prop
  yld : Nat→Hp→V→Hp→Prop
  stop : Nat→Hp→Prop
noncomputable def FpOk (X : Cx) (pins : List (Addr × Obj)) (H : Hp) (b : Addr) : Prop :=
  H b = none∧b≠X.env.locals∧b∉X.fs∧(b∈X.ex∨X.s₀.heap.objs.size≤b)∧(∀ x c,X.env.cells.lookup x = some c→c≠b)∧∀ p∈X.pn++pins,p.1≠b
theorem Inv.fpOk {X : Cx} {pins : List (Addr × Obj)} {σ : St} {H H' : Hp} {s : Shared} {b : Addr} (I : Inv X pins σ H s) (hb : s.heap.objs.size≤b) (hn : H' b = none) : FpOk X pins H' b := by
  refine ⟨hn,Nat.ne_of_gt (Nat.lt_of_lt_of_le I.lt hb),I.nofs hb,.inr (Nat.le_trans I.sz hb),fun x c e z => ?_,fun p hp z => ?_⟩
  · obtain ⟨v,q⟩ := I.cell x c e
    exact absurd (Nat.lt_of_lt_of_le q.lt (by rw [z]; exact hb)) (Nat.lt_irrefl _)
  · exact absurd (Nat.lt_of_lt_of_le (Heap.lt_size (I.pin p hp).1) (by rw [z]; exact hb)) (Nat.lt_irrefl _)
structure Turn (P : Program) (w : World) (K : PySem.W.Frag) (tg : Expr) (J : It) (fp : List Addr) (it : Addr) (tn : Nat→Heap→Prop) : Prop where
  mem : it∈fp
  obj : ∀ i h,tn i h→∀ b∈fp,∃ o,h.get? b = some o∧∀ v,o.data≠.cell v
  keep : ∀ i h h',tn i h→(∀ b∈fp,∀ o,h.get? b = some o→h'.get? b = some o)→tn i h'
  item : ∀ (X : Cx),X.prog = P→X.w = w→X.K = K→X.calm = true→∀ (i : Nat) (pins : List (Addr × Obj)) (s : Shared) (σ : St) (H : Hp) (E : Value→Shared→Prop),Inv X pins σ H s→(∀ b∈fp,FpOk X pins H b)→tn i s.heap→J.go i H →
    wpAny (model P w) X.A (pyNext (.ref it)) (fun r s1 => ∃ u,r = some u ∧
      wpAny (model P w) X.A (letOwnedTupleGo tg (.ref it) u) (fun _ s2 => ∃ x H',Inv X pins σ H' s2∧RelV x u∧J.yld i H x H'∧tn (i + 1) s2.heap∧∀ b∈fp,H' b = none) E s1) E s
  done : ∀ (X : Cx),X.prog = P→X.w = w→X.K = K→X.calm = true→∀ (i : Nat) (pins : List (Addr × Obj)) (s : Shared) (σ : St) (H : Hp) (E : Value→Shared→Prop),Inv X pins σ H s→(∀ b∈fp,FpOk X pins H b)→tn i s.heap→J.stop i H →
    wpAny (model P w) X.A (pyNext (.ref it)) (fun r s1 => r = none∧Inv X pins σ H s1) E s
  self : ∀ (A : Around) (i : Nat) (s : Shared) (Q : Value→Shared→Prop) (E : Value→Shared→Prop),tn i s.heap→Q (.ref it) s→wpAny (model P w) A (pyIter (.ref it)) Q E s
noncomputable abbrev TI := St→Hp→(It→Hp→Prop)→Prop
noncomputable def PIE (X : Cx) (pins : List (Addr × Obj)) (σ : St) (tg : Expr) (R : It→Hp→Prop) (itv : Value) (s2 : Shared) : Prop :=
  ∃ (it : Addr) (fp : List Addr) (tn : Nat→Heap→Prop) (J : It) (H' : Hp),itv = .ref it∧Inv X pins σ H' s2∧Turn X.prog X.w X.K tg J fp it tn∧tn 0 s2.heap∧(∀ b∈fp,FpOk X pins H' b)∧R J H'
noncomputable def PI (X : Cx) (tg iter : Expr) (wi : TI) : Prop :=
  ∀ (pins : List (Addr × Obj)) (s : Shared) (σ : St) (H : Hp) (R : It→Hp→Prop),Inv X pins σ H s→wi σ H R →
    wpAny (model X.prog X.w) X.A (eval iter X.env) (fun v s1 => wpAny (model X.prog X.w) X.A (pyIter v) (PIE X pins σ tg R) X.xe s1) X.xe s
theorem zpH {M : Model} {A : Around} {E : Value→Shared→Prop} {s : Shared} {tg : Expr} {it : Addr} {u : Value} {o : Obj} {n : String} {vs : Array Value} {Q : Unit→Shared→Prop} (ho : s.heap.get? it = some o) (hc : o.cls = .type n) (hd : o.data = .fields vs)
    (hn : ["enumerate","zip","dict_itemiterator","dict_reverseitemiterator","odict_iterator","itertools.zip_longest","itertools.pairwise"].contains n = false) (hQ : Q () s) : wpAny M A (letOwnedTupleGo tg (.ref it) u) Q E s := by
  unfold letOwnedTupleGo
  cases tg <;> first
    | exact wpAny_pure hQ
    | (cases u <;> first
        | exact wpAny_pure hQ
        | (refine wpAny_bind (wpAny_load ho ?_)
           rw [hc,hd]
           show wpAny M A (if (["enumerate","zip","dict_itemiterator","dict_reverseitemiterator","odict_iterator","itertools.zip_longest","itertools.pairwise"].contains n && vs[0]? == some (rawInt _)) = true then _ else _) Q E s
           rw [if_neg (by intro h; rw [hn,Bool.false_and] at h; cases h)]
           exact wpAny_pure hQ))
noncomputable def Itl (K : PySem.W.Frag) (a : Addr) : It :=
  ⟨fun i H => ∃ xs x,SqL K H a xs∧xs[i]? = some x,fun i H x H' => H' = H∧∀ xs,SqL K H a xs→xs[i]? = some x,fun i H => ∃ xs,SqL K H a xs∧xs.length≤i⟩
noncomputable def Itt (K : PySem.W.Frag) (a : Addr) : It :=
  ⟨fun i H => ∃ xs x,SqT K H a xs∧xs[i]? = some x,fun i H x H' => H' = H∧∀ xs,SqT K H a xs→xs[i]? = some x,fun i H => ∃ xs,SqT K H a xs∧xs.length≤i⟩
noncomputable def Itr (lo : Int) (n : Nat) : It := ⟨fun i _ => i < n,fun i H x H' => H' = H∧x = .int (lo + i),fun i _ => n≤i⟩
theorem zkU {P : Program} {w : World} {K : PySem.W.Frag} {tg : Expr} (a it : Addr) : Turn P w K tg (Itl K a) [it] it (fun i h => h.IsListIter it a i) where
  mem := by simp
  obj := fun i h st b hb => by
    have e : b = it := by simpa using hb
    subst e
    obtain ⟨o,e,c,d⟩ := st
    exact ⟨o,e,fun v z => by rw [d] at z; cases z⟩
  keep := fun i h h' st k => st.at fun o e => k it (by simp) o e
  item := by
    intro X hP hw hK hc i pins s σ H E I hf st hg
    subst hP hw hK
    obtain ⟨xs,x,hq,hx⟩ := hg
    obtain ⟨its,rv,p,hz⟩ := I.list hq
    obtain ⟨u,hu,ru⟩ := rv.get hx
    obtain ⟨f0,f1,f2,f3,f4,f5⟩ := hf it (by simp)
    refine wpAny_pyNext_list_item st p.isList (x := u) (by simpa using hu) fun h' st' sb => ?_
    have I1 : Inv X pins σ H { s with heap := h' } := I.turned (t' := s.toks) (fun b o hb e => (sb.2 b hb).trans e) f0 f1 f3 f4 f5
    obtain ⟨o,e,c,d⟩ := id st'
    exact ⟨u,rfl,zpH (s := { s with heap := h' }) e c d (by decide) ⟨x,H,I1,ru,⟨rfl,fun ys hy => by rw [I.list_inj hy hq]; exact hx⟩,st',fun b hb => (hf b hb).1⟩⟩
  done := by
    intro X hP hw hK hc i pins s σ H E I hf st hg
    subst hP hw hK
    obtain ⟨xs,hq,hx⟩ := hg
    obtain ⟨its,rv,p,hz⟩ := I.list hq
    obtain ⟨f0,f1,f2,f3,f4,f5⟩ := hf it (by simp)
    have hl := rv.length
    exact wpAny_pyNext_list_end (I.ok.hd hc) st p.isList (by simp; omega) fun h' eb => ⟨rfl,I.turned (t' := s.toks) (fun b o hb e => eb b o hb e) f0 f1 f3 f4 f5⟩
  self := fun _ _ _ _ _ st h => wpAny_pyIter_listiter st h
theorem zj7 {P : Program} {w : World} {K : PySem.W.Frag} {tg : Expr} (a it : Addr) : Turn P w K tg (Itt K a) [it] it (fun i h => h.IsTupleIter it a i) where
  mem := by simp
  obj := fun i h st b hb => by
    have e : b = it := by simpa using hb
    subst e
    obtain ⟨o,e,c,d⟩ := st
    exact ⟨o,e,fun v z => by rw [d] at z; cases z⟩
  keep := fun i h h' st k => st.at fun o e => k it (by simp) o e
  item := by
    intro X hP hw hK hc i pins s σ H E I hf st hg
    subst hP hw hK
    obtain ⟨xs,x,hq,hx⟩ := hg
    obtain ⟨its,rv,p,hz⟩ := I.tuple hq
    obtain ⟨u,hu,ru⟩ := rv.get hx
    obtain ⟨f0,f1,f2,f3,f4,f5⟩ := hf it (by simp)
    refine wpAny_pyNext_tuple_item st (show s.heap.IsTuple a its.toArray from p) (x := u) (by simpa using hu) fun h' st' sb => ?_
    have I1 : Inv X pins σ H { s with heap := h' } := I.turned (t' := s.toks) (fun b o hb e => (sb.2 b hb).trans e) f0 f1 f3 f4 f5
    obtain ⟨o,e,c,d⟩ := id st'
    exact ⟨u,rfl,zpH (s := { s with heap := h' }) e c d (by decide) ⟨x,H,I1,ru,⟨rfl,fun ys hy => by rw [I.tuple_inj hy hq]; exact hx⟩,st',fun b hb => (hf b hb).1⟩⟩
  done := by
    intro X hP hw hK hc i pins s σ H E I hf st hg
    subst hP hw hK
    obtain ⟨xs,hq,hx⟩ := hg
    obtain ⟨its,rv,p,hz⟩ := I.tuple hq
    obtain ⟨f0,f1,f2,f3,f4,f5⟩ := hf it (by simp)
    have hl := rv.length
    exact wpAny_pyNext_tuple_end (I.ok.hd hc) st (show s.heap.IsTuple a its.toArray from p) (by simp; omega) fun h' eb => ⟨rfl,I.turned (t' := s.toks) (fun b o hb e => eb b o hb e) f0 f1 f3 f4 f5⟩
  self := fun _ _ _ _ _ st h => wpAny_pyIter_tupleiter st h
theorem zj8 {P : Program} {w : World} {K : PySem.W.Frag} {tg : Expr} (it : Addr) (lo : Int) (n : Nat) : Turn P w K tg (Itr lo n) [it] it (fun i h => IsRangeIter h it (lo + (i : Nat) * 1) ((n : Int) - (i : Nat)) 1) where
  mem := by simp
  obj := fun i h st b hb => by
    have e : b = it := by simpa using hb
    subst e
    exact ⟨_,st,fun v z => by
      have z' : Data.fields _ = Data.cell v := z
      cases z'⟩
  keep := fun i h h' st k => k it (by simp) _ st
  item := by
    intro X hP hw hK hc i pins s σ H E I hf st hg
    subst hP hw hK
    obtain ⟨f0,f1,f2,f3,f4,f5⟩ := hf it (by simp)
    have W := Walks.range (prog := X.prog) (w := X.w) (I.ok.hd hc) it lo 1 n
    refine W.item i s _ _ hg st fun v h' tk hv st' kk => ?_
    obtain ⟨t,rfl⟩ := hv
    have I1 : Inv X pins σ H { s with heap := h',toks := tk } := I.turned (fun b o hb e => kk b o (by simpa using hb) e) f0 f1 f3 f4 f5
    refine ⟨_,rfl,zpH (s := { s with heap := h',toks := tk }) (n := "range_iterator") st' rfl rfl (by decide) ⟨.int (lo + i),H,I1,⟨t,?_⟩,⟨rfl,rfl⟩,st',fun b hb => (hf b hb).1⟩⟩
    rw [Int.mul_one]
  done := by
    intro X hP hw hK hc i pins s σ H E I hf st hg
    subst hP hw hK
    obtain ⟨f0,f1,f2,f3,f4,f5⟩ := hf it (by simp)
    exact wpAny_pyNext_range_end (I.ok.hd hc) st (by have : n≤i := hg; omega) fun h' eb => ⟨rfl,I.turned (t' := s.toks) (fun b o hb e => eb b o hb e) f0 f1 f3 f4 f5⟩
  self := fun _ _ _ _ _ st h => wpAny_pyIter_rangeiter st h
end L2
namespace L2
open PySem PySem.Spec PyProof.Rows
section
variable {X : Cx} {tg : Expr}
theorem zm8 {pins : List (Addr × Obj)} {σ : St} {H : Hp} {s : Shared} {R : It→Hp→Prop} {E : Value→Shared→Prop} {lo hi : Int} {t u v : Tok} {tk : Nat} (I : Inv X pins σ H s) (h1 : -(2 ^ 62)≤lo) (h2 : lo < 2 ^ 62) (h3 : -(2 ^ 62)≤hi) (h4 : hi < 2 ^ 62)
    (q : R (Itr lo (hi - lo).toNat) H) : wpAny (model X.prog X.w) X.A (pyIter (.ref s.heap.objs.size)) (PIE X pins σ tg R) E { s with heap := s.heap.push { cls := .type "range",data := .fields #[.int lo t,.int hi u,.int 1 v] },toks := tk } := by
  refine wpAny_pyIter_range (IsRange.new ..) (small_one h1 h2 h3 h4) ?_
  have I1 : Inv X pins σ H { s with heap := s.heap.push { cls := .type "range",data := .fields #[.int lo t,.int hi u,.int 1 v] },toks := tk } := I.kept fun b o e => Heap.get?_push_of_some _ e
  refine ⟨(s.heap.push { cls := .type "range",data := .fields #[.int lo t,.int hi u,.int 1 v] }).objs.size,[(s.heap.push { cls := .type "range",data := .fields #[.int lo t,.int hi u,.int 1 v] }).objs.size],_,_,H,rfl,
    I1.kept (t' := tk) fun b o e => Heap.get?_push_of_some _ e,zj8 _ lo (hi - lo).toNat,?_,fun b hb => ?_,q⟩
  · have e1 : lo + ((0 : Nat) : Int) * 1 = lo := by simp
    have e2 : (((hi - lo).toNat : Nat) : Int) - ((0 : Nat) : Int) = Builtin.Range.rangeSize lo hi 1 := by rw [rangeSize_one]; split <;> omega
    show IsRangeIter _ _ (lo + ((0 : Nat) : Int) * 1) ((((hi - lo).toNat : Nat) : Int) - ((0 : Nat) : Int)) 1
    rw [e1,e2]
    exact Heap.get?_push_size _ rfl
  · have e : b = (s.heap.push { cls := .type "range",data := .fields #[.int lo t,.int hi u,.int 1 v] }).objs.size := by simpa using hb
    subst e
    exact I1.fpOk (Nat.le_refl _) (I1.hok.fresh (Nat.le_refl _))
noncomputable def zsZ (ta : TA) : TI := fun σ H R => ta σ H fun vs H1 => ∃ j : Int,vs = [.int j]∧-(2 ^ 62)≤j∧j < 2 ^ 62∧R (Itr 0 j.toNat) H1
theorem zls {a : Expr} {ta : TA} {p pos : Pos} (hg : Gl X "range") (hm : X.mg "range" = none) (ha : PA X [a] ta) (hs : starEach [a] X.env = [(false,eval a X.env)] := by rfl) : PI X tg (.Call (.Name "range" p) [a] [] pos) (zsZ ta) := by
  intro pins s σ H R I h
  refine Call_ (zib I hg hm boot_range (PyProof.Rows.callWith_type1 (thn (ha pos pins s σ H _ I h) fun us s1 ⟨vs,H1,I1,r1,q1⟩ => ?_) hs rfl))
  obtain ⟨j,e,q1,q2,q⟩ := q1
  subst e
  cases r1 with
  | cons r rr =>
    cases rr
    obtain ⟨t,rfl⟩ := r
    exact call_range_1 (zm8 I1 (by omega) (by omega) q1 q2 (by simpa using q))
noncomputable def tFor (wi : TI) (g : TG) (tb : TS) : TS := fun D σ H => wi σ H fun J H1 => ∃ W : Nat→Nat→St→Hp→Prop,(∃ m,W 0 m σ H1)∧∀ i m σ H,W i m σ H →
  (J.stop i H∧D.nx σ H)∨(J.go i H∧∃ N : St→Hp→Prop,(∀ σ' H',N σ' H'→∃ m',m' < m∧W (i + 1) m' σ' H')∧∀ x H',J.yld i H x H'→g x σ H' fun σ2 H2 => tb { D with nx := N,ct := N,bk := D.nx } σ2 H2)
noncomputable def zh1 (fp : List Addr) (h : Heap) : List (Addr × Obj) := fp.filterMap fun b => (h.get? b).map fun o => (b,o)
theorem zdQ {fp : List Addr} {h : Heap} {b : Addr} {o : Obj} (hb : b∈fp) (e : h.get? b = some o) : (b,o)∈zh1 fp h := List.mem_filterMap.mpr ⟨b,hb,by rw [e]; rfl⟩
theorem zlE {fp : List Addr} {h : Heap} {p : Addr × Obj} (hp : p∈zh1 fp h) : p.1∈fp∧h.get? p.1 = some p.2 := by
  obtain ⟨b,hb,e⟩ := List.mem_filterMap.mp hp
  cases q : h.get? b with
  | none => rw [q] at e; cases e
  | some o =>
    rw [q] at e
    have e' : (b,o) = p := Option.some.inj e
    subst e'
    exact ⟨hb,q⟩
theorem Inv.pinned {pins : List (Addr × Obj)} {σ : St} {H : Hp} {s : Shared} {fp : List Addr} (I : Inv X pins σ H s) (hf : ∀ b∈fp,FpOk X pins H b) (ho : ∀ b∈fp,∃ o,s.heap.get? b = some o∧∀ v,o.data≠.cell v) : Inv X (pins++zh1 fp s.heap) σ H s :=
  I.pins_of fun p hp => (List.mem_append.mp hp).elim (fun z => I.pin p (List.mem_append_right _ z)) fun z => by
    obtain ⟨hb,e⟩ := zlE z
    obtain ⟨f0,f1,f2,_⟩ := hf p.1 hb
    obtain ⟨o,e',d⟩ := ho p.1 hb
    rw [e] at e'; cases e'
    exact ⟨e,f0,f1,f2,d⟩
theorem Inv.unpinned {pins pl : List (Addr × Obj)} {σ : St} {H : Hp} {s : Shared} (I : Inv X (pins++pl) σ H s) : Inv X pins σ H s := I.pins_of fun p hp => I.pin p (List.mem_append_right _ (List.mem_append_left _ hp))
theorem zll {iter : Expr} {body : List Stmt} {wi : TI} {g : TG} {tb : TS} {pos : Pos} (hp : PassesOwn (model X.prog X.w) X.A X.env X.xe) (hc : X.calm = true) (hi : PI X tg iter wi) (hg : PG X tg g) (hb : PSs X body tb)
    (hs : ∀ x,foldedSetIterable iter X.env x = pure x := by intro _; rfl) : PS X (.For tg iter body [] pos) (tFor wi g tb) := by
  intro pins s σ H D I h
  refine wpAny_For (thn (hi pins s σ H _ I h) fun v s1 h1 => thn h1 fun itv s2 h2 => ?_) hs
  obtain ⟨it,fp,tn,J,H2,e,I2,T,st2,f2,W,⟨m0,w0⟩,turn⟩ := h2
  subst e
  have stat : ∀ {H' : Hp},(∀ b∈fp,H' b = none)→∀ b∈fp,FpOk X pins H' b := fun hn b hb => ⟨hn b hb,(f2 b hb).2⟩
  refine codeAny_forLoop_any (fun n s' => ∃ i σ' H',Inv X pins σ' H' s'∧tn i s'.heap∧(∀ b∈fp,H' b = none)∧W i n σ' H') ?_ m0 ⟨0,σ,H2,I2,st2,fun b hb => (f2 b hb).1,w0⟩
  rintro n s3 ⟨i,σ3,H3,I3,st3,fr3,w3⟩
  rcases turn i n σ3 H3 w3 with ⟨stop,qn⟩ | ⟨go,N,hN,step⟩
  · refine wpAny_passesOwn hp (thn (T.done X rfl rfl rfl hc i pins s3 σ3 H3 X.xe I3 (stat fr3) st3 stop) fun r s4 ⟨hr,I4⟩ => ?_)
    subst hr
    exact wpAny_execs_nil ⟨σ3,H3,I4,qn⟩
  · refine wpAny_passesOwn hp (thn (T.item X rfl rfl rfl hc i pins s3 σ3 H3 X.xe I3 (stat fr3) st3 go) fun r s4 ⟨u,hr,h4⟩ => ?_)
    subst hr
    refine wpAny_passesOwn hp (thn h4 fun _ s5 ⟨x,H5,I5,r5,y5,st5,fr5⟩ => ?_)
    have I5' := I5.pinned (stat fr5) (T.obj _ _ st5)
    refine wpAny_passesOwn hp (thn (hg _ s5 σ3 H5 x u _ I5' r5 (step x H5 y5)) fun _ s6 ⟨σ6,H6,I6,q6⟩ => ?_)
    refine wpAny_passesOwn hp (thn (hb _ s6 σ6 H6 _ I6 q6) fun f s7 q7 => ?_)
    have again : ∀ {σ7 : St} {H7 : Hp},Inv X (pins++zh1 fp s5.heap) σ7 H7 s7→N σ7 H7→∃ m,m < n∧∃ i σ' H',Inv X pins σ' H' s7∧tn i s7.heap∧(∀ b∈fp,H' b = none)∧W i m σ' H' := fun {σ7 H7} I7 n7 => by
      obtain ⟨m',hm,w7⟩ := hN σ7 H7 n7
      refine ⟨m',hm,i + 1,σ7,H7,I7.unpinned,T.keep _ _ _ st5 fun b hb o e => (I7.pin (b,o) (List.mem_append_right _ (List.mem_append_right _ (zdQ hb e)))).1,fun b hb => ?_,w7⟩
      obtain ⟨o,e,d⟩ := T.obj _ _ st5 b hb
      exact (I7.pin (b,o) (List.mem_append_right _ (List.mem_append_right _ (zdQ hb e)))).2.1
    cases f with
    | next => obtain ⟨σ7,H7,I7,n7⟩ := q7; exact again I7 n7
    | cont => obtain ⟨σ7,H7,I7,n7⟩ := q7; exact again I7 n7
    | brk => obtain ⟨σ7,H7,I7,q7⟩ := q7; exact ⟨σ7,H7,I7.unpinned,q7⟩
    | ret v => obtain ⟨x7,σ7,H7,I7,r7,q7⟩ := q7; exact ⟨x7,σ7,H7,I7.unpinned,r7,q7⟩
end
end L2
namespace L2
open PySem PySem.Spec PyProof.Rows
noncomputable abbrev R2 := V→V→Hp→VK→Prop
noncomputable def OpR (X : Cx) (f : Value→Value→Sem Value) (r : R2) : Prop :=
  ∀ (pins : List (Addr × Obj)) (s : Shared) (σ : St) (H : Hp) (x y : V) (v u : Value) (Q : VK),Inv X pins σ H s→RelV x v→RelV y u→r x y H Q →
    wpAny (model X.prog X.w) X.A (f v u) (EP X pins σ Q) X.xe s
noncomputable def UnR (X : Cx) (f : Value→Sem Value) (r : V→Hp→VK→Prop) : Prop :=
  ∀ (pins : List (Addr × Obj)) (s : Shared) (σ : St) (H : Hp) (x : V) (v : Value) (Q : VK),Inv X pins σ H s→RelV x v→r x H Q →
    wpAny (model X.prog X.w) X.A (f v) (EP X pins σ Q) X.xe s
noncomputable def zdC (X : Cx) (f : Value) (r : List V→Hp→VK→Prop) : Prop :=
  ∀ (pins : List (Addr × Obj)) (s : Shared) (σ : St) (H : Hp) (xs : List V) (us : List Value) (Q : VK),Inv X pins σ H s→Vals xs us→r xs H Q →
    wpAny (model X.prog X.w) X.A (call f us) (EP X pins σ Q) X.xe s
noncomputable def TruR (X : Cx) (r : V→Hp→(Bool→Hp→Prop)→Prop) : Prop :=
  ∀ (pins : List (Addr × Obj)) (s : Shared) (σ : St) (H : Hp) (x : V) (v : Value) (Q : Bool→Hp→Prop),Inv X pins σ H s→RelV x v→r x H Q →
    wpAny (model X.prog X.w) X.A (truthy v) (TP X pins σ Q) X.xe s
noncomputable def tOp (r : R2) (ta tb : TE) : TE := fun σ H Q => ta σ H fun x H1 => tb σ H1 fun y H2 => r x y H2 Q
noncomputable def tUn (r : V→Hp→VK→Prop) (ta : TE) : TE := fun σ H Q => ta σ H fun x H1 => r x H1 Q
noncomputable def rI (C : Int→Int→Prop) (g : Int→Int→V) : R2 := fun x y H Q => ∃ i j,x = .int i∧y = .int j∧C i j∧Q (g i j) H
noncomputable def rI0 (g : Int→Int→V) : R2 := fun x y H Q => ∃ i j,x = .int i∧y = .int j∧Q (g i j) H
noncomputable def rU (g : Int→V) : V→Hp→VK→Prop := fun x H Q => ∃ i,x = .int i∧Q (g i) H
section
variable {X : Cx} {a b c : Expr} {ta tb tc : TE} {pos : Pos}
theorem binT (ha : PE X a ta) (hb : PE X b tb) {pins : List (Addr × Obj)} {s : Shared} {σ : St} {H : Hp} {R : V→V→Hp→Prop} (I : Inv X pins σ H s)
    (h : ta σ H fun x H1 => tb σ H1 fun y H2 => R x y H2) {Q : Value→Shared→Prop} {f : Value→Value→Sem Value}
    (hf : ∀ v u s2 x y H2,Inv X pins σ H2 s2→RelV x v→RelV y u→R x y H2→wpAny (model X.prog X.w) X.A (f v u) Q X.xe s2) :
    wpAny (model X.prog X.w) X.A (eval a X.env) (fun v s₁ => wpAny (model X.prog X.w) X.A (eval b X.env) (fun u s₂ => wpAny (model X.prog X.w) X.A (f v u) Q X.xe s₂) X.xe s₁) X.xe s := by
  refine thn (ha pins s σ H _ I h) fun v s1 ⟨x,H1,I1,r1,q1⟩ => ?_
  refine thn (hb pins s1 σ H1 _ I1 q1) fun u s2 ⟨y,H2,I2,r2,q2⟩ => ?_
  exact hf v u s2 x y H2 I2 r1 r2 q2
theorem zqY {op : Operator} {r : R2} (ho : OpR X (binaryOp op) r) (ha : PE X a ta) (hb : PE X b tb) : PE X (.BinOp a op b pos) (tOp r ta tb) := by
  intro pins s σ H Q I h
  exact wpAny_BinOp (binT ha hb I h fun v u s2 x y H2 I2 rx ry q => ho pins s2 σ H2 x y v u Q I2 rx ry q)
theorem zsF {op : UnaryOp} {r : V→Hp→VK→Prop} (ho : UnR X (unaryOp op) r) (ha : PE X a ta) : PE X (.UnaryOp op a pos) (tUn r ta) := by
  intro pins s σ H Q I h
  exact UnaryOp_ (thn (ha pins s σ H _ I h) fun v s1 ⟨x,H1,I1,r1,q1⟩ => ho pins s1 σ H1 x v Q I1 r1 q1)
theorem opI {f : Value→Value→Sem Value} {C : Int→Int→Prop} {g : Int→Int→Int}
    (rule : ∀ (i j : Int) (t u : Tok) (s : Shared) (Q : Value→Shared→Prop) (E : Value→Shared→Prop),C i j→Q (.int (g i j) s.toks) { s with toks := s.toks + 1 }→wpAny (model X.prog X.w) X.A (f (.int i t) (.int j u)) Q E s) :
    OpR X f (rI C fun i j => .int (g i j)) := by
  intro pins s σ H x y v u Q I rx ry h
  obtain ⟨i,j,rfl,rfl,hc,q⟩ := h
  obtain ⟨t,rfl⟩ := rx
  obtain ⟨t',rfl⟩ := ry
  exact rule i j t t' s _ _ hc ⟨.int (g i j),H,I.tok _,⟨_,rfl⟩,q⟩
theorem opI0 {f : Value→Value→Sem Value} {g : Int→Int→Int}
    (rule : ∀ (i j : Int) (t u : Tok) (s : Shared) (Q : Value→Shared→Prop) (E : Value→Shared→Prop),Q (.int (g i j) s.toks) { s with toks := s.toks + 1 }→wpAny (model X.prog X.w) X.A (f (.int i t) (.int j u)) Q E s) :
    OpR X f (rI0 fun i j => .int (g i j)) := by
  intro pins s σ H x y v u Q I rx ry h
  obtain ⟨i,j,rfl,rfl,q⟩ := h
  obtain ⟨t,rfl⟩ := rx
  obtain ⟨t',rfl⟩ := ry
  exact rule i j t t' s _ _ ⟨.int (g i j),H,I.tok _,⟨_,rfl⟩,q⟩
theorem opB0 {f : Value→Value→Sem Value} {g : Int→Int→Bool}
    (rule : ∀ (i j : Int) (t u : Tok) (s : Shared) (Q : Value→Shared→Prop) (E : Value→Shared→Prop),Q (.bool (g i j)) s→wpAny (model X.prog X.w) X.A (f (.int i t) (.int j u)) Q E s) :
    OpR X f (rI0 fun i j => .bl (g i j)) := by
  intro pins s σ H x y v u Q I rx ry h
  obtain ⟨i,j,rfl,rfl,q⟩ := h
  obtain ⟨t,rfl⟩ := rx
  obtain ⟨t',rfl⟩ := ry
  exact rule i j t t' s _ _ ⟨.bl (g i j),H,I,rfl,q⟩
noncomputable def CDiv (i j : Int) : Prop := 0 < j∧j < 1073741824
noncomputable def CPow (i j : Int) : Prop := 0≤j∧j≤1000000∧i.natAbs < 2 ^ 64
noncomputable def CMul (i j : Int) : Prop := (-(2 ^ 64) < i∧i < 2 ^ 64)∨(-(2 ^ 64) < j∧j < 2 ^ 64)
theorem CMul.ok {i j : Int} (h : CMul i j) : IntMulOk i j := by
  rcases h with ⟨h1,h2⟩ | ⟨h1,h2⟩
  · exact .of_left (intBits_le_64 h1 h2)
  · exact .of_right (intBits_le_64 h1 h2)
theorem zoi : OpR X (binaryOp .Add) (rI0 fun i j => .int (i + j)) := opI0 fun _ _ _ _ _ _ _ q => add_int q
theorem zq9 : OpR X (binaryOp .Mult) (rI CMul fun i j => .int (i * j)) := opI fun _ _ _ _ _ _ _ hc q => mul_int q hc.ok
theorem zpj : OpR X (binaryOp .FloorDiv) (rI CDiv fun i j => .int (i / j)) := opI fun i j _ _ _ _ _ hc q => by
  have h1 : (0 : Int) < j := hc.1
  have h2 : j < 1073741824 := hc.2
  exact floordiv_int (by omega) (by rw [Int.fdiv_eq_ediv_of_nonneg i (by omega)]; exact q) (.inl (PyProof.noPylong_small (by omega)))
theorem zra : OpR X (binaryOp .Mod) (rI (fun _ j => 0 < j) fun i j => .int (i % j)) := opI fun i j _ _ _ _ _ hc q => by
  have h1 : (0 : Int) < j := hc
  exact mod_int' (by omega) (by rw [Int.fmod_eq_emod_of_nonneg i (by omega)]; exact q)
theorem zq8 : OpR X (binaryOp .Pow) (rI CPow fun i j => .int (i ^ j.toNat)) := opI fun _ _ _ _ _ _ _ hc q => pow_int_small hc.1 hc.2.1 hc.2.2 q
theorem unI {f : Value→Sem Value} {g : Int→Int}
    (rule : ∀ (i : Int) (t : Tok) (s : Shared) (Q : Value→Shared→Prop) (E : Value→Shared→Prop),Q (.int (g i) s.toks) { s with toks := s.toks + 1 }→wpAny (model X.prog X.w) X.A (f (.int i t)) Q E s) :
    UnR X f (rU fun i => .int (g i)) := by
  intro pins s σ H x v Q I rx h
  obtain ⟨i,rfl,q⟩ := h
  obtain ⟨t,rfl⟩ := rx
  exact rule i t s _ _ ⟨.int (g i),H,I.tok _,⟨_,rfl⟩,q⟩
theorem zp5 : UnR X (unaryOp .USub) (rU fun i => .int (-i)) := unI fun _ _ _ _ _ q => neg_int q
end
noncomputable def scal : V→V→Bool
  | .non,.non => true | .non,.int _ => true | .int _,.non => true | .non,.bl _ => true | .bl _,.non => true | .non,.str _ => true | .str _,.non => true
  | .int _,.int _ => true | .bl _,.bl _ => true | .str _,.str _ => true | .byt _,.byt _ => true
  | .int _,.str _ => true | .str _,.int _ => true | .bl _,.str _ => true | .str _,.bl _ => true
  | _,_ => false
noncomputable def rEq : R2 := fun x y H Q => scal x y = true∧Q (.bl (decide (x = y))) H
noncomputable def rNe : R2 := fun x y H Q => scal x y = true∧Q (.bl (! decide (x = y))) H
theorem zi8 {i j : Int} : decide (V.int i = V.int j) = (i == j) := by
  rw [Bool.eq_iff_iff]
  simp
theorem zmn {i j : Bool} : decide (V.bl i = V.bl j) = (i == j) := by
  rw [Bool.eq_iff_iff]
  simp
theorem zi7 {i j : Str} : decide (V.str i = V.str j) = (i == j) := by
  rw [Bool.eq_iff_iff]
  simp
theorem zmm {i j : Array UInt8} : decide (V.byt i = V.byt j) = (i.toList == j.toList) := by
  rw [Bool.eq_iff_iff]
  cases i
  cases j
  simp
section
variable {X : Cx} {a b c : Expr} {ta tb tc : TE} {pos : Pos}
theorem zaI {pins : List (Addr × Obj)} {σ : St} {H : Hp} {s : Shared} {Q : VK} {k k' : Bool} (I : Inv X pins σ H s) (q : Q (.bl k) H) (e : k = k') : EP X pins σ Q (.bool k') s := by
  subst e
  exact ⟨.bl k,H,I,rfl,q⟩
theorem zrg : OpR X (compareOp .Eq) rEq := by
  intro pins s σ H x y v u Q I rx ry h
  obtain ⟨hs,q⟩ := h
  cases x with
  | non =>
    cases rx
    cases y with
    | non => cases ry; exact PySem.EqNone.eq_none_none (zaI I q (by simp))
    | bl j => cases ry; exact PySem.EqNone.eq_none_bool (zaI I q (by simp))
    | int j => obtain ⟨t',rfl⟩ := ry; exact PySem.EqNone.eq_none_int (zaI I q (by simp))
    | str j => obtain ⟨t',rfl⟩ := ry; exact PySem.EqNone.eq_none_str (zaI I q (by simp))
    | _ => exact absurd (show false = true from hs) Bool.false_ne_true
  | bl i =>
    cases rx
    cases y with
    | non => cases ry; exact PySem.EqNone.eq_bool_none (zaI I q (by simp))
    | bl j => cases ry; exact eq_bool (zaI I q zmn)
    | str j => obtain ⟨t',rfl⟩ := ry; exact PySem.EqMixed.eq_bool_str (zaI I q (by simp))
    | _ => exact absurd (show false = true from hs) Bool.false_ne_true
  | int i =>
    obtain ⟨t,rfl⟩ := rx
    cases y with
    | non => cases ry; exact PySem.EqNone.eq_int_none (zaI I q (by simp))
    | int j => obtain ⟨t',rfl⟩ := ry; exact eq_int (zaI I q zi8)
    | str j => obtain ⟨t',rfl⟩ := ry; exact PySem.EqMixed.eq_int_str (zaI I q (by simp))
    | _ => exact absurd (show false = true from hs) Bool.false_ne_true
  | str i =>
    obtain ⟨t,rfl⟩ := rx
    cases y with
    | non => cases ry; exact PySem.EqNone.eq_str_none (zaI I q (by simp))
    | bl j => cases ry; exact PySem.EqMixed.eq_str_bool (zaI I q (by simp))
    | int j => obtain ⟨t',rfl⟩ := ry; exact PySem.EqMixed.eq_str_int (zaI I q (by simp))
    | str j => obtain ⟨t',rfl⟩ := ry; exact eq_str (zaI I q zi7)
    | _ => exact absurd (show false = true from hs) Bool.false_ne_true
  | byt i =>
    obtain ⟨t,rfl⟩ := rx
    cases y with
    | byt j => obtain ⟨t',rfl⟩ := ry; exact PySem.W.eq_bytes (zaI I q zmm)
    | _ => exact absurd (show false = true from hs) Bool.false_ne_true
  | _ => cases y <;> exact absurd (show false = true from hs) Bool.false_ne_true
theorem zsJ : OpR X (compareOp .NotEq) rNe := by
  intro pins s σ H x y v u Q I rx ry h
  obtain ⟨hs,q⟩ := h
  cases x with
  | non =>
    cases rx
    cases y with
    | non => cases ry; exact PySem.EqNone.ne_none_none (zaI I q (by simp))
    | bl j => cases ry; exact PySem.EqNone.ne_none_bool (zaI I q (by simp))
    | int j => obtain ⟨t',rfl⟩ := ry; exact PySem.EqNone.ne_none_int (zaI I q (by simp))
    | str j => obtain ⟨t',rfl⟩ := ry; exact PySem.EqNone.ne_none_str (zaI I q (by simp))
    | _ => exact absurd (show false = true from hs) Bool.false_ne_true
  | bl i =>
    cases rx
    cases y with
    | non => cases ry; exact PySem.EqNone.ne_bool_none (zaI I q (by simp))
    | bl j => cases ry; exact ne_bool (zaI I q (congrArg not zmn))
    | str j => obtain ⟨t',rfl⟩ := ry; exact PySem.EqMixed.ne_bool_str (zaI I q (by simp))
    | _ => exact absurd (show false = true from hs) Bool.false_ne_true
  | int i =>
    obtain ⟨t,rfl⟩ := rx
    cases y with
    | non => cases ry; exact PySem.EqNone.ne_int_none (zaI I q (by simp))
    | int j => obtain ⟨t',rfl⟩ := ry; exact ne_int (zaI I q (congrArg not zi8))
    | str j => obtain ⟨t',rfl⟩ := ry; exact PySem.EqMixed.ne_int_str (zaI I q (by simp))
    | _ => exact absurd (show false = true from hs) Bool.false_ne_true
  | str i =>
    obtain ⟨t,rfl⟩ := rx
    cases y with
    | non => cases ry; exact PySem.EqNone.ne_str_none (zaI I q (by simp))
    | bl j => cases ry; exact PySem.EqMixed.ne_str_bool (zaI I q (by simp))
    | int j => obtain ⟨t',rfl⟩ := ry; exact PySem.EqMixed.ne_str_int (zaI I q (by simp))
    | str j => obtain ⟨t',rfl⟩ := ry; exact ne_str (zaI I q (congrArg not zi7))
    | _ => exact absurd (show false = true from hs) Bool.false_ne_true
  | byt i =>
    obtain ⟨t,rfl⟩ := rx
    cases y with
    | byt j => obtain ⟨t',rfl⟩ := ry; exact PySem.W.ne_bytes (zaI I q (congrArg not zmm))
    | _ => exact absurd (show false = true from hs) Bool.false_ne_true
  | _ => cases y <;> exact absurd (show false = true from hs) Bool.false_ne_true
theorem zrb : OpR X (compareOp .Lt) (rI0 fun i j => .bl (decide (i < j))) := opB0 fun _ _ _ _ _ _ _ q => lt_int q
theorem zsK : OpR X (compareOp .LtE) (rI0 fun i j => .bl (decide (i≤j))) := opB0 fun _ _ _ _ _ _ _ q => le_int q
theorem zrf : OpR X (compareOp .Gt) (rI0 fun i j => .bl (decide (j < i))) := opB0 fun _ _ _ _ _ _ _ q => gt_int q
theorem zlB : OpR X (compareOp .In) (fun x y H Q => ∃ i j,x = .str i∧y = .str j∧Q (.bl (!(Builtin.Str.occurrences j i 0 j.length 1).isEmpty)) H) := by
  intro pins s σ H x y v u Q I rx ry h
  obtain ⟨i,j,rfl,rfl,q⟩ := h
  obtain ⟨t,rfl⟩ := rx
  obtain ⟨t',rfl⟩ := ry
  exact in_str (zaI I q rfl)
theorem zrc : OpR X (compareOp .Is) (fun x y H Q => y = .non∧Q (.bl (decide (x = .non))) H) := by
  intro pins s σ H x y v u Q I rx ry h
  obtain ⟨rfl,q⟩ := h
  cases ry
  refine is_none_gen (zaI I q ?_)
  cases x <;> first
    | (cases rx; rfl)
    | (obtain ⟨t,rfl⟩ := rx; rfl)
theorem zpf : OpR X (compareOp .IsNot) (fun x y H Q => y = .non∧Q (.bl (! decide (x = .non))) H) := by
  intro pins s σ H x y v u Q I rx ry h
  obtain ⟨rfl,q⟩ := h
  cases ry
  refine isnot_none_gen (zaI I q ?_)
  cases x <;> first
    | (cases rx; rfl)
    | (obtain ⟨t,rfl⟩ := rx; rfl)
theorem OpR.or {f : Value→Value→Sem Value} {r r' : R2} (h : OpR X f r) (h' : OpR X f r') : OpR X f (fun x y H Q => r x y H Q∨r' x y H Q) := by
  intro pins s σ H x y v u Q I rx ry q
  rcases q with q | q
  · exact h pins s σ H x y v u Q I rx ry q
  · exact h' pins s σ H x y v u Q I rx ry q
theorem zfm (b : Expr) {op : CmpOp} (h : op≠.In := by decide) (h2 : op≠.NotIn := by decide) : behindInMarks op b = false := by
  have e1 : (op == CmpOp.In) = false := by cases op <;> first | rfl | exact absurd rfl h
  have e2 : (op == CmpOp.NotIn) = false := by cases op <;> first | rfl | exact absurd rfl h2
  cases b <;> simp [behindInMarks,e1,e2]
theorem zpc {op : CmpOp} {r : R2} (ho : OpR X (compareOp op) r) (ha : PE X a ta) (hb : PE X b tb) (hm : behindInMarks op b = false) : PE X (.Compare a [op] [b] pos) (tOp r ta tb) := by
  intro pins s σ H Q I h
  exact wpAny_Compare1 (binT ha hb I h fun v u s2 x y H2 I2 rx ry q => ho pins s2 σ H2 x y v u Q I2 rx ry q) hm
noncomputable def zsj (t : TE) : TT := fun σ H Q => t σ H fun x H' => ∃ k,x = .bl k∧Q k H'
theorem zo4 {op : CmpOp} {r : R2} (ho : OpR X (compareOp op) r) (ha : PE X a ta) (hb : PE X b tb) (hm : behindInMarks op b = false) : PT X (.Compare a [op] [b] pos) (zsj (tOp r ta tb)) := by
  intro pins s σ H Q I h
  refine wpAny_isTrue_Compare1 (thn (ha pins s σ H _ I h) fun v s1 ⟨x,H1,I1,r1,q1⟩ => thn (hb pins s1 σ H1 _ I1 q1) fun u s2 ⟨y,H2,I2,r2,q2⟩ =>
    thn (ho pins s2 σ H2 x y v u _ I2 r1 r2 q2) fun c s3 ⟨z,H3,I3,r3,k,e,q3⟩ => ?_) hm
  subst e
  cases r3
  exact wpAny_truthy_bool ⟨H3,I3,q3⟩
noncomputable def zn3 (r r' : R2) (ta tb tc : TE) : TE := fun σ H Q => ta σ H fun x H1 => tb σ H1 fun y H2 => r x y H2 fun z H3 => ∃ k,z = .bl k ∧
  (if k = true then tc σ H3 fun w' H4 => r' y w' H4 Q else Q (.bl false) H3)
theorem znm {op op' : CmpOp} {r r' : R2} (ho : OpR X (compareOp op) r) (ho' : OpR X (compareOp op') r') (ha : PE X a ta) (hb : PE X b tb) (hc : PE X c tc)
    (hm : lastMarks [op,op'] [b,c] = false := by with_unfolding_all rfl) : PE X (.Compare a [op,op'] [b,c] pos) (zn3 r r' ta tb tc) := by
  intro pins s σ H Q I h
  refine Compare_chain (thn (ha pins s σ H _ I h) fun v s1 ⟨x,H1,I1,r1,q1⟩ => chain_link (thn (hb pins s1 σ H1 _ I1 q1) fun u s2 ⟨y,H2,I2,r2,q2⟩ =>
    thn (ho pins s2 σ H2 x y v u _ I2 r1 r2 q2) fun d s3 ⟨z,H3,I3,r3,k,e,q3⟩ => ?_)) hm
  subst e
  cases r3
  refine wpAny_truthy_bool ?_
  cases k with
  | false => exact ite_ff ⟨.bl false,H3,I3,rfl,q3⟩
  | true => exact ite_tt (chain_last (thn (hc pins s3 σ H3 _ I3 q3) fun w' s4 ⟨z',H4,I4,r4,q4⟩ => ho' pins s4 σ H4 y z' u w' Q I4 r2 r4 q4))
noncomputable def TruV (K : PySem.W.Frag) (x : V) (H : Hp) (k : Bool) : Prop :=
  match x with
  | .non => k = false
  | .bl b => k = b
  | .int i => k = (i != 0)
  | .str y => y.length≤sizeLine∧k = ((y.length : Int) != 0)
  | .byt y => y.size≤sizeLine∧k = ((y.size : Int) != 0)
  | .ref p => (∃ xs,SqL K H p xs∧k = ! xs.isEmpty)∨(∃ xs,SqT K H p xs∧k = ! xs.isEmpty)∨∃ kvs,Rd H p (.dK kvs)∧k = ! kvs.isEmpty
  | _ => False
theorem zkz {κ : Type} {kvs : List (κ × V)} {vs : List (κ × Value)} (r : KV kvs vs) : (! vs.isEmpty) = ! kvs.isEmpty := by
  cases r <;> rfl
theorem zgP {xs : List V} {its : List Value} (r : Vals xs its) : (! its.toArray.isEmpty) = ! xs.isEmpty := by
  cases r <;> simp
theorem zgO : (sizeLine : Nat) < 2 ^ 63 := by rw [sizeLine_eq]; decide
theorem zqa : TruR X (fun x H Q => ∃ k,TruV X.K x H k∧Q k H) := by
  intro pins s σ H x v Q I rx h
  obtain ⟨k,e,q⟩ := h
  have hl := zgO
  have hs : sizeLine = 16777216 := sizeLine_eq
  cases x with
  | non =>
    cases rx
    have e' : k = false := e
    subst e'
    exact truthy_none ⟨H,I,q⟩
  | bl b =>
    cases rx
    have e' : k = b := e
    subst e'
    exact wpAny_truthy_bool ⟨H,I,q⟩
  | int i =>
    obtain ⟨t,rfl⟩ := rx
    have e' : k = (i != 0) := e
    subst e'
    exact PySem.P.truthy_int ⟨H,I,q⟩
  | str y =>
    obtain ⟨t,rfl⟩ := rx
    obtain ⟨hy,e'⟩ : y.length≤sizeLine∧k = ((y.length : Int) != 0) := e
    subst e'
    exact PySem.P.truthy_str (by omega) ⟨H,I.tok _,q⟩
  | byt y =>
    obtain ⟨t,rfl⟩ := rx
    obtain ⟨hy,e'⟩ : y.size≤sizeLine∧k = ((y.size : Int) != 0) := e
    subst e'
    exact PySem.W.truthy_bytes (by omega) ⟨H,I.tok _,q⟩
  | ref p =>
    cases rx
    have e' : (∃ xs,SqL X.K H p xs∧k = ! xs.isEmpty)∨(∃ xs,SqT X.K H p xs∧k = ! xs.isEmpty)∨∃ kvs,Rd H p (.dK kvs)∧k = ! kvs.isEmpty := e
    rcases e' with ⟨xs,hx,e'⟩ | ⟨xs,hx,e'⟩ | ⟨kvs,hx,e'⟩
    · subst e'
      obtain ⟨its,r,pl,hz⟩ := I.list hx
      have hlen := r.length
      exact wpAny_truthy_list pl.isList (by simp only [List.size_toArray]; omega) ⟨H,I.tok _,by rw [zgP r]; exact q⟩
    · subst e'
      obtain ⟨its,r,pl,hz⟩ := I.tuple hx
      have hlen := r.length
      exact truthy_tuple pl (by simp only [List.size_toArray]; omega) ⟨H,I.tok _,by rw [zgP r]; exact q⟩
    · subst e'
      obtain ⟨hz,hS,vs,r,m⟩ : kvs.length≤sizeLine∧(p == sysModules) = false∧∃ vs,KV kvs vs∧s.heap.DictOf (zbb X.prog X.w) p vs := hx.ok I.hok
      have hlen : kvs.length = vs.length := Paired.length r
      exact wpAny_truthy_dict hS m (by omega) ⟨H,I.tok _,by rw [zkz r]; exact q⟩
  | _ => exact (show False from e).elim
theorem znc (ha : PE X a ta) (he : ∀ whole,isTrue a X.env whole = (do let v ← whole; standAt a.pos; holding [v] (truthy v))) :
    PT X a (fun σ H Q => ta σ H fun x H' => ∃ k,TruV X.K x H' k∧Q k H') := by
  intro pins s σ H Q I h
  exact isTrue_plain (thn (ha pins s σ H _ I h) fun v s1 ⟨x,H1,I1,r1,q1⟩ => zqa pins s1 σ H1 x v Q I1 r1 q1) (he _)
theorem zgL : OpR X (binaryOp .Add) (fun x y H Q => ∃ i j,x = .str i∧y = .str j∧i.length + j.length≤sizeLine∧Q (.str (i++j)) H) := by
  intro pins s σ H x y v u Q I rx ry h
  obtain ⟨i,j,rfl,rfl,hz,q⟩ := h
  obtain ⟨t,rfl⟩ := rx
  obtain ⟨t',rfl⟩ := ry
  exact add_str (fun t' tk => ⟨.str (i++j),H,I.tok _,⟨_,rfl⟩,q⟩) hz
theorem zeW {x : V} {us : List Value} (r : Vals [x] us) : ∃ u,us = [u]∧RelV x u := by
  cases r with
  | cons r1 r2 => cases r2; exact ⟨_,rfl,r1⟩
theorem zp4 {x y : V} {us : List Value} (r : Vals [x,y] us) : ∃ u w',us = [u,w']∧RelV x u∧RelV y w' := by
  cases r with
  | cons r1 r2 =>
    cases r2 with
    | cons r3 r4 => cases r4; exact ⟨_,_,rfl,r1,r3⟩
theorem znS : zdC X (.builtin "abs") (fun xs H Q => ∃ i,xs = [.int i]∧Q (.int (if i < 0 then -i else i)) H) := by
  intro pins s σ H xs us Q I r h
  obtain ⟨i,rfl,q⟩ := h
  obtain ⟨u,rfl,t,rfl⟩ := zeW r
  exact call_abs_int fun u tk => ⟨.int (if i < 0 then -i else i),H,I.tok _,⟨_,rfl⟩,q⟩
noncomputable def LenV (K : PySem.W.Frag) (x : V) (H : Hp) (n : Nat) : Prop :=
  match x with
  | .str y => y.length≤sizeLine∧n = y.length
  | .byt y => y.size≤sizeLine∧n = y.size
  | .ref p => (∃ xs,SqL K H p xs∧n = xs.length)∨∃ xs,SqT K H p xs∧n = xs.length
  | _ => False
theorem znP : zdC X (.builtin "len") (fun xs H Q => ∃ x n,xs = [x]∧LenV X.K x H n∧Q (.int n) H) := by
  intro pins s σ H xs us Q I r h
  obtain ⟨x,n,rfl,e,q⟩ := h
  obtain ⟨u,rfl,rx⟩ := zeW r
  have hl := zgO
  have hs : sizeLine = 16777216 := sizeLine_eq
  cases x with
  | str y =>
    obtain ⟨t,rfl⟩ := rx
    obtain ⟨hy,e'⟩ : y.length≤sizeLine∧n = y.length := e
    subst e'
    exact len_str (by omega) ⟨.int _,H,I.tok _,⟨_,rfl⟩,q⟩
  | byt y =>
    obtain ⟨t,rfl⟩ := rx
    obtain ⟨hy,e'⟩ : y.size≤sizeLine∧n = y.size := e
    subst e'
    exact PySem.W.len_bytes (by omega) ⟨.int _,H,I.tok _,⟨_,rfl⟩,q⟩
  | ref p =>
    cases rx
    have e' : (∃ xs,SqL X.K H p xs∧n = xs.length)∨∃ xs,SqT X.K H p xs∧n = xs.length := e
    rcases e' with ⟨xs,hx,e'⟩ | ⟨xs,hx,e'⟩
    · subst e'
      obtain ⟨its,r',pl,hz⟩ := I.list hx
      have hlen := r'.length
      exact Calls.call_len_list pl.isList (by simp only [List.size_toArray]; omega) ⟨.int xs.length,H,I.tok _,⟨_,by simp only [List.size_toArray]; rw [hlen]⟩,q⟩
    · subst e'
      obtain ⟨its,r',pl,hz⟩ := I.tuple hx
      have hlen := r'.length
      exact len_tuple pl (by simp only [List.size_toArray]; omega) ⟨.int xs.length,H,I.tok _,⟨_,by simp only [List.size_toArray]; rw [hlen]⟩,q⟩
  | _ => exact (show False from e).elim
end
end L2
namespace L2
open PySem PySem.Spec PyProof.Rows
structure ObjM (h : Heap) (x dx C : Addr) (mA : Str→Option Value) : Prop where
  obj : h.get? x = some (PySem.W.instObj C dx)
  ns : h.Ns1 dx mA
  ne : dx≠x
section
variable {prog : Program} {w : World} {A : Around} {E : Value → Shared → Prop} {s : Shared} {K : PySem.W.Frag} {x dx C f : Addr} {mA : Str → Option Value} {name : Str} {v : Value}
end
theorem RelO.some_of {v : V} {o : Option Value} (r : RelO (some v) o) : ∃ u,o = some u∧RelV v u := by
  cases o with
  | none => exact (show False from r).elim
  | some u => exact ⟨u,rfl,r⟩
section
variable {P : Program} {w : World} {H H' : Hp} {h h' : Heap} {a C dx : Addr} {fs fs' : List (Str × V)}
end
structure Cls (K : PySem.W.Frag) (C : Addr) : Prop where
  pg : PySem.W.plainGet K C Str.empty = true
  hd : PySem.W.hasDictIn K C = true
  po : PySem.W.plainOver K C = true
  sa : PySem.W.findIn K (.ref C) "__setattr__" = some (some (.builtin "object.__setattr__"))
theorem Cls.get {K : PySem.W.Frag} {C : Addr} (c : Cls K C) (f : Str) : PySem.W.plainGet K C f = true := c.pg
structure Con (K : PySem.W.Frag) (C : Addr) (f : Str) (v : V) (u : Value) : Prop where
  at_ : PySem.W.findIn K (.ref C) f = some (some u)
  rel : RelV v u
  get : PySem.W.specialIn K u "__get__" = some none
  cp : PySem.W.copiedNames.contains f = false
structure Meth (K : PySem.W.Frag) (C : Addr) (m : Str) (f : Addr) : Prop where
  at_ : PySem.W.findIn K (.ref C) m = some (some (.ref f))
  fn : PySem.W.isFn K (.ref f) = true
  kp : PySem.W.keepIn K (.ref f) = true
section
variable {X : Cx} {pins : List (Addr × Obj)} {σ : St} {H : Hp} {s : Shared} {a C dx : Addr} {fs : List (Str × V)} {f : Str} {v : V} {A : Around} {E : Value → Shared → Prop}
end
section
variable {X : Cx} {o e value : Expr} {f : Str} {pos pos' tpos : Pos} {ta tv : TE}
end
section
variable {X : Cx} {pins : List (Addr × Obj)} {σ : St} {H : Hp} {s : Shared} {A : Around} {E : Value → Shared → Prop} {Q : Value → Shared → Prop} {c : Value} {b : Bool}
inductive TyOf (K : PySem.W.Frag) (H : Hp) : V→Value→Prop where
  | non : TyOf K H .non (.type "NoneType")
  | bl (x : Bool) : TyOf K H (.bl x) (.type "bool")
  | int (i : Int) : TyOf K H (.int i) (.type "int")
  | str (x : Str) : TyOf K H (.str x) (.type "str")
  | flt (x : UInt64) : TyOf K H (.flt x) (.type "float")
  | lst {a : Addr} {xs : List V} (e : H a = some (.lst xs)) : TyOf K H (.ref a) (.type "list")
  | frz {a : Addr} {o : Obj} {xs : List V} (e : H a = some (.frz o (.lst xs))) : TyOf K H (.ref a) (.type "list")
  | tup {a : Addr} {xs : List V} (e : H a = some (.tup xs)) : TyOf K H (.ref a) (.type "tuple")
  | dK {a : Addr} {kvs : List (Key × V)} (e : H a = some (.dK kvs)) : TyOf K H (.ref a) (.type "dict")
  | dT {a : Addr} {kvs : List (List Key × V)} (e : H a = some (.dT kvs)) : TyOf K H (.ref a) (.type "dict")
  | ins {a C dx : Addr} {fs : List (Str × V)} (e : H a = some (.ins C dx fs)) (cl : Cls K C) (ha : PySem.W.findIn K (.ref C) "__class__" = some (some (.builtin "object.__class__")))
      (hn : PySem.W.specialIn K (.builtin "object.__class__") "__get__" = some (some (.builtin "getset_descriptor.__get__"))) (htk : PySem.W.takesIn K (.builtin "object.__class__") = some true)
      (hm : PySem.W.mroIn K C (.type "object") = some true) : TyOf K H (.ref a) (.ref C)
end
end L2
namespace L2
open PySem PySem.Spec PyProof.Rows
structure Room (k : Nat) (A : Around) : Prop where
  hd : A.handled = none
  dp : A.depth + 3 * k + 5 < recursionLimit
  un : A.units + 16 * k + 200 < cLine
theorem Room.mono {j k : Nat} {A : Around} (r : Room k A) (h : j≤k) : Room j A := ⟨r.hd,by have := r.dp; omega,by have := r.un; omega⟩
theorem Room.deeper {k : Nat} {A : Around} (r : Room (k + 1) A) (env : Env) : Room k (A.deeper env) :=
  ⟨r.hd,by have := r.dp; show A.depth + 1 + 3 * k + 5 < _; omega,by have := r.un; show A.units + 3 + 16 * k + 200 < _; omega⟩
theorem Room.depth {k : Nat} {A : Around} (r : Room k A) : A.depth < recursionLimit := by have := r.dp; omega
theorem Room.units {k : Nat} {A : Around} (r : Room k A) : A.units + 64 < cLine := by have := r.un; omega
noncomputable def tNil : TA := fun _ H Q => Q [] H
noncomputable def zso (ta : TE) (tr : TA) : TA := fun σ H Q => ta σ H fun x H1 => tr σ H1 fun xs H2 => Q (x::xs) H2
section
variable {X : Cx} {e : Expr} {es : List Expr} {te : TE} {t : TA} {pos : Pos}
theorem zf3 : PA X [] tNil := fun _ _ _ _ H Q I h => Calls.spliced_nil ⟨[],H,I,.nil,h⟩
theorem zdh (ha : PE X e te) (hr : PA X es t) (hs : starEach (e::es) X.env = (false,eval e X.env)::starEach es X.env := by rfl) : PA X (e::es) (zso te t) := by
  intro pos pins s σ H Q I h
  rw [hs]
  show wpAny _ _ (spliced ((false,eval e X.env)::backTo pos (starEach es X.env))) _ _ s
  refine Calls.spliced_cons (thn (ha pins s σ H _ I h) fun u s1 ⟨x,H1,I1,r1,q1⟩ => ?_)
  exact thn (hr pos pins s1 σ H1 _ I1 q1) fun us s2 ⟨xs,H2,I2,r2,q2⟩ => ⟨x::xs,H2,I2,.cons r1 r2,q2⟩
noncomputable def tTup (t : TA) : TE := fun σ H Q => t σ H fun xs H1 => xs.length≤sizeLine∧∀ p,H1 p = none→Q (.ref p) (upd H1 p (.tup xs))
noncomputable def tLst (t : TA) : TE := fun σ H Q => t σ H fun xs H1 => xs.length≤sizeLine∧∀ p,H1 p = none→Q (.ref p) (upd H1 p (.lst xs))
theorem zqX {x1} (h : PA X es t) : PE X (.Tuple es x1 pos) (tTup t) := by
  intro pins s σ H Q I hq
  refine wpAny_Tuple_spliced (thn (h pos pins s σ H _ I hq) fun us s1 ⟨xs,H1,I1,r,z,q⟩ => ⟨by rw [← r.length]; exact z,?_⟩)
  have hf : H1 s1.heap.objs.size = none := I1.hok.fresh (Nat.le_refl _)
  refine ⟨.ref s1.heap.objs.size,upd H1 s1.heap.objs.size (.tup xs),I1.laid (t' := s1.toks) (fun b u e => Heap.get?_push_of_some _ e) (Nat.le_refl _) ?_,rfl,q _ hf⟩
  exact ⟨z,us,r,⟨_,Heap.get?_push_size _ rfl,rfl,_,rfl⟩,_,Heap.get?_push_size _ rfl,rfl⟩
theorem zq2 (h : PA X es t) : PE X (.List es pos) (tLst t) := by
  intro pins s σ H Q I hq
  refine wpAny_List_spliced (thn (h pos pins s σ H _ I hq) fun us s1 ⟨xs,H1,I1,r,z,q⟩ => ⟨by rw [← r.length]; exact z,?_⟩)
  have hf : H1 s1.heap.objs.size = none := I1.hok.fresh (Nat.le_refl _)
  refine ⟨.ref s1.heap.objs.size,upd H1 s1.heap.objs.size (.lst xs),I1.laid (t' := s1.toks) (fun b u e => Heap.get?_push_of_some _ e) (Nat.le_refl _) ?_,rfl,q _ hf⟩
  exact ⟨z,us,0,r,Heap.get?_push_size _ rfl⟩
end
noncomputable abbrev Sp := List V→Hp→VK→XK→Prop
noncomputable abbrev CXT := List Env→Hp→Shared→XK→Value→Shared→Prop
structure Env0 (P : Program) (w : World) (K : PySem.W.Frag) (mg : Str→Option Value) (base : Heap) (A : Around) (outer : List Env) (s : Shared) (H : Hp) : Prop where
  frames : A.frames = some outer
  mod : Mod K mg base
  bs : ∀ b o,base.get? b = some o→s.heap.get? b = some o∧H b = none
  bsz : base.objs.size≤s.heap.objs.size
  funs : s.heap.FunFrames base outer
  frf : ∀ b∈frs outer,H b = none
  hok : HOk P w H s.heap
  bare : AllBare s.gens
noncomputable def CE (outer : List Env) (P : Program) (w : World) (H : Hp) (s : Shared) (Q : VK) (u : Value) (s' : Shared) : Prop :=
  ∃ v H',s'.os = s.os∧AllBare s'.gens∧Un (frs outer) [] H H' s.heap s'.heap∧HOk P w H' s'.heap∧RelV v u∧Q v H'
noncomputable def CR (CX : CXT) (outer : List Env) (P : Program) (w : World) (H : Hp) (s : Shared) (Q : VK) (E : XK) (r : Result) (s' : Shared) : Prop :=
  match r with
  | .ok (.ret u) => CE outer P w H s Q u s'
  | .ok _ => False
  | .error e => CX outer H s E e s'
structure FnOk (P : Program) (w : World) (K : PySem.W.Frag) (mg : Str→Option Value) (base : Heap) (CX : CXT) (k : Nat) (f : Addr) (fd : FuncData) (ps : List Str) (sp : Sp) : Prop where
  len : ∀ vs H Q E,sp vs H Q E→vs.length = ps.length
  run : ∀ (A : Around) (outer : List Env) (s : Shared) (H : Hp) (args : Args) (us : List Value) (vs : List V) (Q : VK) (E : XK),Room k A→Env0 P w K mg base A outer s H→BindsTo s fd args (ps.zip us)→Vals vs us→sp vs H Q E →
    codeAny (model P w) A (.call (.ref f) args) (CR CX outer P w H s Q E) s
section
variable {X : Cx} {pins : List (Addr × Obj)} {σ : St} {H : Hp} {s s' : Shared}
theorem Inv.env0 (I : Inv X pins σ H s) : Env0 X.prog X.w X.K X.mg X.base X.A X.stack s H :=
  ⟨I.ok.frames,I.ok.mod,I.bs,Nat.le_trans I.ok.bsz I.sz,I.stack,I.stkFree,I.hok,I.bare⟩
theorem Inv.after {Q : VK} {u : Value} (I : Inv X pins σ H s) (h : CE X.stack X.prog X.w H s Q u s') : EP X pins σ Q u s' := by
  obtain ⟨v,H',os,bare,un,hok,r,q⟩ := h
  obtain ⟨hh,g,d,t,os'⟩ := s'
  obtain rfl : os' = s.os := os
  exact ⟨v,H',I.call (h' := hh) (g' := g) (d' := d) (t' := t) (ch := []) un hok bare (fun b z => absurd z (by simp)),r,q⟩
end
noncomputable def zsp (sp : Sp) (dvs : List V) (E : XK) (t : TA) : TE := fun σ H Q => t σ H fun vs H1 => sp (vs++dvs) H1 Q E
noncomputable def zjg (K : PySem.W.Frag) (fd : FuncData) (ps : List Str) (ds : List Value) : Prop :=
  ∀ (s : Shared) (us : List Value),K.In s.heap→(us++ds).length = ps.length→BindsTo s fd ⟨us,[]⟩ (ps.zip (us++ds))
theorem zjg.all {K : PySem.W.Frag} {fd : FuncData} {ps : List Str} (h : ∀ us : List Value,us.length = ps.length→bindArgs fd ⟨us,[]⟩ = pure (ps.zip us)) : zjg K fd ps [] := fun s us _ hl => by
  rw [List.append_nil] at hl ⊢
  exact .of_eq (h us hl)
noncomputable def zmK (CX : CXT) (X : Cx) (E : XK) : Prop := ∀ (pins : List (Addr × Obj)) (σ : St) (H : Hp) (s : Shared) (e : Value) (s' : Shared),Inv X pins σ H s→CX X.stack H s E e s'→X.xe e s'
section
variable {X : Cx} {CX : CXT} {k : Nat} {f C : Addr} {fd : FuncData} {ps : List Str} {sp : Sp} {dvs : List V} {ds : List Value} {E : XK} {x m : Str} {p pos apos : Pos} {e o : Expr} {es : List Expr} {ta : TE} {t : TA}
theorem zqC {pins : List (Addr × Obj)} {σ : St} {H : Hp} {s : Shared} {Q : VK} {us : List Value} {vs : List V} (F : FnOk X.prog X.w X.K X.mg X.base CX k f fd ps sp) (hr : Room k X.A) (hb : zjg X.K fd ps ds) (hd : Vals dvs ds) (hx : zmK CX X E)
    (I : Inv X pins σ H s) (r : Vals vs us) (h : sp (vs++dvs) H Q E) : wpAny (model X.prog X.w) X.A (call (.ref f) us) (EP X pins σ Q) X.xe s := by
  have r2 : Vals (vs++dvs) (us++ds) := r.append hd
  have hl : (us++ds).length = ps.length := by rw [← r2.length]; exact F.len _ _ _ _ h
  refine wpAny_call (codeAny_mono (F.run X.A X.stack s H ⟨us,[]⟩ (us++ds) (vs++dvs) Q E hr I.env0 (hb s us I.kIn hl) r2 h) fun r s' hq => ?_)
  cases r with
  | error e => exact hx pins σ H s e s' I hq
  | ok fl =>
    cases fl with
    | ret u => exact I.after hq
    | next => exact False.elim hq
    | brk => exact False.elim hq
    | cont => exact False.elim hq
theorem zpd (F : FnOk X.prog X.w X.K X.mg X.base CX k f fd ps sp) (hr : Room k X.A) (hg : Gl X x) (hm : X.mg x = some (.ref f)) (hk : PySem.W.keepIn X.K (.ref f) = true) (hb : zjg X.K fd ps ds) (hd : Vals dvs ds) (hx : zmK CX X E)
    (ha : PA X (e::es) t) (hdb : (x == ("__debug__" : Str)) = false := by decide) (he : starEach (e::es) X.env = (false,eval e X.env)::starEach es X.env := by rfl) (hpl : (backTo pos (starEach es X.env)).any (·.1) = false := by rfl) :
    PE X (.Call (.Name x p) (e::es) [] pos) (zsp sp dvs E t) := by
  intro pins s σ H Q I h
  refine wpAny_Call_Name_kw (zlQ I hg hm ?_ hdb)
  refine PySem.W.callWith_K (h₀ := X.base) I.ok.mod.kin hk (thn (ha pos pins s σ H _ I h) fun us s1 ⟨vs,H1,I1,r,q⟩ => ⟨I1.kIn,?_⟩) he hpl
  exact zqC F hr hb hd hx I1 r q
structure Mk (K : PySem.W.Frag) (C f : Addr) : Prop where
  makes : PySem.W.makesIn K C = true
  init : PySem.W.findIn K (.ref C) "__init__" = some (some (.ref f))
  fn : PySem.W.isFn K (.ref f) = true
  kp : PySem.W.keepIn K (.ref C) = true
end
section
variable {X : Cx} {CX : CXT} {k : Nat} {f C : Addr} {fd : FuncData} {ps ks : List Str} {sp : Sp} {E : XK} {x m : Str} {p pos apos kpos : Pos} {e o : Expr} {es : List Expr} {kws : List Keyword} {te ta : TE} {t tk : TA} {nm : Option Str}
structure KBinds (K : PySem.W.Frag) (fd : FuncData) (ps ks : List Str) (g : List Value→List Value→List Value) (gV : List V→List V→List V) : Prop where
  to : ∀ (s : Shared) (us ws : List Value),K.In s.heap→(g us ws).length = ps.length→BindsTo s fd ⟨us,ks.zip ws⟩ (ps.zip (g us ws))
  rel : ∀ {vs : List V} {us : List Value} {zs : List V} {ws : List Value},Vals vs us→Vals zs ws→Vals (gV vs zs) (g us ws)
variable {g : List Value → List Value → List Value} {gV : List V → List V → List V}
end
structure FnScope (N P : List Str) (sc : Scope) : Prop where
  kind : sc.kind = .function
  co : sc.isCoroutine = false
  gen : sc.isGenerator = false
  nd : N.Nodup
  pre : N.take P.length = P
  par : ∀ x∈P,sc.names.lookup x = some .local∨sc.names.lookup x = some .cell
  nofree : ∀ y∈sc.names,y.2≠.free
theorem ziq {kindOf : Str→Option NameKind} {x : Str} : ∀ {binds : List (Str × Value)} {m : Str→Option Value},(∀ v,(x,v)∉binds)→bindL kindOf binds m x = m x
  | [],_,_ => rfl
  | (n,v)::r,m,h => by
    unfold bindL
    rw [ziq fun w hw => h w (List.mem_cons_of_mem _ hw)]
    split
    · have : x≠n := by rintro rfl; exact h v List.mem_cons_self
      simp [this]
    · rfl
theorem zis {kindOf : Str→Option NameKind} {x : Str} : ∀ {binds : List (Str × Value)} {m : Str→Option Value},(∀ v,(x,v)∉binds)→bindC kindOf binds m x = m x
  | [],_,_ => rfl
  | (n,v)::r,m,h => by
    unfold bindC
    rw [zis fun w hw => h w (List.mem_cons_of_mem _ hw)]
    split
    · rfl
    · have : x≠n := by rintro rfl; exact h v List.mem_cons_self
      simp [this]
theorem zir {kindOf : Str→Option NameKind} {x : Str} {v : Value} : ∀ {P : List Str} {vs : List Value} {i : Nat} {m : Str→Option Value},P.Nodup→P[i]? = some x→vs[i]? = some v→kindOf x = some .local →
    bindL kindOf (P.zip vs) m x = some v
  | [],_,_,_,_,h,_,_ => by simp at h
  | _::_,[],_,_,_,_,h,_ => by simp at h
  | p::P,w::vs,0,m,nd,h1,h2,hk => by
    simp at h1 h2; subst h1; subst h2
    show bindL kindOf ((p,w)::P.zip vs) m p = _
    unfold bindL
    rw [ziq fun v hv => (List.nodup_cons.mp nd).1 (List.of_mem_zip hv).1,if_pos hk]
    simp
  | p::P,w::vs,i + 1,m,nd,h1,h2,hk => by
    show bindL kindOf ((p,w)::P.zip vs) m x = _
    unfold bindL
    exact zir (i := i) (List.nodup_cons.mp nd).2 (by simpa using h1) (by simpa using h2) hk
theorem zit {kindOf : Str→Option NameKind} {x : Str} {v : Value} : ∀ {P : List Str} {vs : List Value} {i : Nat} {m : Str→Option Value},P.Nodup→P[i]? = some x→vs[i]? = some v→kindOf x≠some .local →
    bindC kindOf (P.zip vs) m x = some v
  | [],_,_,_,_,h,_,_ => by simp at h
  | _::_,[],_,_,_,_,h,_ => by simp at h
  | p::P,w::vs,0,m,nd,h1,h2,hk => by
    simp at h1 h2; subst h1; subst h2
    show bindC kindOf ((p,w)::P.zip vs) m p = _
    unfold bindC
    rw [zis fun v hv => (List.nodup_cons.mp nd).1 (List.of_mem_zip hv).1,if_neg hk]
    simp
  | p::P,w::vs,i + 1,m,nd,h1,h2,hk => by
    show bindC kindOf ((p,w)::P.zip vs) m x = _
    unfold bindC
    exact zit (i := i) (List.nodup_cons.mp nd).2 (by simpa using h1) (by simpa using h2) hk
noncomputable def start (N : List Str) (vs : List V) : St := vs.map some++List.replicate (N.length - vs.length) none
noncomputable def cxOf (CX : CXT) (P : Program) (w : World) (K : PySem.W.Frag) (mg : Str→Option Value) (base : Heap) (N : List Str) (qual : Str) (scope : Scope) (f : Addr) (cd : Value) (A : Around) (outer : List Env) (s : Shared) (H : Hp) (E : XK) : Cx where
  prog := P
  w := w
  K := K
  mg := mg
  base := base
  A := A.deeper (envOfC qual scope s.heap.objs.size f cd)
  N := N
  s₀ := s
  H₀ := H
  env := envOfC qual scope s.heap.objs.size f cd
  outer := outer
  stack := envOfC qual scope s.heap.objs.size f cd::outer
  ex := []
  calm := true
  fn := fun _ => true
  pn := []
  xe := fun e s' => wpAny (model P w) (A.deeper (envOfC qual scope s.heap.objs.size f cd)) (leaving (envOfC qual scope s.heap.objs.size f cd) e) (fun _ s'' => CX outer H s E e s'') (fun e' s'' => CX outer H s E e' s'') s'
theorem zj0 {sc : Scope} {n : Nat} {x : Str} (h : sc.names.lookup x = some .cell) : ∃ c,(cellsFrom n sc.names []).lookup x = some c := by
  have q := PySem.W.cellsFrom_some sc.names n [] (.inl h)
  exact Option.isSome_iff_exists.mp q
theorem zl1 {CX : CXT} {P : Program} {w : World} {K : PySem.W.Frag} {mg : Str→Option Value} {base : Heap} {N ps : List Str} {qual : Str} {scope : Scope} {f : Addr} {cd : Value} {A : Around} {outer : List Env} {s s1 : Shared} {H : Hp} {E : XK} {us : List Value} {vs : List V}
    (S : FnScope N ps scope) (hd : A.handled = none) (e0 : Env0 P w K mg base A outer s H) (hl : vs.length = ps.length) (r : Vals vs us)
    (x : InCallC s s.heap.objs.size (bindL (envOfC qual scope s.heap.objs.size f cd).kindOf (ps.zip us) fun _ => none) (cellsFrom (s.heap.objs.size + 1) scope.names []) (bindC (envOfC qual scope s.heap.objs.size f cd).kindOf (ps.zip us) fun _ => none) s1) :
    Inv (cxOf CX P w K mg base N qual scope f cd A outer s H E) [] (start N vs) H s1 := by
  have hpl : ps.length≤N.length := by have := congrArg List.length S.pre; rw [List.length_take] at this; omega
  obtain ⟨h1,tk,rfl,hk⟩ := x.done
  have noA : ∀ b : Addr,b∉(cxOf CX P w K mg base N qual scope f cd A outer s H E).ex := fun b z => absurd (show b∈([] : List Addr) from z) (by simp)
  refine ⟨⟨e0.mod,S.kind,rfl,rfl,Nat.le_refl _,fun y z c h1 h2 => ?_,fun y hy => ?_,fun y c _ h => ?_,fun _ => hd,Around.frames_deeper e0.frames,.inr ⟨rfl,rfl⟩,fun b z => absurd z (noA b),e0.bs,e0.bsz,fun b _ _ => noA b,fun b z => absurd z (noA b),e0.funs,e0.frf⟩,
    rfl,e0.bare,Un.kept hk,⟨_,x.toInCall.ns,fun i y v h1 h2 h3 => ?_⟩,fun y c h => ⟨_,x.cell y c h⟩,e0.hok.fresh (Nat.le_refl _),fun y c h => ?_,fun p hp => absurd (show p∈([] : List (Addr × Obj)) from hp) (by simp),e0.hok.kept hk,?_⟩
  · exact name_of_addr x.apart (PySem.mem_of_lookup h1) (PySem.mem_of_lookup h2)
  · have hy : scope.names.lookup y = some .cell∨scope.names.lookup y = some .free := hy
    rcases hy with hy | hy
    · exact zj0 hy
    · exact absurd rfl (S.nofree _ (PySem.mem_of_lookup hy))
  · exact Nat.le_of_lt (x.above y c (PySem.mem_of_lookup h))
  · have hi : i < vs.length := by
      unfold start at h2
      by_cases hi : i < vs.length
      · exact hi
      · rw [List.getElem?_append_right (by simpa using hi)] at h2
        rw [List.getElem?_replicate] at h2
        split at h2 <;> cases h2
    have ha : vs[i]? = some v := by
      unfold start at h2
      rw [List.getElem?_append_left (by simpa using hi),List.getElem?_map] at h2
      cases e : vs[i]? with
      | none => rw [e] at h2; cases h2
      | some a => rw [e] at h2; cases h2; rfl
    obtain ⟨u,hu,rv⟩ := r.get ha
    have hp : ps[i]? = some y := by
      rw [← S.pre,List.getElem?_take_of_lt (by omega)]; exact h1
    have ndP : ps.Nodup := by rw [← S.pre]; exact S.nd.sublist (List.take_sublist _ _)
    refine ⟨u,rv,?_⟩
    rcases S.par y (List.mem_of_getElem? hp) with k | k
    · exact .inl ⟨k,zir ndP hp hu k⟩
    · obtain ⟨c,e⟩ := zj0 (n := s.heap.objs.size + 1) k
      refine .inr ⟨.inl k,c,e,?_⟩
      have q := x.cell y c e
      rw [zit ndP hp hu (by show scope.names.lookup y≠_; rw [k]; decide)] at q
      exact q
  · exact e0.hok.fresh (Nat.le_of_lt (x.above y c (PySem.mem_of_lookup h)))
  · unfold start
    show _ = N.length
    rw [List.length_append,List.length_map,List.length_replicate]
    omega
theorem zrR {CX : CXT} {P : Program} {w : World} {K : PySem.W.Frag} {mg : Str→Option Value} {base : Heap} {k : Nat} {f : Addr} {name qual : Str} {params : Arguments} {body : List Stmt} {scope : Scope} {dV kV doc pm cdv ct oc : Value} {an od : Option Addr}
    {osl : Array (Option Value)} {N ps : List Str} {sp : Sp} (lk : K.lookup f = some ⟨oc,od,.func (PySem.W.fnOf name qual params body scope dV kV doc pm an cdv ct),osl⟩) (hcd : PySem.W.codeIn K cdv qual = true) (S : FnScope N ps scope)
    (len : ∀ vs H Q E,sp vs H Q E→vs.length = ps.length)
    (hbody : ∀ (A : Around) (outer : List Env) (s : Shared) (H : Hp) (vs : List V) (Q : VK) (E : XK),Room k (A.deeper (envOfC qual scope s.heap.objs.size f cdv))→sp vs H Q E →
      ∃ t,PSs (cxOf CX P w K mg base N qual scope f cdv A outer s H E) body t∧t { nx := fun _ H' => Q .non H',rt := Q } (start N vs) H) :
    FnOk P w K mg base CX (k + 1) f (PySem.W.fnOf name qual params body scope dV kV doc pm an cdv ct) ps sp := by
  refine ⟨len,fun A outer s H args us vs Q E hr e0 hb r hsp => ?_⟩
  have hl := len _ _ _ _ hsp
  have KX : K.In s.heap := e0.mod.kin.keeps fun b o e => (e0.bs b o e).1
  have lim : s.heap.NoLimit := e0.mod.nolimit.keeps fun b o e => (e0.bs b o e).1
  have hkind : ∀ y∈ps.zip us,scope.names.lookup y.1 = some .local∨(scope.names.lookup y.1 = some .cell∧((cellsFrom (s.heap.objs.size + 1) scope.names []).lookup y.1).isSome = true) := fun ⟨n,v⟩ hy => by
    rcases S.par n (List.of_mem_zip hy).1 with q | q
    · exact .inl q
    · exact .inr ⟨q,PySem.W.cellsFrom_some _ _ _ (.inl q)⟩
  refine codeAny_call_function hr.depth (KX _ _ lk) rfl S.co S.gen rfl (PySem.W.codeRec_of KX hcd) (hb _ _ _ _ ?_)
  refine wpAny_newFunctionEnv_cells S.kind hkind fun env he s1 x => ?_
  subst he
  refine ⟨lim.keeps x.toInCall.keep,codeAny_func ?_⟩
  obtain ⟨t,ht,hq⟩ := hbody A outer s H vs Q E (hr.deeper _) hsp
  have I : Inv (cxOf CX P w K mg base N qual scope f cdv A outer s H E) [] (start N vs) H s1 := zl1 S hr.hd e0 hl r x
  refine wpAny_mono (ht [] s1 (start N vs) H _ I hq) (fun fl s' hs => ?_) fun e s' hs => hs
  have fin : ∀ {σ' : St} {H' : Hp} {v : V} {u : Value},Inv (cxOf CX P w K mg base N qual scope f cdv A outer s H E) [] σ' H' s'→RelV v u→Q v H'→CE outer P w H s Q u s' :=
    fun {σ' H' v u} J rv q => ⟨v,H',J.os,J.bare,J.base,J.hok,rv,q⟩
  cases fl with
  | ret u =>
    obtain ⟨v,σ',H',J,rv,q⟩ := hs
    exact fin J rv q
  | next =>
    obtain ⟨σ',H',J,q⟩ := hs
    exact fin (v := V.non) (u := Value.none) J rfl q
  | brk =>
    obtain ⟨_,_,_,q⟩ := hs
    exact False.elim q
  | cont =>
    obtain ⟨_,_,_,q⟩ := hs
    exact False.elim q
end L2
namespace L2
open PySem PySem.Spec PyProof.Rows
section
variable {X : Cx} {x : Str} {p pos : Pos} {e : Expr} {es : List Expr} {t : TA} {id T : String} {r : List V → Hp → VK → Prop}
noncomputable def tCB (r : List V→Hp→VK→Prop) (t : TA) : TE := fun σ H Q => t σ H fun vs H1 => r vs H1 Q
theorem zeL (hc : zdC X (.builtin id) r) (hg : Gl X x) (hm : X.mg x = none) (hv : bootBuiltins x = some (.builtin id)) (ha : PA X (e::es) t) (hn : x≠"__name__" := by decide) (hdb : (x == ("__debug__" : Str)) = false := by decide)
    (he : starEach (e::es) X.env = (false,eval e X.env)::starEach es X.env := by rfl) (hpl : (backTo pos (starEach es X.env)).any (·.1) = false := by rfl) : PE X (.Call (.Name x p) (e::es) [] pos) (tCB r t) := by
  intro pins s σ H Q I h
  refine wpAny_Call_Name_kw (zib I hg hm hv ?_ hn hdb)
  exact PyProof.Rows.callWith_builtin1 (thn (ha pos pins s σ H _ I h) fun us s1 ⟨vs,H1,I1,r1,q1⟩ => hc pins s1 σ H1 vs us Q I1 r1 q1) he hpl
theorem zdH (hc : zdC X (.type T) r) (hg : Gl X x) (hm : X.mg x = none) (hv : bootBuiltins x = some (.type T)) (ha : PA X (e::es) t) (hn : x≠"__name__" := by decide) (hdb : (x == ("__debug__" : Str)) = false := by decide)
    (he : starEach (e::es) X.env = (false,eval e X.env)::starEach es X.env := by rfl) (hpl : (backTo pos (starEach es X.env)).any (·.1) = false := by rfl) : PE X (.Call (.Name x p) (e::es) [] pos) (tCB r t) := by
  intro pins s σ H Q I h
  refine wpAny_Call_Name_kw (zib I hg hm hv ?_ hn hdb)
  exact PyProof.Rows.callWith_type1 (thn (ha pos pins s σ H _ I h) fun us s1 ⟨vs,H1,I1,r1,q1⟩ => hc pins s1 σ H1 vs us Q I1 r1 q1) he hpl
end
end L2
namespace HT
open PySem PyProof.Rows
noncomputable def lexLt : List Int→List Int→Bool
  | [],[] => false
  | [],_::_ => true
  | _::_,[] => false
  | x::xs,y::ys => if x = y then lexLt xs ys else decide (x < y)
theorem lexLt_cons (x y : Int) (xs ys : List Int) : lexLt (x::xs) (y::ys) = if x = y then lexLt xs ys else decide (x < y) := rfl
theorem zhm : lexLt [] [] = false := rfl
theorem zgB (y : Int) (ys : List Int) : lexLt [] (y::ys) = true := rfl
theorem zgC (x : Int) (xs : List Int) : lexLt (x::xs) [] = false := rfl
theorem znJ (A : Around) (s : Shared) (a : Int) (t : Tok) (c : Int) (u : Tok) : ∃ e,SeqAt.EqAt A s (.int a t) (.int c u) e∧(e = true↔a = c) :=
  ⟨(a == c),SeqAt.EqAt.int_int a t c u,by simp⟩
theorem zm7 (A : Around) (s : Shared) (a : Int) (t : Tok) (c : Int) (u : Tok) (prog : Program) (w : World) (E : Value→Shared→Prop) (Q : Value→Shared→Prop) (h : Q (.bool (decide (a < c))) s) :
    wpAny (model prog w) A (richCompare .Lt (.int a t) (.int c u)) Q E s :=
  (PyProof.Rows.lt_int h : wpAny (model prog w) A (compareOp .Lt (.int a t) (.int c u)) Q E s)
section
open PySem.SeqAt
open PySem.AutoSeq1 (wpAny_loadPart')
open PySem.MeetsSeq PySem.MeetsSeq2 PySem.MeetsSeq3
theorem zg8 (l b : Addr) (items items2 : Array Value) (n n2 : Nat) (dd dd2 : Option Addr) (sl sl2 : Array (Option Value)) (ns ms : List Int) (hi : IntsAre items.toList ns) (hj : IntsAre items2.toList ms) :
    Meets (Builtin.«tuple.__lt__» ⟨[.ref l,.ref b],[]⟩)
      (fun _ R s => s.heap.get? l = some { cls := .type "tuple",dict := dd,data := .seq items n,slots := sl }∧s.heap.get? b = some { cls := .type "tuple",dict := dd2,data := .seq items2 n2,slots := sl2 } ∧
        R (.ok (.ret (.bool (lexLt ns ms)))) s) :=
  .of_wp fun prog w A R s h => by
    obtain ⟨hp,g,d,tk,os⟩ := s; obtain ⟨hl,hb,h⟩ := h
    have f2 := AutoSeq1.sub_tuple_tuple
    have z1 : items.size = ns.length := by rw [← hi.length]; simp
    have z2 : items2.size = ms.length := by rw [← hj.length]; simp
    wp_walk using wpAny_loadPart' hl,wpAny_loadPart' hb,wpAny_forIn_list _ (fun rest b s' => b.1 = none∧s' = ⟨hp,g,d,tk,os⟩∧∃ (vs ws : List Value) (ns' ms' : List Int),rest = vs.zip ws ∧
      IntsAre vs ns'∧IntsAre ws ms'∧ns'.length + items2.size = ms'.length + items.size∧R (.ok (.ret (.bool (lexLt ns' ms')))) ⟨hp,g,d,tk,os⟩) _
    case turn =>
      rintro ⟨y,x⟩ rest b s' ⟨hb',rfl,vs,ws,ns',ms',hz,hvi,hwi,hlen,hR⟩
      cases hvi with
      | nil => rw [List.zip_nil_left] at hz; cases hz
      | cons a t hvi' =>
        cases hwi with
        | nil => rw [List.zip_nil_right] at hz; cases hz
        | cons c u hwi' =>
          rw [List.zip_cons_cons] at hz
          injection hz with hyx hrest
          injection hyx with hy hx
          subst hy hx
          rw [lexLt_cons] at hR
          simp only [List.length_cons] at hlen
          obtain ⟨e,he,hiff⟩ := znJ A.in1 ⟨hp,g,d,tk,os⟩ a t c u
          refine wpAny_bind (he prog w _ _ ?_)
          cases e with
          | true =>
            rw [if_pos (hiff.mp rfl)] at hR
            wp_walk
            exact ⟨rfl,rfl,_,_,_,_,hrest,hvi',hwi',by omega,hR⟩
          | false =>
            rw [if_neg (fun q => absurd (hiff.mpr q) Bool.false_ne_true)] at hR
            have hri := zm7 A.in1 ⟨hp,g,d,tk,os⟩ a t c u prog w
            wp_walk using hri
            exact ⟨_,rfl,by simpa using hR⟩
    case fin =>
      rintro ⟨b1,b2⟩ s' ⟨hb',rfl,vs,ws,ns',ms',hz,hvi,hwi,hlen,hR⟩
      simp only at hb'
      subst hb'
      have hv : lexLt ns' ms' = decide (items.size < items2.size) := by
        cases hvi with
        | nil =>
          cases hwi with
          | nil =>
            simp only [List.length_nil] at hlen
            rw [zhm]
            exact (decide_eq_false (by omega)).symm
          | cons c u hw =>
            simp only [List.length_nil,List.length_cons] at hlen
            rw [zgB]
            exact (decide_eq_true (by omega)).symm
        | cons a t hv =>
          cases hwi with
          | nil =>
            simp only [List.length_nil,List.length_cons] at hlen
            rw [zgC]
            exact (decide_eq_false (by omega)).symm
          | cons c u hw =>
            rw [List.zip_cons_cons] at hz
            cases hz
      rw [hv] at hR
      wp_walk
      exact ⟨_,rfl,by simpa [Builtin.Tuple.tupleCompareSizes] using hR⟩
    case h =>
      exact ⟨rfl,rfl,items.toList,items2.toList,ns,ms,rfl,hi,hj,by omega,h⟩
end
section
variable {prog : Program} {w : World} {A : Around} {E : Value → Shared → Prop} {s : Shared}
theorem lt_tupInts {l b : Addr} {items items2 : Array Value} {ns ms : List Int} {Q : Value→Shared→Prop} (hl : IsTup s.heap l items) (hb : IsTup s.heap b items2) (hi : IntsAre items.toList ns) (hj : IntsAre items2.toList ms)
    (hu : A.units < cLine) (h : Q (.bool (lexLt ns ms)) s) : wpAny (model prog w) A (compareOp .Lt (.ref l) (.ref b)) Q E s := by
  obtain ⟨⟨cls,dd,data,sl⟩,ho,hc,n,hd⟩ := id hl
  obtain ⟨⟨cls2,dd2,data2,sl2⟩,ho2,hc2,n2,hd2⟩ := id hb
  simp only at hc hd hc2 hd2
  subst hc hd hc2 hd2
  exact richCompare_meets_room (op := .Lt) ⟨_,ho,rfl⟩ ⟨_,ho2,rfl⟩ PySem.F.slot_tuple_lt PySem.F.entry_tuple_lt (PySem.F.args_tuple_lt_2 _ _) (zg8 l b items items2 n n2 dd dd2 sl sl2 ns ms hi hj)
    ⟨ho,ho2,show Value.bool (lexLt ns ms)≠Value.notImplemented∧Q (.bool (lexLt ns ms)) s from ⟨(fun x => nomatch x),h⟩⟩ hu
theorem cat_tup {t b : Addr} {vs ws : List Value} {Q : Value→Shared→Prop} (ht : IsTup s.heap t vs.toArray) (hb : IsTup s.heap b ws.toArray) (hv : vs≠[])
    (h1 : ws = []→Q (.ref t) s) (h2 : ws≠[]→Q (.ref s.heap.objs.size) { s with heap := s.heap.push { cls := .type "tuple",data := .seq (vs++ws).toArray } })
    (hsz : vs.length + ws.length≤sizeLine) : wpAny (model prog w) A (binaryOp .Add (.ref t) (.ref b)) Q E s := by
  obtain ⟨⟨cls,dd,data,sl⟩,ho,hc,n,hd⟩ := id ht
  obtain ⟨⟨cls2,dd2,data2,sl2⟩,ho2,hc2,n2,hd2⟩ := id hb
  simp only at hc hd hc2 hd2
  subst hc hd hc2 hd2
  have e : vs.toArray++ws.toArray = (vs++ws).toArray := by simp
  by_cases hw : ws = []
  · exact concat_meets ⟨_,ho,rfl⟩ ⟨_,ho2,rfl⟩ noFill_tuple_add seq_tuple_add PySem.F.slot_tuple_add PySem.F.entry_tuple_add (PySem.F.args_tuple_add_2 _ _)
      (tuple_addW1 t b vs.toArray ws.toArray n n2 dd dd2 sl sl2 (by simpa using hv) (by simp [hw])) ⟨ho,ho2,h1 hw⟩
  · refine concat_meets ⟨_,ho,rfl⟩ ⟨_,ho2,rfl⟩ noFill_tuple_add seq_tuple_add PySem.F.slot_tuple_add PySem.F.entry_tuple_add (PySem.F.args_tuple_add_2 _ _)
      (tuple_addW2 t b vs.toArray ws.toArray n n2 dd dd2 sl sl2 (by simpa using hv) (by simpa using hw) (by rw [List.size_toArray,List.size_toArray]; exact hsz)) ⟨ho,ho2,?_⟩
    rw [e]
    exact h2 hw
noncomputable def sIx (n d : Nat) : Option Int→Nat
  | none => d
  | some v => if v < 0 then (v + (n : Int)).toNat else min v.toNat n
theorem sIx_none (n d : Nat) : sIx n d none = d := rfl
theorem sIx_nat (n d k : Nat) : sIx n d (some (k : Int)) = min k n := by
  show (if (k : Int) < 0 then ((k : Int) + (n : Int)).toNat else min (k : Int).toNat n) = min k n
  rw [if_neg (by omega),Int.toNat_natCast]
theorem zqA (n d : Nat) (hd : d≤n) (o : Option Int) : sIx n d o≤n := by
  cases o with
  | none => exact hd
  | some v =>
    show (if v < 0 then (v + (n : Int)).toNat else min v.toNat n)≤n
    by_cases hv : v < 0
    · rw [if_pos hv]; omega
    · rw [if_neg hv]; exact Nat.min_le_right _ _
theorem zmx (v : Int) (n d : Nat) : (if v < 0 then max (v + (n : Int)) 0 else min v (n : Int)) = ((sIx n d (some v) : Nat) : Int) := by
  show (if v < 0 then max (v + (n : Int)) 0 else min v (n : Int)) = (((if v < 0 then (v + (n : Int)).toNat else min v.toNat n) : Nat) : Int)
  by_cases hv : v < 0
  · simp only [if_pos hv]; omega
  · simp only [if_neg hv]; omega
theorem zkL (lo hi : Option Int) (n : Nat) : Builtin.Slice.sliceAdjust lo hi 1 (n : Int) = (((sIx n 0 lo : Nat) : Int),((sIx n n hi : Nat) : Int)) := by
  have h1 : ¬ ((1 : Int) < 0) := by omega
  unfold Builtin.Slice.sliceAdjust
  simp only [h1,if_false]
  refine Prod.ext ?_ ?_
  · cases lo with
    | none => rfl
    | some v => exact zmx v n 0
  · cases hi with
    | none => rfl
    | some v => exact zmx v n n
theorem zkp (i j : Nat) : Builtin.Slice.slicePlaces (i : Int) (j : Int) 1 = j - i := by
  unfold Builtin.Slice.slicePlaces
  have h1 : (1 : Int) > 0 := by omega
  simp only [h1,if_true,Int.ediv_one]
  split <;> omega
theorem zgH {v : Value} {o : Option Int} {Q : Option Int→Shared→Prop} (p : IsPart v o) (h : Q o s) : wpAny (model prog w) A (Builtin.Slice.slicePartIndex v) Q E s := by
  cases p with
  | none => exact slicePart_none h
  | int i t => exact slicePart_int h
theorem sliceApplied_gen {sl : Addr} {vl vu : Value} {lo hi : Option Int} {n : Nat} {Q : Int × Int × Nat→Shared→Prop} (hs : s.heap.IsSliceOf sl vl vu .none) (pl : IsPart vl lo) (pu : IsPart vu hi)
    (h : Q (((sIx n 0 lo : Nat) : Int),1,sIx n n hi - sIx n 0 lo) s) : wpAny (model prog w) A (Builtin.Slice.sliceApplied (.ref sl) (pure (n : Int))) Q E s := by
  obtain ⟨os,hos,hcs,hds⟩ := id hs
  unfold Builtin.Slice.sliceApplied Builtin.Slice.sliceFields
  refine wpAny_bind (wpAny_bind (wpAny_field hos hds (x := vl) rfl (wpAny_bind (wpAny_field hos hds (x := vu) rfl (wpAny_bind (wpAny_field hos hds (x := .none) rfl (wpAny_pure ?_)))))))
  refine wpAny_bind (slicePart_none ?_)
  show wpAny _ _ (if ((1 : Int) == 0) = true then _ else _) _ _ s
  rw [if_neg (by decide)]
  refine wpAny_bind (zgH pl (wpAny_bind (zgH pu (wpAny_bind (wpAny_pure ?_)))))
  show wpAny _ _ (match Builtin.Slice.sliceAdjust lo hi 1 (n : Int) with | (lo,hi) => pure (lo,(1 : Int),Builtin.Slice.slicePlaces lo hi 1)) _ _ s
  rw [zkL lo hi n]
  show wpAny _ _ (pure (((sIx n 0 lo : Nat) : Int),(1 : Int),Builtin.Slice.slicePlaces ((sIx n 0 lo : Nat) : Int) ((sIx n n hi : Nat) : Int) 1)) _ _ s
  rw [zkp]
  exact wpAny_pure h
theorem zni (xs : Array Value) (i k : Nat) : ((List.range k).filterMap fun (m : Nat) => xs[((i : Int) + (m : Int) * 1).toNat]?).toArray = ((xs.toList.drop i).take k).toArray := by
  have e : (fun (m : Nat) => xs[((i : Int) + (m : Int) * 1).toNat]?) = fun m => xs[i + m]? := by
    funext m
    have : ((i : Int) + (m : Int) * 1).toNat = i + m := by omega
    rw [this]
  rw [e]
  have := pick_run xs i k
  rw [List.filterMap_map] at this
  have e2 : ((fun x => xs[x]?) ∘ fun x => i + x) = fun m => xs[i + m]? := rfl
  rw [e2] at this
  rw [this]
theorem getItem_tuple_cut {t sl : Addr} {items : Array Value} {vl vu : Value} {lo hi : Option Int} {Q : Value→Shared→Prop} (ht : IsTup s.heap t items) (hs : s.heap.IsSliceOf sl vl vu .none) (pl : IsPart vl lo) (pu : IsPart vu hi)
    (hw : ¬ (sIx items.size 0 lo = 0∧sIx items.size items.size hi = items.size))
    (h : Q (.ref s.heap.objs.size) { s with heap := s.heap.push { cls := .type "tuple",data := .seq ((items.toList.drop (sIx items.size 0 lo)).take (sIx items.size items.size hi - sIx items.size 0 lo)).toArray } })
    (hsz : items.size≤sizeLine) : wpAny (model prog w) A (getItem (.ref t) (.ref sl)) Q E s := by
  have htake : sizeOk (.seq ((items.toList.drop (sIx items.size 0 lo)).take (sIx items.size items.size hi - sIx items.size 0 lo)).toArray) := by
    show ((items.toList.drop (sIx items.size 0 lo)).take (sIx items.size items.size hi - sIx items.size 0 lo)).toArray.size≤sizeLine
    rw [List.size_toArray,List.length_take,List.length_drop,Array.length_toList]
    omega
  have hj : sIx items.size items.size hi≤items.size := zqA _ _ (Nat.le_refl _) hi
  obtain ⟨os,hos,hcs,hds⟩ := id hs
  have hTs : s.TypeIs (.ref sl) "slice" := ⟨os,hos,hcs⟩
  unfold getItem
  try with_reducible refine wpAny_holding ?_
  first | refine wpAny_bind (wpAny_pure ?_) | skip
  refine wpAny_bind (wpAny_sequenceKey ht.typeIs (by decide) ?_)
  refine wpAny_bind (wpAny_callSpecial?_slot (name := Str.ofString "__getitem__") ht.typeIs PyProof.Rows.slot_tuple_getitem
    (wpAny_call_entry PyProof.Rows.slot_tuple_getitem ht.typeIs entry_tuple_getitem ?_ (args_tuple_getitem _ _)))
  show wpAny _ _ (Builtin.Tuple.tupleItemsOf (.ref t) >>= _) _ _ s
  refine wpAny_bind (tupleItemsOf_ ht ?_)
  refine wpAny_bind (wpAny_typeOf hTs ?_)
  rw [if_pos (by decide)]
  refine wpAny_bind (sliceApplied_gen hs pl pu ?_)
  have hno : ¬ ((((sIx items.size 0 lo : Nat) : Int) == 0 && (1 : Int) == 1 && (sIx items.size items.size hi - sIx items.size 0 lo) == items.size) = true) := by
    intro q
    rw [Bool.and_eq_true,Bool.and_eq_true] at q
    have q1 : ((sIx items.size 0 lo : Nat) : Int) = 0 := eq_of_beq q.1.1
    have q2 : sIx items.size items.size hi - sIx items.size 0 lo = items.size := eq_of_beq q.2
    exact hw ⟨by omega,by omega⟩
  show wpAny _ _ (if (((sIx items.size 0 lo : Nat) : Int) == 0 && (1 : Int) == 1 && (sIx items.size items.size hi - sIx items.size 0 lo) == items.size) = true then _ else _) _ _ s
  rw [if_neg hno,zni]
  first
    | exact wpAny_bind (m := Builtin.Tuple.tupleExact _) (wpAny_newObj_type (wpAny_pure ⟨_,rfl,wpAny_pure h⟩) htake)
    | exact wpAny_bind (m := Builtin.Tuple.tupleExact _) (wpAny_newObj_type (wpAny_bind (wpAny_pure (wpAny_pure ⟨_,rfl,wpAny_pure h⟩))) htake)
    | exact wpAny_bind (wpAny_bind (m := Builtin.Tuple.tupleExact _) (wpAny_newObj_type (wpAny_pure (wpAny_pure ⟨_,rfl,wpAny_pure h⟩)) htake))
    | exact wpAny_bind (wpAny_bind (m := Builtin.Tuple.tupleExact _) (wpAny_newObj_type (wpAny_pure ⟨_,rfl,wpAny_pure h⟩) htake))
end
end HT
namespace L2
open PySem PySem.Spec PyProof.Rows
noncomputable abbrev TO := St→Hp→(Option Int→Hp→Prop)→Prop
noncomputable def PO (X : Cx) (e : Option Expr) (t : TO) : Prop :=
  ∀ (pins : List (Addr × Obj)) (s : Shared) (σ : St) (H : Hp) (Q : Option Int→Hp→Prop),Inv X pins σ H s→t σ H Q →
    wpAny (model X.prog X.w) X.A (evalPart e X.env) (fun u s' => ∃ o H',Inv X pins σ H' s'∧IsPart u o∧Q o H') X.xe s
noncomputable def zoM : TO := fun _ H Q => Q none H
noncomputable def zsk (t : TE) : TO := fun σ H Q => t σ H fun x H1 => ∃ i,x = .int i∧Q (some i) H1
theorem zkA {ns : List Int} : ∀ {us : List Value},Vals (ns.map V.int) us→IntsAre us ns := by
  induction ns with
  | nil => intro us r; rw [List.map_nil] at r; cases r; exact .nil
  | cons n ns ih =>
    intro us r
    rw [List.map_cons] at r
    cases r with
    | cons r1 r2 =>
      obtain ⟨t,e⟩ := r1
      subst e
      exact .cons n t (ih r2)
section
variable {X : Cx} {e : Expr} {te : TE} {lo hi : Option Expr} {tl th : TO} {pos p2 : Pos}
theorem zo7 : PO X none zoM := by
  intro pins s σ H Q I h
  rw [evalPart_none]
  exact wpAny_pure ⟨none,H,I,.none,h⟩
theorem zo6 (h : PE X e te) : PO X (some e) (zsk te) := by
  intro pins s σ H Q I hw
  rw [evalPart_some]
  refine thn (h pins s σ H _ I hw) fun u s1 ⟨x,H1,I1,r1,q1⟩ => ?_
  obtain ⟨i,rfl,q⟩ := q1
  obtain ⟨t,rfl⟩ := r1
  exact ⟨some i,H1,I1,.int i t,q⟩
noncomputable def SlR (X : Cx) (r : V→Option Int→Option Int→Hp→VK→Prop) : Prop :=
  ∀ (pins : List (Addr × Obj)) (s : Shared) (σ : St) (H : Hp) (x : V) (v vl vu : Value) (lo hi : Option Int) (sl : Addr) (Q : VK),Inv X pins σ H s→RelV x v→s.heap.IsSliceOf sl vl vu .none→IsPart vl lo→IsPart vu hi→r x lo hi H Q →
    ∃ T id,typeLookup (.type T) "__getitem__" = pure (some (.builtin id))∧s.TypeIs v T∧wpAny (model X.prog X.w) X.A (getItem v (.ref sl)) (EP X pins σ Q) X.xe s
theorem SlR.or {r r' : V→Option Int→Option Int→Hp→VK→Prop} (h : SlR X r) (h' : SlR X r') : SlR X (fun x lo hi H Q => r x lo hi H Q∨r' x lo hi H Q) := by
  intro pins s σ H x v vl vu lo hi sl Q I rx hs pl pu q
  rcases q with q | q
  · exact h pins s σ H x v vl vu lo hi sl Q I rx hs pl pu q
  · exact h' pins s σ H x v vl vu lo hi sl Q I rx hs pl pu q
noncomputable def tSl (r : V→Option Int→Option Int→Hp→VK→Prop) (te : TE) (tl th : TO) : TE := fun σ H Q => te σ H fun x H1 => tl σ H1 fun l H2 => th σ H2 fun u H3 => r x l u H3 Q
theorem zjD {r : V→Option Int→Option Int→Hp→VK→Prop} (hr : SlR X r) (he : PE X e te) (hl : PO X lo tl) (hu : PO X hi th) : PE X (.Subscript e (.Slice lo hi none p2) pos) (tSl r te tl th) := by
  intro pins s σ H Q I h
  refine Subscript_ (thn (he pins s σ H _ I h) fun v s1 ⟨x,H1,I1,r1,q1⟩ => ?_)
  refine wpAny_Slice (thn (hl pins s1 σ H1 _ I1 q1) fun vl s2 ⟨l,H2,I2,pl,q2⟩ => thn (hu pins s2 σ H2 _ I2 q2) fun vu s3 ⟨u,H3,I3,pu,q3⟩ => ?_)
  rw [evalPart_none]
  refine wpAny_pure ?_
  have I4 : Inv X pins σ H3 { s3 with heap := s3.heap.push { cls := .type "slice",data := .fields #[vl,vu,.none] } } := I3.kept (t' := s3.toks) fun b ob q => Heap.get?_push_of_some _ q
  obtain ⟨T,id,hT,ht,hg⟩ := hr pins { s3 with heap := s3.heap.push { cls := .type "slice",data := .fields #[vl,vu,.none] } } σ H3 x v vl vu l u s3.heap.objs.size Q I4 r1 (Heap.IsSliceOf.new ..) pl pu q3
  show wpAny (model X.prog X.w) X.A (subscriptTail e (.Slice lo hi none p2) v (.ref s3.heap.objs.size)) (EP X pins σ Q) X.xe { s3 with heap := s3.heap.push { cls := .type "slice",data := .fields #[vl,vu,.none] } }
  exact tail_any (ops := [.ref s3.heap.objs.size,v]) ht hT hg (by with_unfolding_all rfl)
noncomputable def cutV (xs : List V) (lo hi : Option Int) : List V := (xs.drop (HT.sIx xs.length 0 lo)).take (HT.sIx xs.length xs.length hi - HT.sIx xs.length 0 lo)
theorem zgi (xs : List V) (lo hi : Option Int) : (cutV xs lo hi).length≤xs.length := by
  unfold cutV
  rw [List.length_take,List.length_drop]
  omega
noncomputable def rSlT (K : PySem.W.Frag) : V→Option Int→Option Int→Hp→VK→Prop := fun x lo hi H Q => ∃ a xs,x = .ref a∧SqT K H a xs ∧
  ¬ (HT.sIx xs.length 0 lo = 0∧HT.sIx xs.length xs.length hi = xs.length)∧∀ p,H p = none→Q (.ref p) (upd H p (.tup (cutV xs lo hi)))
theorem zn4 : SlR X (rSlT X.K) := by
  intro pins s σ H x v vl vu lo hi sl Q I rx hs pl pu h
  obtain ⟨a,xs,rfl,hx,hw,q⟩ := h
  cases rx
  obtain ⟨its,r,ht,hz⟩ := I.tuple hx
  have hlen : its.toArray.size = xs.length := by rw [List.size_toArray]; exact r.length.symm
  refine ⟨"tuple",_,PyProof.Rows.slot_tuple_getitem.lookup,ht.typeIs,?_⟩
  refine HT.getItem_tuple_cut ht hs pl pu (by rw [hlen]; exact hw) ?_ (by rw [hlen]; exact hz)
  rw [hlen]
  refine ⟨.ref s.heap.objs.size,_,I.laid (t' := s.toks) (o := .tup (cutV xs lo hi)) (fun b ob q => Heap.get?_push_of_some _ q) (Nat.le_refl _) ?_,rfl,q _ (I.hok.fresh (Nat.le_refl _))⟩
  exact ⟨Nat.le_trans (zgi xs lo hi) hz,_,(r.drop (HT.sIx xs.length 0 lo)).take (HT.sIx xs.length xs.length hi - HT.sIx xs.length 0 lo),IsTup.new _ _,_,Heap.get?_push_size _ rfl,rfl⟩
noncomputable def zo1 (K : PySem.W.Frag) : R2 := fun x y H Q => ∃ a b xs ys,x = .ref a∧y = .ref b∧SqT K H a xs∧SqT K H b ys∧xs≠[]∧xs.length + ys.length≤sizeLine ∧
  (ys = []→Q (.ref a) H)∧(ys≠[]→∀ p,H p = none→Q (.ref p) (upd H p (.tup (xs++ys))))
theorem Vals.nil_iff {xs : List V} {us : List Value} (r : Vals xs us) : us = []↔xs = [] := by
  cases r with
  | nil => simp
  | cons _ _ => simp
theorem zlD : OpR X (binaryOp .Add) (zo1 X.K) := by
  intro pins s σ H x y v u Q I rx ry h
  obtain ⟨a,b,xs,ys,rfl,rfl,ha,hb,hx,hz,q1,q2⟩ := h
  cases rx
  cases ry
  obtain ⟨its,r1,p1,_⟩ := I.tuple ha
  obtain ⟨its2,r2,p2,_⟩ := I.tuple hb
  refine HT.cat_tup p1 p2 (fun z => hx (r1.nil_iff.mp z)) (fun z => ⟨.ref a,H,I,rfl,q1 (r2.nil_iff.mp z)⟩) (fun z => ?_) (by rw [← r1.length,← r2.length]; exact hz)
  refine ⟨.ref s.heap.objs.size,_,I.laid (t' := s.toks) (o := .tup (xs++ys)) (fun b ob q => Heap.get?_push_of_some _ q) (Nat.le_refl _) ?_,rfl,q2 (fun w => z (r2.nil_iff.mpr w)) _ (I.hok.fresh (Nat.le_refl _))⟩
  exact ⟨by rw [List.length_append]; exact hz,_,r1.append r2,IsTup.new _ _,_,Heap.get?_push_size _ rfl,rfl⟩
end
end L2
namespace L2
open PySem PySem.Spec PyProof.Rows
noncomputable def ixN (n : Nat) (i : Int) : Option Nat := if 0≤i then (if i < n then some i.toNat else none) else if -(n : Int)≤i then some (i + n).toNat else none
noncomputable def atI {α : Type} (xs : List α) (i : Int) : Option α := (ixN xs.length i).bind fun j => xs[j]?
theorem zlY {n : Nat} {i : Int} {j : Nat} (h : ixN n i = some j) : seqIndex? i n = some j∧j < n∧-(n : Int)≤i∧i < n := by
  unfold ixN at h
  by_cases h0 : 0≤i
  · rw [if_pos h0] at h
    by_cases h1 : i < n
    · rw [if_pos h1] at h
      have e : i.toNat = j := Option.some.inj h
      exact ⟨by rw [seqIndex_of h0 h1,e],by omega,by omega,h1⟩
    · rw [if_neg h1] at h; cases h
  · rw [if_neg h0] at h
    by_cases h1 : -(n : Int)≤i
    · rw [if_pos h1] at h
      have e : (i + n).toNat = j := Option.some.inj h
      exact ⟨by rw [seqIndex_neg (by omega) h1,e],by omega,h1,by omega⟩
    · rw [if_neg h1] at h; cases h
theorem zjd {α : Type} {xs : List α} {i : Int} {v : α} (h : atI xs i = some v) : ∃ j,seqIndex? i xs.length = some j∧xs[j]? = some v∧j < xs.length∧-(xs.length : Int)≤i∧i < xs.length := by
  unfold atI at h
  cases e : ixN xs.length i with
  | none => rw [e] at h; cases h
  | some j =>
    rw [e] at h
    obtain ⟨h1,h2,h3,h4⟩ := zlY e
    exact ⟨j,h1,h,h2,h3,h4⟩
noncomputable def zmJ (b : Expr) : Prop := ∀ o i,subscripted b false o i = operate [o,i] (getItem o i)
noncomputable def IxR (X : Cx) (r : R2) : Prop :=
  ∀ (value slice : Expr) (pins : List (Addr × Obj)) (s : Shared) (σ : St) (H : Hp) (x y : V) (v u : Value) (Q : VK),Inv X pins σ H s→RelV x v→RelV y u→r x y H Q →
    subscripted slice false v u = operate [v,u] (getItem v u)→wpAny (model X.prog X.w) X.A (subscriptTail value slice v u) (EP X pins σ Q) X.xe s
noncomputable def MtR (X : Cx) (id : String) (r : V→List V→Hp→VK→Prop) : Prop :=
  ∀ (pins : List (Addr × Obj)) (s : Shared) (σ : St) (H : Hp) (x : V) (xs : List V) (v : Value) (us : List Value) (Q : VK),Inv X pins σ H s→RelV x v→Vals xs us→r x xs H Q →
    wpAny (model X.prog X.w) X.A (call (.builtin id) (v::us)) (EP X pins σ Q) X.xe s
section
variable {X : Cx} {a b : Expr} {ta tb : TE} {pos : Pos}
theorem IxR.or {r r' : R2} (h : IxR X r) (h' : IxR X r') : IxR X (fun x y H Q => r x y H Q∨r' x y H Q) := by
  intro value slice pins s σ H x y v u Q I rx ry q hs
  rcases q with q | q
  · exact h value slice pins s σ H x y v u Q I rx ry q hs
  · exact h' value slice pins s σ H x y v u Q I rx ry q hs
theorem zsG {r : R2} (hr : IxR X r) (ha : PE X a ta) (hb : PE X b tb) (hs : zmJ b) : PE X (.Subscript a b pos) (tOp r ta tb) := by
  intro pins s σ H Q I h
  exact Subscript_ (binT ha hb I h fun v u s2 x y H2 I2 rx ry q => hr a b pins s2 σ H2 x y v u Q I2 rx ry q (hs _ _))
noncomputable def rIxL (K : PySem.W.Frag) : R2 := fun x y H Q => ∃ p xs i v,x = .ref p∧y = .int i∧SqL K H p xs∧atI xs i = some v∧Q v H
noncomputable def rIxT (K : PySem.W.Frag) : R2 := fun x y H Q => ∃ p xs i v,x = .ref p∧y = .int i∧SqT K H p xs∧atI xs i = some v∧Q v H
noncomputable def rIxS : R2 := fun x y H Q => ∃ z i c,x = .str z∧y = .int i∧z.length≤sizeLine∧atI z.cps.toList i = some c∧Q (.str ⟨#[c]⟩) H
theorem zpD : IxR X (rIxL X.K) := by
  intro value slice pins s σ H x y v u Q I rx ry h hs
  obtain ⟨p,xs,i,z,rfl,rfl,hq,he,q⟩ := h
  cases rx
  obtain ⟨t,rfl⟩ := ry
  obtain ⟨its,r,pl,hz⟩ := I.list hq
  obtain ⟨j,h1,h2,h3,h4,h5⟩ := zjd he
  obtain ⟨w,ew,rw'⟩ := r.get h2
  have hl := r.length
  have hn := zgO
  have fin : EP X pins σ Q w s := ⟨z,H,I,rw',q⟩
  by_cases h0 : 0≤i
  · have hj : i.toNat = j := by
      rw [seqIndex_of h0 h5] at h1
      exact Option.some.inj h1
    exact item_listR pl.isList h0 (by omega) (by rw [hj]; simpa using ew) fin hs
  · have hj : (i + (its.toArray.size : Int)).toNat = j := by
      rw [seqIndex_neg (by omega) h4] at h1
      rw [List.size_toArray,← hl]
      exact Option.some.inj h1
    exact subscriptTail_builtinR (x := w) pl.isList.typeIs slot_list_getitem.lookup
      (wpAny_getItem_list_neg (Q := fun r s' => r = w∧EP X pins σ Q r s') pl.isList (by omega) (by rw [List.size_toArray] <;> omega) (by omega) (by rw [hj]; simpa using ew) ⟨rfl,fin⟩) hs
theorem zrz : IxR X (rIxT X.K) := by
  intro value slice pins s σ H x y v u Q I rx ry h hs
  obtain ⟨p,xs,i,z,rfl,rfl,hq,he,q⟩ := h
  cases rx
  obtain ⟨t,rfl⟩ := ry
  obtain ⟨its,r,pl,hz⟩ := I.tuple hq
  obtain ⟨j,h1,h2,h3,h4,h5⟩ := zjd he
  obtain ⟨w,ew,rw'⟩ := r.get h2
  have hl := r.length
  have hn := zgO
  have fin : EP X pins σ Q w s := ⟨z,H,I,rw',q⟩
  exact subscriptTail_builtinR (x := w) pl.typeIs slot_tuple_getitem.lookup
    (getItem_tuple (j := j) (Q := fun r s' => r = w∧EP X pins σ Q r s') pl (by omega) (by omega) (by rw [List.size_toArray,← hl]; exact h1) (by simpa using ew) ⟨rfl,fin⟩) hs
theorem zrA : IxR X rIxS := by
  intro value slice pins s σ H x y v u Q I rx ry h hs
  obtain ⟨z,i,c,rfl,rfl,hz,he,q⟩ := h
  obtain ⟨t,rfl⟩ := rx
  obtain ⟨t',rfl⟩ := ry
  obtain ⟨j,h1,h2,h3,h4,h5⟩ := zjd he
  have hl : z.cps.toList.length = z.length := by simp [Str.length]
  rw [hl] at h1 h4 h5
  have hn := zgO
  exact tail_any (typeIs_str s z t) slot_str_getitem.lookup (getItem_str (c := c) (by
    have e1 : decide (i < -(2 ^ 63 : Int)) = false := decide_eq_false (by omega)
    have e2 : decide (i ≥ 2 ^ 63) = false := decide_eq_false (by omega)
    rw [e1,e2,Bool.or_false]) (by rw [h1]; simpa using h2) ⟨.str ⟨#[c]⟩,H,I.tok _,⟨_,rfl⟩,q⟩) hs
noncomputable def rIx (K : PySem.W.Frag) : R2 := fun x y H Q => rIxL K x y H Q∨rIxT K x y H Q∨rIxS x y H Q
theorem zrB : IxR X (rIx X.K) := zpD.or (zrz.or zrA)
theorem zkt (its : List Value) (n j : Nat) (u : Value) : Obj.mapSeq (·.setIfInBounds j u) { cls := .type "list",data := .seq its.toArray n } = { cls := .type "list",data := .seq (its.set j u).toArray n } := by
  simp [Obj.mapSeq]
theorem Inv.lst {pins : List (Addr × Obj)} {σ : St} {H : Hp} {s : Shared} {p : Addr} {xs : List V} (I : Inv X pins σ H s) (h : H p = some (.lst xs)) :
    ∃ (its : List Value) (n : Nat),Vals xs its∧s.heap.get? p = some { cls := .type "list",data := .seq its.toArray n }∧xs.length≤sizeLine := by
  obtain ⟨z,its,n,r,e⟩ := I.hok p _ h
  exact ⟨its,n,r,e,z⟩
theorem Inv.lstUpd {pins : List (Addr × Obj)} {σ : St} {H : Hp} {s : Shared} {p : Addr} {xs ys : List V} {its its' : List Value} {n n' : Nat} {f : Obj→Obj} (I : Inv X pins σ H s) (h : H p = some (.lst xs))
    (ho : s.heap.get? p = some { cls := .type "list",data := .seq its.toArray n }) (hf : f { cls := .type "list",data := .seq its.toArray n } = { cls := .type "list",data := .seq its'.toArray n' }) (r : Vals ys its') (hz : ys.length≤sizeLine) (t : Nat) :
    Inv X pins σ (upd H p (.lst ys)) { s with heap := s.heap.update p f,toks := t } := by
  have e : (s.heap.update p f).get? p = some { cls := .type "list",data := .seq its'.toArray n' } := by
    rw [Heap.get?_update_self f ho (by rw [hf] <;> rfl),hf]
  refine I.write (x := p) (e := p) (by rw [h]; trivial) (.inl rfl) (fun b u hb q => (Heap.get?_update_other _ _ (Ne.symm hb)).trans q) ⟨_,e⟩ ?_
  exact ⟨hz,its',n',r,e⟩
noncomputable def zqI : V→V→V→Hp→(Hp→Prop)→Prop := fun o i v H Q => ∃ p xs k j,o = .ref p∧i = .int k∧H p = some (.lst xs)∧ixN xs.length k = some j∧Q (upd H p (.lst (xs.set j v)))
theorem zmZ : PSet X zqI := by
  intro pins s σ H o i v ov iv u Q I ro ri rv h
  obtain ⟨p,xs,k,j,rfl,rfl,hp,hj,q⟩ := h
  cases ro
  obtain ⟨t,rfl⟩ := ri
  obtain ⟨its,n,r,ho,hz⟩ := I.lst hp
  obtain ⟨h1,h2,h3,h4⟩ := zlY hj
  have hl := r.length
  have hn := zgO
  have I' : Inv X pins σ (upd H p (.lst (xs.set j v))) { s with heap := s.heap.update p (Obj.mapSeq (·.setIfInBounds j u)) } :=
    I.lstUpd hp ho (zkt its n j u) (r.set rv j) (by rw [List.length_set]; exact hz) s.toks
  by_cases h0 : 0≤k
  · have hk : k.toNat = j := by
      rw [seqIndex_of h0 h4] at h1
      exact Option.some.inj h1
    exact PySem.W.ki_setAt ho h0 (by omega) (by rw [List.size_toArray,← hl]; exact h4) (by rw [hk]; exact ⟨_,I',q⟩)
  · have hk : (k + (its.toArray.size : Int)).toNat = j := by
      rw [seqIndex_neg (by omega) h3] at h1
      rw [List.size_toArray,← hl]
      exact Option.some.inj h1
    exact PySem.W.ki_setBack ho (by omega) (by rw [List.size_toArray,← hl]; exact h3) (by omega) (by rw [hk]; exact ⟨_,I',q⟩)
theorem zhF (lo hi : Option Int) (n : Nat) : (sliceBounds lo hi none n).1 = ((HT.sIx n 0 lo : Nat) : Int)∧(sliceBounds lo hi none n).2.1 = ((HT.sIx n n hi : Nat) : Int)∧(sliceBounds lo hi none n).2.2 = 1 := by
  refine ⟨?_,?_,rfl⟩
  · cases lo with
    | none => simp [sliceBounds,HT.sIx]
    | some i =>
      simp only [sliceBounds,HT.sIx,Option.getD_none,show (1 : Int) > 0 by decide,if_true]
      by_cases h : i < 0
      · simp only [h,if_true] <;> omega
      · simp only [h,if_false] <;> omega
  · cases hi with
    | none => simp [sliceBounds,HT.sIx]
    | some i =>
      simp only [sliceBounds,HT.sIx,Option.getD_none,show (1 : Int) > 0 by decide,if_true]
      by_cases h : i < 0
      · simp only [h,if_true] <;> omega
      · simp only [h,if_false] <;> omega
theorem zha (its : List Value) (lo hi : Option Int) : slicePick its.toArray lo hi none = ((its.drop (HT.sIx its.length 0 lo)).take (HT.sIx its.length its.length hi - HT.sIx its.length 0 lo)).toArray := by
  obtain ⟨h1,h2,h3⟩ := zhF lo hi its.toArray.size
  unfold slicePick
  rw [h1,h2,h3]
  simp only [sliceRange_one,pick_run,List.size_toArray] <;> rfl
noncomputable def rSlL (K : PySem.W.Frag) : V→Option Int→Option Int→Hp→VK→Prop := fun x lo hi H Q => ∃ a xs,x = .ref a∧SqL K H a xs∧∀ p,H p = none→Q (.ref p) (upd H p (.lst (cutV xs lo hi)))
theorem zkW : SlR X (rSlL X.K) := by
  intro pins s σ H x v vl vu lo hi sl Q I rx hs pl pu h
  obtain ⟨a,xs,rfl,hx,q⟩ := h
  cases rx
  obtain ⟨its,r,ht,hz⟩ := I.list hx
  have hlen := r.length
  refine ⟨"list",_,slot_list_getitem.lookup,ht.isList.typeIs,?_⟩
  refine wpAny_getItem_list_slice ht.isList hs pl pu .none (by simp) ?_ (by rw [List.size_toArray] <;> omega)
  rw [zha,← hlen]
  refine ⟨.ref s.heap.objs.size,_,I.laid (t' := s.toks) (o := .lst (cutV xs lo hi)) (fun b ob q => Heap.get?_push_of_some _ q) (Nat.le_refl _) ?_,rfl,q _ (I.hok.fresh (Nat.le_refl _))⟩
  exact ⟨Nat.le_trans (zgi xs lo hi) hz,_,0,(r.drop (HT.sIx xs.length 0 lo)).take (HT.sIx xs.length xs.length hi - HT.sIx xs.length 0 lo),Heap.get?_push_size _ rfl⟩
noncomputable def zer : V→Bool
  | .non => true
  | .bl _ => true
  | .int _ => true
  | .str _ => true
  | _ => false
noncomputable def eqV : V→V→Bool
  | .non,.non => true
  | .bl a,.bl b => a == b
  | .bl a,.int b => (if a then 1 else 0) == b
  | .int a,.bl b => a == (if b then 1 else 0)
  | .int a,.int b => a == b
  | .str a,.str b => a == b
  | _,_ => false
theorem zrZ {A : Around} {s : Shared} {y x : V} {u v : Value} (ry : RelV y u) (rx : RelV x v) (fy : zer y = true) (fx : zer x = true) : SeqAt.EqAt A s u v (eqV y x) := by
  cases y with
  | non =>
    cases ry
    cases x with
    | non => cases rx; exact SeqAt.EqAt.same _
    | bl b => cases rx; exact SeqAt.EqAt.none_bool b
    | int b => obtain ⟨t,rfl⟩ := rx; exact SeqAt.EqAt.none_int b t
    | str b => obtain ⟨t,rfl⟩ := rx; exact SeqAt.EqAt.none_str b t
    | _ => exact absurd (show false = true from fx) Bool.false_ne_true
  | bl a =>
    cases ry
    cases x with
    | non => cases rx; exact SeqAt.EqAt.bool_none a
    | bl b => cases rx; exact SeqAt.EqAt.bool_bool a b
    | int b => obtain ⟨t,rfl⟩ := rx; exact SeqAt.EqAt.bool_int a b t
    | str b => obtain ⟨t,rfl⟩ := rx; exact SeqAt.EqAt.bool_str a b t
    | _ => exact absurd (show false = true from fx) Bool.false_ne_true
  | int a =>
    obtain ⟨t',rfl⟩ := ry
    cases x with
    | non => cases rx; exact SeqAt.EqAt.int_none a t'
    | bl b => cases rx; exact SeqAt.EqAt.int_bool a t' b
    | int b => obtain ⟨t,rfl⟩ := rx; exact SeqAt.EqAt.int_int a t' b t
    | str b => obtain ⟨t,rfl⟩ := rx; exact SeqAt.EqAt.int_str a t' b t
    | _ => exact absurd (show false = true from fx) Bool.false_ne_true
  | str a =>
    obtain ⟨t',rfl⟩ := ry
    cases x with
    | non => cases rx; exact SeqAt.EqAt.str_none a t'
    | bl b => cases rx; exact SeqAt.EqAt.str_bool a t' b
    | int b => obtain ⟨t,rfl⟩ := rx; exact SeqAt.EqAt.str_int a t' b t
    | str b => obtain ⟨t,rfl⟩ := rx; exact SeqAt.EqAt.str_str a t' b t
    | _ => exact absurd (show false = true from fx) Bool.false_ne_true
  | _ => exact absurd (show false = true from fy) Bool.false_ne_true
noncomputable def eqU (x : V) (u : Value) : Bool := match u with
  | .none => eqV .non x
  | .bool b => eqV (.bl b) x
  | .int i _ => eqV (.int i) x
  | .str z _ => eqV (.str z) x
  | _ => false
theorem zil {x y : V} {u : Value} (r : RelV y u) (f : zer y = true) : eqU x u = eqV y x := by
  cases y with
  | non => cases r; rfl
  | bl b => cases r; rfl
  | int i => obtain ⟨t,rfl⟩ := r; rfl
  | str z => obtain ⟨t,rfl⟩ := r; rfl
  | _ => exact absurd (show false = true from f) Bool.false_ne_true
theorem zgn {x : V} : ∀ {xs : List V} {us : List Value},Vals xs us→xs.all zer = true→us.any (eqU x) = xs.any fun y => eqV y x
  | _,_,.nil,_ => rfl
  | y::xs,u::us,.cons r t,f => by
    rw [List.all_cons,Bool.and_eq_true] at f
    rw [List.any_cons,List.any_cons,zil r f.1,zgn t f.2]
theorem zdR {A : Around} {s : Shared} {x : V} {v : Value} (rx : RelV x v) (fx : zer x = true) : ∀ {xs : List V} {us : List Value},Vals xs us→xs.all zer = true→∀ u∈us,SeqAt.EqAt A s u v (eqU x u)
  | _,_,.nil,_ => fun u hu => by cases hu
  | y::xs,u::us,.cons r t,f => fun u' hu => by
    rw [List.all_cons,Bool.and_eq_true] at f
    rcases List.mem_cons.mp hu with rfl | hu
    · rw [zil r f.1]; exact zrZ r rx f.1 fx
    · exact zdR rx fx t f.2 u' hu
noncomputable def inV (x : V) (xs : List V) : Bool := xs.any fun y => eqV y x
noncomputable def rIn (K : PySem.W.Frag) (neg : Bool) : R2 := fun x y H Q => ∃ p xs,y = .ref p∧(SqL K H p xs∨SqT K H p xs)∧zer x = true∧xs.all zer = true∧Q (.bl (if neg then ! inV x xs else inV x xs)) H
theorem zlC : OpR X (compareOp .In) (rIn X.K false) := by
  intro pins s σ H x y v u Q I rx ry h
  obtain ⟨p,xs,rfl,hq,fx,fs,q⟩ := h
  cases ry
  rcases hq with hq | hq
  · obtain ⟨its,r,pl,hz⟩ := I.list hq
    refine SeqAt.in_listAt (eqU x) pl.isList (fun w hw => zdR rx fx r fs w (by simpa using hw)) ⟨.bl _,H,I,rfl,?_⟩
    rw [show its.toArray.any (eqU x) = its.any (eqU x) by simp,zgn r fs]
    exact q
  · obtain ⟨its,r,pl,hz⟩ := I.tuple hq
    refine SeqAt.in_tupleAt (eqU x) pl (fun w hw => zdR rx fx r fs w (by simpa using hw)) ⟨.bl _,H,I,rfl,?_⟩
    rw [show its.toArray.any (eqU x) = its.any (eqU x) by simp,zgn r fs]
    exact q
theorem zh5 : OpR X (compareOp .NotIn) (rIn X.K true) := by
  intro pins s σ H x y v u Q I rx ry h
  obtain ⟨p,xs,rfl,hq,fx,fs,q⟩ := h
  cases ry
  rcases hq with hq | hq
  · obtain ⟨its,r,pl,hz⟩ := I.list hq
    refine SeqAt.notIn_listAt (eqU x) pl.isList (fun w hw => zdR rx fx r fs w (by simpa using hw)) ⟨.bl _,H,I,rfl,?_⟩
    rw [show its.toArray.any (eqU x) = its.any (eqU x) by simp,zgn r fs]
    exact q
  · obtain ⟨its,r,pl,hz⟩ := I.tuple hq
    refine SeqAt.notIn_tupleAt (eqU x) pl (fun w hw => zdR rx fx r fs w (by simpa using hw)) ⟨.bl _,H,I,rfl,?_⟩
    rw [show its.toArray.any (eqU x) = its.any (eqU x) by simp,zgn r fs]
    exact q
theorem zh4 : OpR X (compareOp .NotIn) (fun x y H Q => ∃ i j,x = .str i∧y = .str j∧Q (.bl (!(!(Builtin.Str.occurrences j i 0 j.length 1).isEmpty))) H) := by
  intro pins s σ H x y v u Q I rx ry h
  obtain ⟨i,j,rfl,rfl,q⟩ := h
  obtain ⟨t,rfl⟩ := rx
  obtain ⟨t',rfl⟩ := ry
  exact notIn_str ⟨.bl _,H,I,rfl,q⟩
theorem zdC.or {f : Value} {r r' : List V→Hp→VK→Prop} (h : zdC X f r) (h' : zdC X f r') : zdC X f (fun xs H Q => r xs H Q∨r' xs H Q) := by
  intro pins s σ H xs us Q I rs q
  rcases q with q | q
  · exact h pins s σ H xs us Q I rs q
  · exact h' pins s σ H xs us Q I rs q
theorem zio : zdC X (.type "list") (fun xs H Q => ∃ p ys,xs = [.ref p]∧(SqL X.K H p ys∨SqT X.K H p ys)∧∀ l,H l = none→Q (.ref l) (upd H l (.lst ys))) := by
  intro pins s σ H xs us Q I r h
  obtain ⟨p,ys,rfl,hq,q⟩ := h
  obtain ⟨u,rfl,rx⟩ := zeW r
  cases rx
  have fin : ∀ (its : List Value),Vals ys its→ys.length≤sizeLine→∀ (h' : Heap) (c' : Nat),(∀ b o',s.heap.get? b = some o'→h'.get? b = some o') →
      h'.get? s.heap.objs.size = some { cls := .type "list",dict := none,data := .seq its.toArray c',slots := #[] }→EP X pins σ Q (.ref s.heap.objs.size) { s with heap := h' } := fun its r' hz h' c' kp e =>
    ⟨.ref s.heap.objs.size,_,I.laid (t' := s.toks) kp (Nat.le_refl _) (show zaU X.prog X.w _ h' _ (.lst ys) from ⟨hz,its,c',r',e⟩),rfl,q _ (I.hok.fresh (Nat.le_refl _))⟩
  rcases hq with hq | hq
  · obtain ⟨its,r',pl,hz⟩ := I.list hq
    have hlen := r'.length
    obtain ⟨o,ho,hc,n,hd⟩ := pl.isList
    exact call_list_seq p (.inl rfl) ho hc hd (fun h' c' kp e => fin its r' hz h' c' kp e) (by simp only [List.size_toArray] <;> omega)
  · obtain ⟨its,r',pl,hz⟩ := I.tuple hq
    have hlen := r'.length
    obtain ⟨o,ho,hc,n,hd⟩ := pl
    exact call_list_seq p (.inr rfl) ho hc hd (fun h' c' kp e => fin its r' hz h' c' kp e) (by simp only [List.size_toArray] <;> omega)
theorem zhs : zdC X (.type "tuple") (fun xs H Q => ∃ p ys,xs = [.ref p]∧((SqL X.K H p ys∧∀ l,H l = none→Q (.ref l) (upd H l (.tup ys)))∨(SqT X.K H p ys∧Q (.ref p) H))) := by
  intro pins s σ H xs us Q I r h
  obtain ⟨p,ys,rfl,h⟩ := h
  obtain ⟨u,rfl,rx⟩ := zeW r
  cases rx
  rcases h with ⟨hq,q⟩ | ⟨hq,q⟩
  · obtain ⟨its,r',pl,hz⟩ := I.list hq
    have hlen := r'.length
    refine call_tuple_list pl.isList (fun h' kp => ?_) (by simp only [List.size_toArray] <;> omega)
    have I1 : Inv X pins σ H { s with heap := h' } := I.kept (t' := s.toks) kp
    have I2 : Inv X pins σ (upd H h'.objs.size (.tup ys)) { s with heap := h'.push { cls := .type "tuple",data := .seq its.toArray } } :=
      I1.laid (t' := s.toks) (fun b o e => Heap.get?_push_of_some _ e) (Nat.le_refl _) (show zaU X.prog X.w _ _ _ (.tup ys) from ⟨hz,its,r',IsTup.new _ _,_,Heap.get?_push_size _ rfl,rfl⟩)
    exact ⟨.ref h'.objs.size,_,I2,rfl,q _ (I1.hok.fresh (Nat.le_refl _))⟩
  · obtain ⟨its,r',pl,hz⟩ := I.tuple hq
    exact call_tuple_same pl ⟨.ref p,H,I,rfl,q⟩
noncomputable def tyV (K : PySem.W.Frag) (T : String) (x : V) (H : Hp) : Prop := match x with
  | .str _ => T = "str"
  | .int _ => T = "int"
  | .ref p => (T = "list"∧∃ xs,SqL K H p xs)∨(T = "tuple"∧((∃ o,K.lookup p = some o∧o.cls = .type "tuple"∧o.dict = none)∨∃ xs,Rd H p (.tup xs))) ∨
      (T = "dict"∧((∃ kvs,Rd H p (.dK kvs))∨∃ kvs,H p = some (.dT kvs)))∨(T = "set"∧∃ S n,H p = some (.set S n))
  | _ => False
theorem zn2 {pins : List (Addr × Obj)} {σ : St} {H : Hp} {s : Shared} {T : String} {x : V} {v : Value} (I : Inv X pins σ H s) (r : RelV x v) (ty : tyV X.K T x H) :
    s.TypeIs v T∧∀ a,v = .ref a→∃ ob,s.heap.get? a = some ob∧ob.dict = none := by
  cases x with
  | str z =>
    obtain ⟨t,rfl⟩ := r
    cases (show T = "str" from ty)
    exact ⟨typeIs_str s z t,fun _ e => nomatch e⟩
  | int i =>
    obtain ⟨t,rfl⟩ := r
    cases (show T = "int" from ty)
    exact ⟨typeIs_int s i t,fun _ e => nomatch e⟩
  | ref p =>
    cases r
    rcases ty with ⟨rfl,xs,hq⟩ | ⟨rfl,⟨o,hk,hc,hd⟩ | ⟨xs,hq⟩⟩ | ⟨rfl,hk⟩ | ⟨rfl,S,n,hk⟩
    · obtain ⟨its,_,pl,_⟩ := I.list hq
      refine ⟨pl.isList.typeIs,fun a e => ?_⟩
      cases e
      obtain ⟨o,n,e,c,hd,_⟩ := pl
      exact ⟨o,e,hd⟩
    · refine ⟨⟨o,I.kIn p o hk,hc⟩,fun a e => ?_⟩
      cases e
      exact ⟨o,I.kIn _ o hk,hd⟩
    · obtain ⟨_,its,_,⟨o,ho,hc,_⟩,o2,ho2,hd2⟩ := hq.ok I.hok
      refine ⟨⟨o,ho,hc⟩,fun a e => ?_⟩
      cases e
      exact ⟨o2,ho2,hd2⟩
    · have z : ∃ o,s.heap.get? p = some o∧o.ExactDict := by
        rcases hk with ⟨kvs,hk⟩ | ⟨kvs,hk⟩
        · obtain ⟨_,_,_,_,o,_,_,e,ex,_⟩ := (show zaU X.prog X.w H s.heap p (.dK kvs) from hk.ok I.hok)
          exact ⟨o,e,ex⟩
        · obtain ⟨_,_,_,_,o,_,_,e,ex,_⟩ := I.hok p _ hk
          exact ⟨o,e,ex⟩
      obtain ⟨o,e,ex⟩ := z
      refine ⟨⟨o,e,ex.1⟩,fun a e2 => ?_⟩
      cases e2
      exact ⟨o,e,ex.2.1⟩
    · obtain ⟨o,_,_,_,e,ex,_⟩ := I.hok p _ hk
      refine ⟨⟨o,e,ex.1⟩,fun a e2 => ?_⟩
      cases e2
      exact ⟨o,e,ex.2.1⟩
  | _ => exact False.elim ty
noncomputable def tBM0 (K : PySem.W.Frag) (T : String) (r : V→List V→Hp→VK→Prop) (to : TE) : TE := fun σ H Q => to σ H fun x H1 => tyV K T x H1∧r x [] H1 Q
noncomputable def tBM (K : PySem.W.Frag) (T : String) (r : V→List V→Hp→VK→Prop) (to : TE) (t : TA) : TE := fun σ H Q => to σ H fun x H1 => tyV K T x H1∧t σ H1 fun xs H2 => r x xs H2 Q
variable {o e : Expr} {es : List Expr} {to : TE} {t : TA} {name : Str} {apos cpos : Pos} {T id : String} {r : V → List V → Hp → VK → Prop}
theorem zq4 (pa : PlainAttrs T) (slot : Slot T name id) (hty : typeOf (.builtin id) = pure (.type "method_descriptor")) (hm : MtR X id r) (ho : PE X o to)
    (hbase : attributeBase o name X.env (eval o X.env) = eval o X.env := by rfl) (hline : (apos.endLine == cpos.line) = true := by rfl) : PE X (.Call (.Attribute o name apos) [] [] cpos) (tBM0 X.K T r to) := by
  intro pins s σ H Q I h
  refine wpAny_Call_method0_late hbase hline (thn (ho pins s σ H _ I h) fun v s1 ⟨x,H1,I1,r1,ty,q1⟩ => ?_)
  obtain ⟨h1,h2⟩ := zn2 I1 r1 ty
  exact ⟨T,id,pa,slot,hty,h1,h2,Calls.callWith_builtin rfl (PySem.evalArgs_none (hm pins s1 σ H1 x [] v [] Q I1 r1 .nil q1))⟩
theorem zq5 (pa : PlainAttrs T) (slot : Slot T name id) (hty : typeOf (.builtin id) = pure (.type "method_descriptor")) (hm : MtR X id r) (ho : PE X o to) (ha : PA X (e::es) t)
    (hbase : attributeBase o name X.env (eval o X.env) = eval o X.env := by rfl)
    (hfew : ((backTo cpos (starEach (e::es) X.env)).all (fun x => ! x.1) && (backToKw cpos (keywordEach [] X.env)).all (fun x => x.1.isSome)
      && decide ((e::es).length + ([] : List Keyword).length + (if ([] : List Keyword).isEmpty then 0 else 1) < 30)) = true := by rfl)
    (hline : (apos.endLine == cpos.line) = true := by rfl) (hs : starEach (e::es) X.env = (false,eval e X.env)::starEach es X.env := by rfl) (hplain : (backTo cpos (starEach es X.env)).any (·.1) = false := by rfl) :
    PE X (.Call (.Attribute o name apos) (e::es) [] cpos) (tBM X.K T r to t) := by
  intro pins s σ H Q I h
  refine wpAny_Call_method_late hbase hfew hline rfl (thn (ho pins s σ H _ I h) fun v s1 ⟨x,H1,I1,r1,ty,q1⟩ => ?_)
  obtain ⟨h1,h2⟩ := zn2 I1 r1 ty
  refine ⟨T,id,pa,slot,hty,h1,h2,?_⟩
  have hA := ha cpos pins s1 σ H1 _ I1 q1
  rw [hs] at hA ⊢
  refine Calls.callWith_builtin (by show (false || (backTo cpos (starEach es X.env)).any (·.1)) = false; rw [hplain] <;> rfl) (Calls.evalArgs_plain ?_)
  exact thn hA fun us s2 ⟨vs,H2,I2,r2,q2⟩ => hm pins s2 σ H2 x vs v us Q I2 r1 r2 q2
end
end L2
namespace L2
open PySem PySem.Spec PyProof.Rows
noncomputable def MtM (X : Cx) (id : String) (r : V→List V→Hp→VK→Prop) : Prop :=
  ∀ (pins : List (Addr × Obj)) (s : Shared) (σ : St) (H : Hp) (x : V) (xs : List V) (v : Value) (us : List Value) (Q : VK),Inv X pins σ H s→RelV x v→Vals xs us→r x xs H Q →
    wpAny (model X.prog X.w) X.A (call (.builtin id) (v::us)) (EP X pins σ Q) X.xe s
theorem Vals.one {x : V} {us : List Value} (h : Vals [x] us) : ∃ u,us = [u]∧RelV x u := by
  cases h with
  | cons r t => cases t; exact ⟨_,rfl,r⟩
theorem Vals.eraseIdx : ∀ {xs : List V} {us : List Value} (i : Nat),Vals xs us→Vals (xs.eraseIdx i) (us.eraseIdx i)
  | _,_,_,.nil => .nil
  | _,_,0,.cons _ t => t
  | _,_,i + 1,.cons r t => .cons r (Vals.eraseIdx i t)
section
variable {X : Cx} {pins : List (Addr × Obj)} {σ : St} {H : Hp} {s : Shared} {l b : Addr} {xs ys zs : List V}
theorem Inv.lset {its its' : List Value} {n : Nat} {f : Array Value→Array Value} {t' : Nat} (I : Inv X pins σ H s) (hH : H l = some (.lst xs))
    (e : s.heap.get? l = some { cls := .type "list",data := .seq its.toArray n }) (hf : f its.toArray = its'.toArray) (hv : Vals ys its') (hz : ys.length≤sizeLine) :
    Inv X pins σ (upd H l (.lst ys)) { s with heap := s.heap.update l (Obj.mapSeq f),toks := t' } := by
  have q := PySem.IsL.update e f
  rw [hf] at q
  refine I.write (x := l) (e := l) (by rw [hH]; exact trivial) (.inl rfl) (fun b' u hb hu => (Heap.get?_update_other s.heap (Obj.mapSeq f) (Ne.symm hb)).trans hu) ⟨_,q⟩ ?_
  exact ⟨hz,its',_,hv,q⟩
theorem Inv.lnew {its : List Value} {t' : Nat} (I : Inv X pins σ H s) (hv : Vals ys its) (hz : ys.length≤sizeLine) :
    Inv X pins σ (upd H s.heap.objs.size (.lst ys)) { s with heap := s.heap.push { cls := .type "list",data := .seq its.toArray },toks := t' } :=
  I.laid (fun _ _ q => Heap.get?_push_of_some _ q) (Nat.le_refl _) ⟨hz,its,0,hv,Heap.get?_push_size _ rfl⟩
theorem Inv.fresh (I : Inv X pins σ H s) : H s.heap.objs.size = none := I.hok.fresh (Nat.le_refl _)
theorem Inv.lstM (I : Inv X pins σ H s) (hH : H l = some (.lst xs)) : xs.length≤sizeLine∧∃ (its : List Value) (n : Nat),Vals xs its∧xs.length = its.length∧s.heap.get? l = some { cls := .type "list",data := .seq its.toArray n } := by
  obtain ⟨z,its,n,r,e⟩ := I.hok l _ hH
  exact ⟨z,its,n,r,r.length,e⟩
end
section
variable {X : Cx}
noncomputable def zlj : V→List V→Hp→VK→Prop := fun x vs H Q => ∃ l xs y,x = .ref l∧vs = [y]∧H l = some (.lst xs)∧xs.length < sizeLine∧Q .non (upd H l (.lst (xs++[y])))
theorem zc1 : MtM X "list.append" zlj := by
  intro pins s σ H x vs v us Q I rx rv h
  obtain ⟨l,xs,y,rfl,rfl,hH,hz,q⟩ := h
  cases rx
  obtain ⟨u,rfl,ru⟩ := rv.one
  obtain ⟨z,its,n,r,hl,e⟩ := I.lstM hH
  refine call_meets F.slot_list_append ⟨_,e,rfl⟩ F.entry_list_append (F.args_list_append_2 _ _) (PySem.list_append l its.toArray n u (by rw [List.size_toArray]; omega)) ⟨e,?_⟩
  refine ⟨.non,_,I.lset (its' := its++[u]) hH e (by simp) (r.append (.cons ru .nil)) ?_,rfl,q⟩
  rw [List.length_append,List.length_singleton]
  omega
end
section
variable {prog : Program} {w : World} {A : Around} {E : Value → Shared → Prop} {s : Shared}
end
section
variable {X : Cx}
end
end L2
namespace L2
open PySem PySem.Spec PyProof.Rows
section
variable {κ : Type} [DecidableEq κ]
noncomputable def valV (kvs : List (κ × V)) (k : κ) : Option V := (kvs.find? fun kv => decide (kv.1 = k)).map (·.2)
noncomputable def putK (kvs : List (κ × V)) (k : κ) (v : V) : List (κ × V) :=
  if (kvs.any fun kv => decide (kv.1 = k)) = true then kvs.map (fun kv => if kv.1 = k then (kv.1,v) else kv) else kvs++[(k,v)]
theorem zfF {p : κ × V} {r : List (κ × V)} {k : κ} (e : p.1 = k) : valV (p::r) k = some p.2 := by simp [valV,List.find?_cons,e]
theorem zez {p : κ × V} {r : List (κ × V)} {k : κ} (e : ¬ p.1 = k) : valV (p::r) k = valV r k := by simp [valV,List.find?_cons,e]
theorem zji (k : κ) : ∀ kvs : List (κ × V),(kvs.any fun kv => decide (kv.1 = k)) = (valV kvs k).isSome
  | [] => rfl
  | p::r => by
    rw [List.any_cons]
    by_cases e : p.1 = k
    · simp only [zfF e,decide_eq_true e,Bool.true_or,Option.isSome_some]
    · rw [zez e,decide_eq_false e,Bool.false_or]; exact zji k r
theorem zep (kvs : List (κ × V)) (k : κ) (v : V) : (putK kvs k v).length≤kvs.length + 1 := by
  unfold putK
  split
  · rw [List.length_map]; omega
  · rw [List.length_append,List.length_cons,List.length_nil]; omega
theorem RelO.isSome_eq {o : Option V} {u : Option Value} (r : RelO o u) : o.isSome = u.isSome := by
  cases o with
  | none => cases u with
    | none => rfl
    | some _ => exact (show False from r).elim
  | some _ => cases u with
    | none => exact (show False from r).elim
    | some _ => rfl
theorem RelO.getD {o : Option V} {u : Option Value} {d : V} {d' : Value} (r : RelO o u) (rd : RelV d d') : RelV (o.getD d) (u.getD d') := by
  cases o with
  | none => cases u with
    | none => exact rd
    | some _ => exact (show False from r).elim
  | some _ => cases u with
    | none => exact (show False from r).elim
    | some _ => exact r
theorem KV.val {kvs : List (κ × V)} {vs : List (κ × Value)} (r : KV kvs vs) (k : κ) : RelO (valV kvs k) (valueAt vs k) := by
  unfold KV at r
  induction r with
  | nil => exact True.intro
  | @cons p q ps qs h t ih =>
    obtain ⟨h1,h2⟩ := h
    by_cases e : p.1 = k
    · have e' : q.1 = k := h1.symm.trans e
      have b : valueAt (q::qs) k = some q.2 := by simp [valueAt,List.find?_cons,e']
      rw [zfF e,b]; exact h2
    · have e' : ¬ q.1 = k := fun z => e (h1.trans z)
      have b : valueAt (q::qs) k = valueAt qs k := by simp [valueAt,List.find?_cons,e']
      rw [zez e,b]; exact ih
theorem KV.any {kvs : List (κ × V)} {vs : List (κ × Value)} (r : KV kvs vs) (k : κ) : (kvs.any fun kv => decide (kv.1 = k)) = vs.any fun kv => decide (kv.1 = k) := by
  unfold KV at r
  induction r with
  | nil => rfl
  | cons h t ih => rw [List.any_cons,List.any_cons,ih,h.1]
theorem KV.repl {kvs : List (κ × V)} {vs : List (κ × Value)} (r : KV kvs vs) (k : κ) {y : V} {u : Value} (ry : RelV y u) :
    KV (kvs.map fun kv => if kv.1 = k then (kv.1,y) else kv) (vs.map fun kv => if kv.1 = k then (kv.1,u) else kv) := by
  unfold KV at r ⊢
  induction r with
  | nil => exact .nil
  | @cons p q ps qs h t ih =>
    rw [List.map_cons,List.map_cons]
    refine .cons ?_ ih
    obtain ⟨h1,h2⟩ := h
    by_cases e : p.1 = k
    · rw [if_pos e,if_pos (h1.symm.trans e)]; exact ⟨h1,ry⟩
    · rw [if_neg e,if_neg (fun z => e (h1.trans z))]; exact ⟨h1,h2⟩
theorem KV.put {kvs : List (κ × V)} {vs : List (κ × Value)} (r : KV kvs vs) (k : κ) {y : V} {u : Value} (ry : RelV y u) : KV (putK kvs k y) (stored vs k u) := by
  unfold putK stored
  rw [r.any k]
  by_cases e : (vs.any fun kv => decide (kv.1 = k)) = true
  · rw [if_pos e,if_pos e]; exact r.repl k ry
  · rw [if_neg e,if_neg e]; exact Paired.snoc r ⟨rfl,ry⟩
theorem KV.length {kvs : List (κ × V)} {vs : List (κ × Value)} (r : KV kvs vs) : kvs.length = vs.length := Paired.length r
end
theorem zlW {P : Program} {w : World} {k : Key} {u : Value} (r : RelV (kV k) u) : (zbb P w).is k u = true := by
  cases k with
  | inl i => obtain ⟨t,e⟩ := (show ∃ t,u = Value.int i t from r); subst e; exact ziU P w i t
  | inr x => obtain ⟨t,e⟩ := (show ∃ t,u = Value.str x t from r); subst e; exact ziT P w x t
theorem zif {P : Program} {w : World} : ∀ {ks : List Key} {us : List Value},Vals (ks.map kV) us→ItemsAre (zbb P w) ks us
  | [],_,r => by rw [List.map_nil] at r; cases r; exact .nil
  | k::ks,_,r => by
    rw [List.map_cons] at r
    cases r with
    | cons h t => exact .cons (zlW h) (zif t)
noncomputable abbrev KT (H : Hp) : List (List Key × V)→List (List Key × Addr × Value)→Prop := Paired fun p q => p.1 = q.1∧H q.2.1 = some (.tup (p.1.map kV))∧RelV p.2 q.2.2
theorem KT.val {H : Hp} {kvs : List (List Key × V)} {xs : List (List Key × Addr × Value)} (r : KT H kvs xs) (k : List Key) : RelO (valV kvs k) ((atKey xs k).map (·.2)) := by
  induction r with
  | nil => exact True.intro
  | @cons p q ps qs h t ih =>
    obtain ⟨h1,_,h2⟩ := h
    by_cases e : p.1 = k
    · have e' : q.1 = k := h1.symm.trans e
      have b : atKey (q::qs) k = some q.2 := by simp [atKey,List.find?_cons,e']
      rw [zfF e,b]; exact h2
    · have e' : ¬ q.1 = k := fun z => e (h1.trans z)
      have b : atKey (q::qs) k = atKey qs k := by simp [atKey,List.find?_cons,e']
      rw [zez e,b]; exact ih
theorem KT.repl {H : Hp} {kvs : List (List Key × V)} {xs : List (List Key × Addr × Value)} (r : KT H kvs xs) (k : List Key) {y : V} {u : Value} (ry : RelV y u) :
    KT H (kvs.map fun kv => if kv.1 = k then (kv.1,y) else kv) (xs.map (putAt k u)) := by
  induction r with
  | nil => exact .nil
  | @cons p q ps qs h t ih =>
    rw [List.map_cons,List.map_cons]
    refine .cons ?_ ih
    obtain ⟨h1,h2,h3⟩ := h
    unfold putAt
    by_cases e : p.1 = k
    · rw [if_pos e,if_pos (h1.symm.trans e)]; exact ⟨h1,h2,ry⟩
    · rw [if_neg e,if_neg (fun z => e (h1.trans z))]; exact ⟨h1,h2,h3⟩
theorem KT.put {H : Hp} {kvs : List (List Key × V)} {xs : List (List Key × Addr × Value)} (r : KT H kvs xs) (k : List Key) {b : Addr} {y : V} {u : Value} (hb : H b = some (.tup (k.map kV))) (ry : RelV y u) :
    KT H (putK kvs k y) (storedH xs k b u) := by
  have e : (kvs.any fun kv => decide (kv.1 = k)) = (atKey xs k).isSome := by
    rw [zji,(r.val k).isSome_eq,Option.isSome_map]
  unfold putK storedH
  rw [e]
  by_cases q : (atKey xs k).isSome = true
  · rw [if_pos q,if_pos q]; exact r.repl k ry
  · rw [if_neg q,if_neg q]; exact Paired.snoc r ⟨rfl,hb,ry⟩
theorem KT.keeps {H H' : Hp} {kvs : List (List Key × V)} {xs : List (List Key × Addr × Value)} (r : KT H kvs xs) (ht : ∀ b ys,H b = some (.tup ys)→H' b = some (.tup ys)) : KT H' kvs xs :=
  Paired.mapP r fun _ _ z => ⟨z.1,ht _ _ z.2.1,z.2.2⟩
section
variable {P : Program} {w : World} {H : Hp} {h : Heap} {a : Addr}
theorem zqH {u : HO} (ok : HOk P w H h) (e : Rd H a u) : zaU P w H h a u := e.ok ok
theorem zkH {kvs : List (Key × V)} (ok : HOk P w H h) (e : Rd H a (.dK kvs)) : kvs.length≤sizeLine∧(a == sysModules) = false∧∃ vs,KV kvs vs∧h.DictOf (zbb P w) a vs :=
  show zaU P w H h a (.dK kvs) from zqH ok e
theorem zs5 {kvs : List (Key × V)} (ok : HOk P w H h) (e : H a = some (.dK kvs)) : kvs.length≤sizeLine∧(a == sysModules) = false∧∃ vs,KV kvs vs∧h.DictOf (zbb P w) a vs := zkH ok (.inl e)
theorem zic {ks : List Key} (ok : HOk P w H h) (e : H a = some (.tup (ks.map kV))) : (tupleKind (zbb P w)).is h ks a := by
  obtain ⟨_,its,r,⟨o,h1,h2,n,h3⟩,_⟩ := (show zaU P w H h a (.tup (ks.map kV)) from ok a _ e)
  exact ⟨o,its.toArray,n,h1,h2,h3,by simpa using zif r⟩
theorem zml {kvs : List (List Key × V)} (ok : HOk P w H h) (e : Rd H a (.dT kvs)) : kvs.length≤sizeLine∧(a == sysModules) = false ∧
    ∃ xs,KT H kvs xs∧h.DictOfH (tupleKind (zbb P w)) a xs := by
  obtain ⟨z,y,xs,r,o,es,ep,h1,h2,h3,h4,h5⟩ := (show zaU P w H h a (.dT kvs) from zqH ok e)
  refine ⟨z,y,xs,r,o,es,ep,h1,h2,h3,h4,fun x hx => ?_,h5⟩
  have all : ∀ {l : List (List Key × V)} {m : List (List Key × Addr × Value)},KT H l m→∀ x∈m,(tupleKind (zbb P w)).is h x.1 x.2.1 := by
    intro l m q
    induction q with
    | nil => intro x hx; exact nomatch hx
    | @cons p q ps qs hq t ih =>
      intro x hx
      rcases List.mem_cons.mp hx with e | hx
      · subst e
        exact zic ok (by rw [← hq.1]; exact hq.2.1)
      · exact ih x hx
  exact all r x hx
theorem zs4 {kvs : List (List Key × V)} (ok : HOk P w H h) (e : H a = some (.dT kvs)) : kvs.length≤sizeLine∧(a == sysModules) = false ∧
    ∃ xs,KT H kvs xs∧h.DictOfH (tupleKind (zbb P w)) a xs := zml ok (.inl e)
end
noncomputable def DGet (H : Hp) (a : Addr) (y : V) (r : Option V) : Prop :=
  (∃ kvs k,Rd H a (.dK kvs)∧y = kV k∧r = valV kvs k)∨∃ kvs k b,Rd H a (.dT kvs)∧y = .ref b∧H b = some (.tup (k.map kV))∧r = valV kvs k
noncomputable def DPut (H : Hp) (a : Addr) (y v : V) (H' : Hp) : Prop :=
  (∃ kvs k,H a = some (.dK kvs)∧y = kV k∧kvs.length < sizeLine∧H' = upd H a (.dK (putK kvs k v))) ∨
  ∃ kvs k b,H a = some (.dT kvs)∧y = .ref b∧H b = some (.tup (k.map kV))∧kvs.length < sizeLine∧H' = upd H a (.dT (putK kvs k v))
theorem DGet.k {H : Hp} {a : Addr} {kvs : List (Key × V)} {k : Key} (e : H a = some (.dK kvs)) : DGet H a (kV k) (valV kvs k) := .inl ⟨kvs,k,.inl e,rfl,rfl⟩
theorem DGet.t {H : Hp} {a b : Addr} {kvs : List (List Key × V)} {k : List Key} (e : H a = some (.dT kvs)) (eb : H b = some (.tup (k.map kV))) : DGet H a (.ref b) (valV kvs k) := .inr ⟨kvs,k,b,.inl e,rfl,eb,rfl⟩
theorem DPut.k {H : Hp} {a : Addr} {kvs : List (Key × V)} {k : Key} {v : V} (e : H a = some (.dK kvs)) (hl : kvs.length < sizeLine) : DPut H a (kV k) v (upd H a (.dK (putK kvs k v))) := .inl ⟨kvs,k,e,rfl,hl,rfl⟩
theorem DPut.t {H : Hp} {a b : Addr} {kvs : List (List Key × V)} {k : List Key} {v : V} (e : H a = some (.dT kvs)) (eb : H b = some (.tup (k.map kV))) (hl : kvs.length < sizeLine) :
    DPut H a (.ref b) v (upd H a (.dT (putK kvs k v))) := .inr ⟨kvs,k,b,e,rfl,eb,hl,rfl⟩
section
variable {X : Cx} {pins : List (Addr × Obj)} {σ : St} {H : Hp} {s : Shared} {a : Addr} {y v : V} {u r : Value} {o : Option V} {A : Around} {E : Value → Shared → Prop}
theorem Inv.big (I : Inv X pins σ H s) : sysModules < s.heap.objs.size := by
  have h : mainGlobals < s.heap.objs.size := (I.mod.glob.keeps I.bk).lt
  exact Nat.lt_trans (by decide) h
theorem zmq {Q : Value→Shared→Prop} (hu : A.units + 1 < cLine) (I : Inv X pins σ H s) (g : DGet H a y (some v)) (ry : RelV y u) (h : ∀ w' s',Inv X pins σ H s'→RelV v w'→Q w' s') :
    wpAny (model X.prog X.w) A (getItem (.ref a) u) Q E s := by
  rcases g with ⟨kvs,k,e,ey,l⟩ | ⟨kvs,k,b,e,ey,eb,l⟩
  · subst ey
    obtain ⟨z,hd,vs,rel,dd⟩ := zkH I.hok e
    obtain ⟨w',hw,rw'⟩ := RelO.some_of (v := v) (o := valueAt vs k) (by rw [l]; exact rel.val k)
    exact wpAny_getItem_of (zlW ry) dd.mapOf hw (h w' _ (I.tok _) rw')
  · subst ey
    cases (show u = Value.ref b from ry)
    obtain ⟨z,hd,xs,rel,dd⟩ := zml I.hok e
    obtain ⟨w',hw,rw'⟩ := RelO.some_of (v := v) (o := (atKey xs k).map (·.2)) (by rw [l]; exact rel.val k)
    obtain ⟨p,hp,hp2⟩ := Option.map_eq_some_iff.mp hw
    refine wpAny_getItem_heap (tupleKind_room_in1 hu) (zic I.hok eb) dd hp ?_
    rw [hp2]
    exact h w' _ (I.tok _) rw'
theorem d_in {Q : Value→Shared→Prop} (hu : A.units + 1 < cLine) (I : Inv X pins σ H s) (g : DGet H a y o) (ry : RelV y u) (h : ∀ s',Inv X pins σ H s'→Q (.bool o.isSome) s') :
    wpAny (model X.prog X.w) A (compareOp .In u (.ref a)) Q E s := by
  rcases g with ⟨kvs,k,e,ey,l⟩ | ⟨kvs,k,b,e,ey,eb,l⟩
  · subst ey
    obtain ⟨z,hd,vs,rel,dd⟩ := zkH I.hok e
    refine wpAny_in_of (zlW ry) hd dd.mapOf ?_
    rw [← (rel.val k).isSome_eq,← l]
    exact h _ (I.tok _)
  · subst ey
    cases (show u = Value.ref b from ry)
    obtain ⟨z,hd,xs,rel,dd⟩ := zml I.hok e
    refine wpAny_in_heap (tupleKind_room_in1 hu) (zic I.hok eb) hd dd ?_
    have q := (rel.val k).isSome_eq
    rw [Option.isSome_map] at q
    rw [← q,← l]
    exact h _ (I.tok _)
theorem zpM {Q : Value→Shared→Prop} (hu : A.units + 1 < cLine) (I : Inv X pins σ H s) (g : DGet H a y o) (ry : RelV y u) (h : ∀ s',Inv X pins σ H s'→Q (.bool (! o.isSome)) s') :
    wpAny (model X.prog X.w) A (compareOp .NotIn u (.ref a)) Q E s := by
  rcases g with ⟨kvs,k,e,ey,l⟩ | ⟨kvs,k,b,e,ey,eb,l⟩
  · subst ey
    obtain ⟨z,hd,vs,rel,dd⟩ := zkH I.hok e
    refine wpAny_notIn_of (zlW ry) hd dd.mapOf ?_
    rw [← (rel.val k).isSome_eq,← l]
    exact h _ (I.tok _)
  · subst ey
    cases (show u = Value.ref b from ry)
    obtain ⟨z,hd,xs,rel,dd⟩ := zml I.hok e
    refine wpAny_notIn_heap (tupleKind_room_in1 hu) (zic I.hok eb) hd dd ?_
    have q := (rel.val k).isSome_eq
    rw [Option.isSome_map] at q
    rw [← q,← l]
    exact h _ (I.tok _)
theorem zmo {h' : Heap} {t' : Nat} {ob : HO} (I : Inv X pins σ H s) (mu : Mut (H a)) (hs : Heap.SameBut a s.heap h') (he : ∃ q,h'.get? a = some q) (new : zaU X.prog X.w (upd H a ob) h' a ob) :
    Inv X pins σ (upd H a ob) { s with heap := h',toks := t' } :=
  I.write (x := a) (e := a) mu (.inl rfl) (fun b q hb z => (hs.2 b hb).trans z) he new
theorem zr1 {P : Program} {w : World} {H' : Hp} {h' : Heap} {kvs : List (Key × V)} {vs : List (Key × Value)} (z : kvs.length≤sizeLine) (hd : (a == sysModules) = false) (rel : KV kvs vs) (dd : h'.DictOf (zbb P w) a vs) :
    zaU P w H' h' a (.dK kvs) := ⟨z,hd,vs,rel,dd⟩
theorem zmp {H' : Hp} {Q : Unit→Shared→Prop} (hu : A.units + 1 < cLine) (I : Inv X pins σ H s) (g : DPut H a y v H') (ry : RelV y u) (rv : RelV v r) (h : ∀ s',Inv X pins σ H' s'→Q () s') :
    wpAny (model X.prog X.w) A (setItem (.ref a) u r) Q E s := by
  rcases g with ⟨kvs,k,e,ey,l,eH⟩ | ⟨kvs,k,b,e,ey,eb,l,eH⟩
  · subst ey eH
    obtain ⟨z,hd,vs,rel,dd⟩ := zs5 I.hok e
    have hz : vs.length≤sizeLine := by rw [← rel.length]; exact z
    have hl : (putK kvs k v).length≤sizeLine := by have := zep kvs k v; omega
    refine wpAny_setItem_pairs (hsz := hz) (zlW ry) dd fun h' dd' hs => h _ ?_
    have he : ∃ q,h'.get? a = some q := let ⟨q,_,_,hq,_⟩ := dd'; ⟨q,hq⟩
    exact zmo I (by rw [e]; exact True.intro) hs he (zr1 hl hd (rel.put k rv) dd')
  · subst ey eH
    cases (show u = Value.ref b from ry)
    obtain ⟨z,hd,xs,rel,dd⟩ := zs4 I.hok e
    have hz : xs.length≤sizeLine := by rw [← Paired.length rel]; exact z
    have hl : (putK kvs k v).length≤sizeLine := by have := zep kvs k v; omega
    refine wpAny_setItem_heap (hsz := hz) (tupleKind_room_in1 hu) (zic I.hok eb) dd fun h' dd' hs => h _ ?_
    obtain ⟨q,es,ep,hq,h2,h3,h4,_,h5⟩ := dd'
    refine zmo I (by rw [e]; exact True.intro) hs ⟨q,hq⟩ ⟨hl,hd,_,(rel.put k eb rv).keeps fun c ys ec => ?_,q,es,ep,hq,h2,h3,h4,h5⟩
    rw [zay (zsR ec e (fun z => nomatch z))]
    exact ec
end
section
variable {X : Cx} {pins : List (Addr × Obj)} {σ : St} {H : Hp} {s : Shared} {a : Addr} {kvs : List (Key × V)} {k : Key} {u : Value} {A : Around} {E : Value → Shared → Prop}
theorem zs7 {Q : Value→Shared→Prop} (I : Inv X pins σ H s) (e : Rd H a (.dK kvs)) (h : ∀ t s',Inv X pins σ H s'→Q (.int kvs.length t) s') : wpAny (model X.prog X.w) A (call (.builtin "len") [.ref a]) Q E s := by
  obtain ⟨z,hd,vs,rel,dd⟩ := zkH I.hok e
  refine call_len_dict hd dd (by rw [← rel.length]; rw [sizeLine_eq] at z; omega) ?_
  rw [← rel.length]
  exact h _ _ (I.tok _)
end
theorem zi6 {X : Cx} {pins : List (Addr × Obj)} {σ : St} {H : Hp} {s : Shared} {a : Addr} {y : V} {o : Option V} (I : Inv X pins σ H s) (g : DGet H a y o) : s.TypeIs (.ref a) "dict" := by
  rcases g with ⟨kvs,k,e,_,_⟩ | ⟨kvs,k,b,e,_,_,_⟩
  · obtain ⟨_,_,vs,_,dd⟩ := zkH I.hok e
    exact dd.typeIs
  · obtain ⟨_,_,xs,_,dd⟩ := zml I.hok e
    exact dd.typeIs
section
variable {X : Cx} {o i e value : Expr} {pos pos' tpos : Pos} {td ty tv : TE}
end
theorem znK {P : Program} {w : World} {H : Hp} (h : Heap) (hb : sysModules < h.objs.size) : zaU P w H (h.push { cls := .type "dict",data := .dict #[] }) h.objs.size (.dK []) :=
  ⟨Nat.zero_le _,beq_eq_false_iff_ne.mpr (Ne.symm (Nat.ne_of_lt hb)),[],.nil,Heap.DictOf.new h⟩
noncomputable def zqf : TE := fun _ H Q => ∀ p,H p = none→Q (.ref p) (upd H p (.dK []))
section
variable {X : Cx} {pos : Pos}
theorem znl : PE X (.Dict [] [] pos) zqf := fun pins s σ H Q I h =>
  wpAny_Dict_empty ⟨.ref s.heap.objs.size,_,I.laid (a := s.heap.objs.size) (o := .dK []) (t' := s.toks) (fun _ _ q => Heap.get?_push_of_some _ q) (Nat.le_refl _) (znK s.heap I.big),rfl,h _ (I.hok.fresh (Nat.le_refl _))⟩
end
noncomputable def zfo (kvs more : List (Key × V)) : List (Key × V) := more.foldl (fun acc kv => putK acc kv.1 kv.2) kvs
theorem KV.merge : ∀ {more : List (Key × V)} {rs : List (Key × Value)} {kvs : List (Key × V)} {vs : List (Key × Value)},KV more rs→KV kvs vs→KV (zfo kvs more) (merged vs rs) := by
  intro more rs kvs vs r
  unfold KV at r
  induction r generalizing kvs vs with
  | nil => intro q; exact q
  | @cons p q ps qs h t ih =>
    intro r0
    have e : KV (putK kvs p.1 p.2) (stored vs q.1 q.2) := by
      have := r0.put p.1 h.2
      rw [← h.1]; exact this
    exact ih e
theorem zeM : ∀ (more kvs : List (Key × V)),(zfo kvs more).length≤kvs.length + more.length
  | [],kvs => by show kvs.length≤kvs.length + 0; omega
  | p::r,kvs => by
    have h1 := zeM r (putK kvs p.1 p.2)
    have h2 := zep kvs p.1 p.2
    show (zfo (putK kvs p.1 p.2) r).length≤_
    rw [List.length_cons]; omega
structure M1 (X : Cx) (o : Expr) (m : Str) (apos : Pos) (e : Expr) (cpos : Pos) : Prop where
  base : attributeBase o m X.env (eval o X.env) = eval o X.env
  few : ((backTo cpos (starEach [e] X.env)).all (fun x => ! x.1) && (backToKw cpos (keywordEach [] X.env)).all (fun x => x.1.isSome)
    && decide (([e] : List Expr).length + ([] : List Keyword).length + (if ([] : List Keyword).isEmpty then 0 else 1) < 30)) = true
  line : (apos.endLine == cpos.line) = true
  trees : backTo cpos (starEach [e] X.env) = [(false,eval e X.env)]
structure M2 (X : Cx) (o : Expr) (m : Str) (apos : Pos) (e f : Expr) (cpos : Pos) : Prop where
  base : attributeBase o m X.env (eval o X.env) = eval o X.env
  few : ((backTo cpos (starEach [e,f] X.env)).all (fun x => ! x.1) && (backToKw cpos (keywordEach [] X.env)).all (fun x => x.1.isSome)
    && decide (([e,f] : List Expr).length + ([] : List Keyword).length + (if ([] : List Keyword).isEmpty then 0 else 1) < 30)) = true
  line : (apos.endLine == cpos.line) = true
  trees : backTo cpos (starEach [e,f] X.env) = [(false,eval e X.env),(false,eval f X.env)]
section
variable {X : Cx} {pins : List (Addr × Obj)} {σ : St} {H : Hp} {s : Shared} {a : Addr} {y d : V} {u r : Value} {o : Option V} {A : Around} {E : Value → Shared → Prop}
end
section
variable {X : Cx} {o e f : Expr} {apos cpos : Pos} {td ty tx : TE}
end
section
variable {X : Cx} {pins : List (Addr × Obj)} {σ : St} {H : Hp} {s : Shared} {a : Addr} {kvs : List (Key × V)} {A : Around} {E : Value → Shared → Prop}
end
section
variable {X : Cx} {pins : List (Addr × Obj)} {σ : St} {H : Hp} {s : Shared} {a : Addr} {y : V} {u : Value} {A : Around} {E : Value → Shared → Prop}
end
end L2
namespace Att
open PySem PySem.W PySem.Calls PyProof.Rows
theorem zgd {P : Params} {h : Heap} : ∀ (ns : List Int) (vs : List Value),WellAll P h vs (ns.map WData.int)→IntsAre vs ns := by
  intro ns
  induction ns with
  | nil =>
    intro vs w
    rw [List.map_nil] at w
    cases w
    exact .nil
  | cons n ns ih =>
    intro vs w
    rw [List.map_cons] at w
    cases w with
    | cons a b =>
      cases a
      exact .cons _ _ (ih _ b)
theorem zkZ {l : OpenLaw} {n : Nat} (hn : l.most = some n) {P : Params} {h : Heap} {args : List WData} {vals : List Value}
    (hpre : l.row.toRowW.claim.pre args = true) (hwl : WellAll P h vals args) :
    ∃ a vs ns,vals = [Value.ref a]∧args = [WData.list (ns.map WData.int)]∧h.get? a = some { cls := .type "list",data := .seq vs.toArray }∧IntsAre vs ns∧ns.length≤n := by
  have hsh : WShape.hasAll [] args [.list .int] = true := (pre_splitW hpre).1
  have hc : l.pre.holds [] { args := args } = true := (pre_splitW hpre).2
  obtain ⟨d,r,rfl,h1,h2⟩ := hasAllW_cons hsh
  obtain rfl := hasAllW_nil h2
  obtain ⟨xs,rfl,h3⟩ := hasW_list h1
  obtain ⟨ns,rfl⟩ := items_int h3
  have hlen : ns.length≤n := by
    unfold OpenLaw.pre at hc
    have h4 : (WTm.not (.lt (.lit (.int (n : Int))) (.len (.arg 0)))).holds [] { args := [.list (ns.map .int)] } = true := by
      have h4 := (holds_andW hc).1
      rw [hn] at h4
      exact h4
    have h5 := condW_of h4 (w_not (w_lt w_lit (w_len_list (w_arg rfl))))
    rw [List.length_map] at h5
    refine Nat.le_of_not_lt fun q => ?_
    have q' : (n : Int) < ((ns.length : Nat) : Int) := by omega
    first
      | (rw [decide_eq_true q'] at h5; exact absurd h5 (by decide))
      | (simp at h5; omega)
  cases hwl with
  | cons w1 w2 =>
    cases w2
    cases w1 with
    | list ho hall => exact ⟨_,_,ns,rfl,rfl,ho,zgd ns _ hall,hlen⟩
theorem zln (l : OpenLaw) (args : List WData) : l.row.toRowW.claim.post args (.bool true) args = true :=
  postW_of (r := l.row.toRowW) (X := (true == true))
    (show WShape.has [] (.bool true) .bool = true by first | rfl | decide | simp [WShape.has,WShape.arms,WShape.armsAll])
    (show (WTm.eq .res (.lit (.bool true))).value [] { args := args,res := some (.bool true),after := args } = some (.bool (true == true)) from w_eq_bool (w_res rfl) w_lit) rfl
theorem attach_call {l : OpenLaw} {n : Nat} {q : Program} {loose : List Str} {XP : (Str→Option Value)→Heap→Prop} {YP : World→Heap→Prop} {d : DefRec}
    (hn : l.most = some n) (hdf : d.params.defaults = [])
    (call : ∀ (w : World) (s₀ s₁ : Shared) (mg mb : Str→Option Value) (fa : Addr) (o : Obj) (pm cd doc : Value) (a : Addr) (vs : List Value) (ns : List Int),
      Ground q loose [] XP w s₀ mg mb s₁.heap→YP w s₁.heap →
      s₁.heap.get? fa = some o→o.data = .func (docDef d.name d.params d.body d.scope pm cd doc)→s₁.heap.CodeRec cd d.name→mg d.name = some (.ref fa) →
      s₁.heap.get? a = some { cls := .type "list",data := .seq vs.toArray }→IntsAre vs ns→ns.length≤n→s₁.gens = #[] →
      codeAny (model l.prog w) callerA (.call (.ref fa) ⟨[.ref a],[]⟩) (fun r s' => r = .ok (.ret (.bool true))∧OldK s₁.heap s'.heap∧s'.os = s₁.os∧AllBare s'.gens) s₁) :
    WalkO q loose XP YP l.row.toRowW d [] (fun f vs => PySem.call f vs) := by
  intro w s₀ s₁ mg mb G Y fa o pm cd doc dV kV ho hd hcd hD hmg hg args vals as hpre hlay hrd hwl hlo
  obtain rfl : dV = .none := Dflts.none hD hdf
  obtain rfl : kV = .none := Dflts.noKw hD
  obtain ⟨a,vs,ns,rfl,rfl,hobj,hints,hlen⟩ := zkZ hn hpre hwl
  refine enter_call (codeAny_mono (call w s₀ s₁ mg mb fa o pm cd doc a vs ns G Y ho (fd_plain hd) hcd hmg hobj hints hlen hg) fun r s' hq => ?_)
  obtain ⟨rfl,h2,h3,h4⟩ := hq
  exact ⟨.inl ⟨.bool true,.bool true,[],rfl,fun _ => rfl,.bool true,zln l _,fun _ => ⟨List.Pairwise.nil,fun _ hm => (nomatch hm)⟩⟩,h2,h3,h4⟩
section
variable {prog : Program} {w : World} {A : Around} {E : Value → Shared → Prop} {s : Shared} {K : Frag}
end
end Att
namespace L2
open PySem PySem.Spec PyProof.Rows
theorem zhy : ∀ {vs : List Value} {ns : List Int},IntsAre vs ns→Vals (ns.map V.int) vs
  | _,_,.nil => .nil
  | _,_,.cons n t h => .cons ⟨t,rfl⟩ (zhy h)
noncomputable def Only (H : Hp) : Prop := ∀ b,H b = none∨∃ o xs,H b = some (.frz o (.lst xs))
theorem znB {P : Program} {w : World} {K : PySem.W.Frag} {mg mb : Str→Option Value} {CX : CXT} {k : Nat} {fa a : Addr} {fd : FuncData} {x : Str} {sp : Sp} {s₁ : Shared} {vs : List Value} {ns : List Int}
    (KX : K.In s₁.heap) (hns : s₁.heap.Ns mainGlobals mg) (hb : s₁.heap.Ns builtinsNs mb) (hbb : ∀ x : Str,x≠"__name__"→mb x = bootBuiltins x) (hlim : s₁.heap.NoLimit) (hg : s₁.gens = #[])
    (ha : s₁.heap.get? a = some { cls := .type "list",data := .seq vs.toArray }) (hi : IntsAre vs ns) (hl : ns.length≤sizeLine) (hr : Room k callerA)
    (F : ∀ base : Heap,K.In base→base.Ns mainGlobals mg→FnOk P w K mg base CX k fa fd [x] sp) (hbind : ∀ (s : Shared) (u : Value),BindsTo s fd ⟨[u],[]⟩ [(x,u)])
    (hsp : ∀ H : Hp,Only H→SqL K H a (ns.map V.int)→sp [.ref a] H (fun v _ => v = .bl true) fun _ _ _ => False)
    (hCX : ∀ H e s',CX [] H s₁ (fun _ _ _ => False) e s'→False) :
    codeAny (model P w) callerA (.call (.ref fa) ⟨[.ref a],[]⟩) (fun r s' => r = .ok (.ret (.bool true))∧OldK s₁.heap s'.heap∧s'.os = s₁.os∧AllBare s'.gens) s₁ := by
  have rv := zhy hi
  have lenV := hi.length
  have core : ∀ H : Hp,Only H→SqL K H a (ns.map V.int)→HOk P w H s₁.heap→(∀ b,H b≠none→b = a)→(H a≠none→K.lookup a = none) →
      codeAny (model P w) callerA (.call (.ref fa) ⟨[.ref a],[]⟩) (fun r s' => r = .ok (.ret (.bool true))∧OldK s₁.heap s'.heap∧s'.os = s₁.os∧AllBare s'.gens) s₁ := by
    intro H hO hS hok hA hK
    have base_of : ∀ {b : Addr} {o : Obj},s₁.heap.get? b = some o→H b = none→(hidT s₁.heap H).get? b = some o := fun e n => znE e n
    have noA : ∀ {b : Addr} {o : Obj} {es : Array DictEntry} {ep : Nat},s₁.heap.get? b = some o→o.data = .dict es ep→H b = none := fun {b o es ep} e d => by
      cases q : H b with
      | none => rfl
      | some u =>
        have e' : b = a := hA b (by rw [q]; simp)
        subst e'
        rw [ha] at e; cases e
        have d' : Data.seq vs.toArray _ = Data.dict es ep := d
        cases d'
    have nsK : ∀ {b : Addr} {m : Str→Option Value},s₁.heap.Ns b m→(hidT s₁.heap H).Ns b m := fun {b m} ⟨o,es,ep,e,d,r⟩ => ⟨o,es,ep,base_of e (noA e d),d,r⟩
    have hKb : K.In (hidT s₁.heap H) := fun b o e => base_of (KX b o e) (by
      cases q : H b with
      | none => rfl
      | some u =>
        have e' : b = a := hA b (by rw [q]; simp)
        subst e'
        rw [hK (by rw [q]; simp)] at e; cases e)
    have hM : Mod K mg (hidT s₁.heap H) := ⟨hKb,nsK hns,⟨mb,nsK hb,hbb⟩,let ⟨mc,h1,h2⟩ := hlim; ⟨mc,nsK h1,h2⟩⟩
    have e0 : Env0 P w K mg (hidT s₁.heap H) callerA [] s₁ H := ⟨rfl,hM,fun b o e => zpu e,Nat.le_of_eq (zl6 _ _),trivial,fun b hb => absurd (show b∈([] : List Addr) from hb) (by simp),hok,.of_eq hg⟩
    refine codeAny_mono ((F _ hKb (nsK hns)).run callerA [] s₁ H ⟨[.ref a],[]⟩ [.ref a] [.ref a] _ _ hr e0 (hbind s₁ (.ref a)) (.cons rfl .nil) (hsp H hO hS)) fun r s' h => ?_
    cases r with
    | error e => exact (hCX H e s' h).elim
    | ok fl =>
      cases fl with
      | next => exact False.elim h
      | brk => exact False.elim h
      | cont => exact False.elim h
      | ret u =>
        obtain ⟨v,H',os,bare,un,hok',r',q⟩ := h
        have q' : v = .bl true := q
        subst q'
        obtain rfl : u = Value.bool true := r'
        refine ⟨rfl,OldK.of_keep fun b o e => ?_,os,bare⟩
        cases q : H b with
        | none => exact un.keep b o e q (by intro z; exact absurd (show b∈([] : List Addr) from z) (by simp)) (by simp)
        | some u =>
          rcases hO b with z | ⟨ob,xs,z⟩
          · rw [q] at z; cases z
          · have z2 := un.frzs b ob _ z
            obtain ⟨e1,_⟩ := hok b _ z
            obtain ⟨e2,_⟩ := hok' b _ z2
            rw [e] at e1; cases e1
            exact e2
  cases hk : K.lookup a with
  | some o =>
    have e := KX a o hk
    rw [ha] at e
    cases e
    refine core (fun _ => none) (fun _ => .inl rfl) (.inr ⟨_,vs.toArray,_,hk,rfl,rfl,rfl,by rw [List.size_toArray,lenV]; exact hl,by simpa using rv⟩) (fun b u z => by have z' : (none : Option HO) = some u := z; cases z') (fun b z => absurd rfl z) fun z => absurd rfl z
  | none =>
    refine core (fun b => if b = a then some (.frz { cls := .type "list",data := .seq vs.toArray } (.lst (ns.map V.int))) else none) (fun b => ?_) (.inl (.inr ⟨{ cls := .type "list",data := .seq vs.toArray },if_pos rfl⟩)) (fun b u z => ?_) (fun b z => ?_) fun _ => hk
    · by_cases hb : b = a
      · exact .inr ⟨_,_,if_pos hb⟩
      · exact .inl (if_neg hb)
    · by_cases hb : b = a
      · have z' := (if_pos hb).symm.trans z
        cases z'
        subst hb
        exact ⟨ha,by rw [List.length_map]; exact hl,vs,_,rv,ha⟩
      · have z' := (if_neg hb).symm.trans z
        cases z'
    · by_cases hb : b = a
      · exact hb
      · exact absurd (if_neg hb) z
end L2
namespace L2
open PySem PySem.Spec PyProof.Rows
noncomputable abbrev KOf {K : PySem.W.Frag} {h : Heap} (_ : K.In h) : PySem.W.Frag := K
theorem walk_of {l : PySem.W.OpenLaw} {n k : Nat} {q : Program} {loose : List Str} {XP : (Str→Option Value)→Heap→Prop} {YP : World→Heap→Prop} {d : DefRec} {K : Params→PySem.W.Frag} {CX : World→CXT} {sp : World→Sp} {x : Str}
    (hn : l.most = some n) (hn2 : n≤sizeLine) (hdf : d.params.defaults = []) (hr : Room k callerA)
    (hY : ∀ (w : World) (h : Heap),YP w h→(K w.params).In h)
    (F : ∀ (w : World) (mg : Str→Option Value) (fa : Addr) (h : Heap),(K w.params).In h→h.Ns mainGlobals mg→mg d.name = some (.ref fa) →
      ∃ fd : FuncData,(∀ (s : Shared) (u : Value),BindsTo s fd ⟨[u],[]⟩ [(x,u)]) ∧
        ∀ base : Heap,(K w.params).In base→base.Ns mainGlobals mg→FnOk l.prog w (K w.params) mg base (CX w) k fa fd [x] (sp w))
    (hsp : ∀ (w : World) (H : Hp) (a : Addr) (ns : List Int),ns.length≤n→Only H→SqL (K w.params) H a (ns.map V.int)→sp w [.ref a] H (fun v _ => v = .bl true) fun _ _ _ => False)
    (hCX : ∀ (w : World) (H : Hp) (s : Shared) (e : Value) (s' : Shared),CX w [] H s (fun _ _ _ => False) e s'→False) :
    PySem.W.WalkO q loose XP YP l.row.toRowW d [] (fun f vs => PySem.call f vs) := by
  refine Att.attach_call hn hdf fun w s₀ s₁ mg mb fa o pm cd doc a vs ns G Y ho hd hcd hmg hobj hints hlen hg => ?_
  have KX := hY w _ Y
  obtain ⟨fd,hb,hF⟩ := F w mg fa _ KX G.T.g hmg
  exact znB KX G.T.g G.T.b G.T.builtins G.T.nolimit hg hobj hints (Nat.le_trans hlen hn2) hr hF hb (fun H hO hS => hsp w H a ns hlen hO hS) fun H e s' => hCX w H s₁ e s'
end L2
namespace L2
open PySem PySem.Spec PyProof.Rows
noncomputable def zcs (s : Stmt) : Arguments := match s with
  | .FunctionDef _ a _ _ _ _ _ _ _ _ => a
  | _ => { posonlyargs := [],args := [],vararg := none,kwonlyargs := [],kw_defaults := [],kwarg := none,defaults := [] }
noncomputable def zbw (s : Stmt) : List Stmt := match s with
  | .FunctionDef _ _ b _ _ _ _ _ _ _ => b
  | _ => []
noncomputable def zab (s : Stmt) : Scope := match s with
  | .FunctionDef _ _ _ _ _ _ sc _ _ _ => sc
  | _ => { kind := .function,names := [],isGenerator := false,isCoroutine := false }
noncomputable abbrev CX0 : CXT := fun _ _ _ _ _ _ => False
noncomputable abbrev E0 : XK := fun _ _ _ => False
theorem zsI {X : Cx} : zmK CX0 X E0 := fun _ _ _ _ _ _ _ h => h.elim
structure Fun (K : PySem.W.Frag) (x qual : Str) (st : Stmt) (f : Addr) (fd : FuncData) : Prop where
  ex : ∃ (oc : Value) (od : Option Addr) (kV doc pm : Value) (an : Option Addr) (cdv ct : Value) (osl : Array (Option Value)),
    fd = PySem.W.fnOf x qual (zcs st) (zbw st) (zab st) .none kV doc pm an cdv ct∧K.lookup f = some ⟨oc,od,.func fd,osl⟩∧PySem.W.codeIn K cdv qual = true
  kp : PySem.W.keepIn K (.ref f) = true
section
variable {P : Program} {w : World} {K : PySem.W.Frag} {mg : Str → Option Value} {base : Heap}
theorem Fun.ok {x qual : Str} {st : Stmt} {f : Addr} {fd : FuncData} {N ps : List Str} {k : Nat} {sp : Sp} (F : Fun K x qual st f fd) (S : FnScope N ps (zab st)) (len : ∀ vs H Q E,sp vs H Q E→vs.length = ps.length)
    (hbody : ∀ (cdv : Value) (A : Around) (outer : List Env) (s : Shared) (H : Hp) (vs : List V) (Q : VK) (E : XK),Room k (A.deeper (envOfC qual (zab st) s.heap.objs.size f cdv))→sp vs H Q E →
      ∃ t,PSs (cxOf CX0 P w K mg base N qual (zab st) f cdv A outer s H E).nox (zbw st) t∧t { nx := fun _ H' => Q .non H',rt := Q } (start N vs) H) : FnOk P w K mg base CX0 (k + 1) f fd ps sp := by
  obtain ⟨oc,od,kV,doc,pm,an,cdv,ct,osl,rfl,lk,hcd⟩ := F.ex
  refine zrR lk hcd S len fun A outer s H vs Q E hr hsp => ?_
  obtain ⟨t,h,q⟩ := hbody cdv A outer s H vs Q E hr hsp
  exact ⟨t,h.nox,q⟩
theorem Fun.binds {x qual : Str} {st : Stmt} {f : Addr} {fd : FuncData} {ps : List Str} (F : Fun K x qual st f fd)
    (h : ∀ (kV doc pm : Value) (an : Option Addr) (cdv ct : Value) (us : List Value),us.length = ps.length→bindArgs (PySem.W.fnOf x qual (zcs st) (zbw st) (zab st) .none kV doc pm an cdv ct) ⟨us,[]⟩ = pure (ps.zip us)) : zjg K fd ps [] := by
  obtain ⟨oc,od,kV,doc,pm,an,cdv,ct,osl,rfl,lk,hcd⟩ := F.ex
  exact .all (h kV doc pm an cdv ct)
theorem zrP {x qual : Str} {st : Stmt} {f : Addr} {oc : Value} {od an : Option Addr} {osl : Array (Option Value)} {kV doc pm cdv ct : Value} (l : K.lookup f = some ⟨oc,od,.func (PySem.W.fnOf x qual (zcs st) (zbw st) (zab st) .none kV doc pm an cdv ct),osl⟩)
    (c : PySem.W.codeIn K cdv qual = true) (k : PySem.W.keepIn K (.ref f) = true) : Fun K x qual st f (PySem.W.fnOf x qual (zcs st) (zbw st) (zab st) .none kV doc pm an cdv ct) := ⟨⟨oc,od,kV,doc,pm,an,cdv,ct,osl,rfl,l,c⟩,k⟩
end
theorem za2 {A : Around} {k : Nat} (hr : Room k A) : A.units + 1 < cLine := Nat.lt_of_le_of_lt (Nat.add_le_add_left (by decide : 1≤64) _) hr.units
section
variable {X : Cx}
theorem zmA : zdC X (.builtin "len") (fun xs H Q => ∃ a kvs,xs = [V.ref a]∧Rd H a (.dK kvs)∧Q (.int kvs.length) H) := by
  intro pins s σ H xs us Q I r h
  obtain ⟨a,kvs,rfl,ha,q⟩ := h
  obtain ⟨u,rfl,ru⟩ := zeW r
  cases ru
  exact zs7 I ha fun t s' I' => ⟨.int kvs.length,H,I',⟨t,rfl⟩,q⟩
end
noncomputable def Same (H H' : Hp) : Prop := ∀ b o,H b = some o→H' b = some o
theorem Same.free {H H' : Hp} (e : Same H H') {l : Addr} (h : H' l = Option.none) : H l = Option.none := by
  cases q : H l with
  | none => rfl
  | some o =>
    rw [e l o q] at h
    cases h
theorem Same.seq {K : PySem.W.Frag} {H H' : Hp} {a : Addr} {xs : List V} (e : Same H H') (h : SqL K H a xs) : SqL K H' a xs := by
  rcases h with (h | ⟨o,h⟩) | h
  · exact .inl (.inl (e _ _ h))
  · exact .inl (.inr ⟨o,e _ _ h⟩)
  · exact .inr h
section
variable {κ : Type} [DecidableEq κ]
end
end L2
end
section
namespace DL
open PySem
open PySem.SeqAt
open PySem.AutoSeq1 (wpAny_loadPart')
open PySem.MeetsSeq PySem.MeetsSeq2 PySem.MeetsSeq3
end DL
end
section
namespace DL
open PySem PyProof.Rows
section
variable {prog : Program} {w : World} {A : Around} {E : Value → Shared → Prop} {s : Shared}
end
end DL
end
section
namespace DL
open PySem PyProof.Rows PySem.W
noncomputable def zid {α : Type} (c : Nat→Nat→Bool) : KasT α→α
  | .ret a => a
  | .ask i j k => zid c (k (c i j))
inductive Asks (n : Nat) {α : Type} (P : α→Prop) : KasT α→Prop where
  | ret {a : α} : P a→Asks n P (.ret a)
  | ask {i j : Nat} {k : Bool→KasT α} : i < n→j < n→(∀ b,Asks n P (k b))→Asks n P (.ask i j k)
theorem Asks.bind {n : Nat} {α β : Type} {P : α→Prop} {P' : β→Prop} {t : KasT α} {f : α→KasT β} (h : Asks n P t) (hf : ∀ a,P a→Asks n P' (f a)) : Asks n P' (t.bind f) := by
  induction h with
  | ret h => exact hf _ h
  | ask h1 h2 _ ih => exact .ask h1 h2 ih
theorem Asks.run {n : Nat} {α : Type} {P : α→Prop} {t : KasT α} (h : Asks n P t) (c : Nat→Nat→Bool) : P (zid c t) := by
  induction h with
  | ret h => exact h
  | ask _ _ _ ih => exact ih _
theorem zlV {n : Nat} {α : Type} {P : α→Prop} {cmp : Nat→Nat→(Bool→Shared→Prop)→Shared→Prop} {c : Nat→Nat→Bool} {s : Shared} (hc : ∀ i j C,i < n→j < n→C (c i j) s→cmp i j C s) {Q : α→Shared→Prop} {t : KasT α} (h : Asks n P t) : Q (zid c t) s→t.kasWp cmp Q s := by
  induction h with
  | ret _ => exact fun q => q
  | ask h1 h2 _ ih => exact fun q => hc _ _ _ h1 h2 (ih _ q)
noncomputable def zcy (n : Nat) (p : Array Nat) : Prop := p.toList.Perm (List.range n)
theorem zcy.bd {n : Nat} {p : Array Nat} (h : zcy n p) (hn : 0 < n) (k : Nat) : p.getD k 0 < n := by
  by_cases hk : k < p.size
  · have e : p.getD k 0 = p[k] := by simp [Array.getD,hk]
    rw [e]
    exact List.mem_range.mp (h.mem_iff.mp (by simp))
  · have e : p.getD k 0 = 0 := by simp [Array.getD,hk]
    rw [e]; exact hn
theorem zcy.rev {n : Nat} {p : Array Nat} (h : zcy n p) (i j : Nat) : zcy n (kas_rev p i j) := (Array.perm_iff_toList_perm.mp (mirror_perm p i j ((j - i) / 2))).trans h
theorem zcy.bub {n : Nat} {p : Array Nat} (h : zcy n p) (i j : Nat) : zcy n (bubble p i j) := (Array.perm_iff_toList_perm.mp (bubble_perm p i j)).trans h
section
variable {n : Nat} (hn : 0 < n)
include hn
theorem zhv {p : Array Nat} (h : zcy n p) : ∀ f k,Asks n (fun _ => True) (kas_asc p f k)
  | 0,k => .ret trivial
  | f + 1,k => .ask (h.bd hn _) (h.bd hn _) fun b => by
    cases b with
    | true => rw [if_pos rfl]; exact .ret trivial
    | false => rw [if_neg Bool.false_ne_true]; exact zhv h f (k + 1)
theorem zeP : ∀ f (p : Array Nat) k q,zcy n p→Asks n (fun r => zcy n r.1) (kas_desc f p k q)
  | 0,p,k,q,h => .ret h
  | f + 1,p,k,q,h => .ask (h.bd hn _) (h.bd hn _) fun b => by
    cases b with
    | true =>
      rw [if_pos rfl]
      split
      · exact zeP f _ _ _ (h.rev _ _)
      · exact zeP f _ _ _ h
    | false =>
      rw [if_neg Bool.false_ne_true]
      refine .ask (h.bd hn _) (h.bd hn _) fun b => ?_
      cases b with
      | true => rw [if_pos rfl]; exact .ret h
      | false => rw [if_neg Bool.false_ne_true]; exact zeP f _ _ _ h
theorem ziu {p : Array Nat} (h : zcy n p) (a b : Nat) : Asks n (fun r => zcy n r.2) (kas_tail3 a b p) :=
  Asks.bind (zhv hn (h.rev 0 a) _ _) fun m _ => .ret (h.rev 0 a)
theorem zgT {p : Array Nat} (h : zcy n p) (a b : Nat) : Asks n (fun r => zcy n r.2) (kas_descPart a b p) := by
  refine Asks.bind (zeP hn _ p _ _ h) fun r hr => ?_
  split
  · exact ziu hn (hr.rev _ _) _ _
  · exact ziu hn hr _ _
theorem zkK {p : Array Nat} (h : zcy n p) (a : Nat) : Asks n (fun r => zcy n r.2) (kas_count a p) := by
  refine Asks.bind (zhv hn h _ _) fun k _ => ?_
  split
  · exact .ret h
  · split
    · refine .ask (h.bd hn _) (h.bd hn _) fun b => ?_
      cases b with
      | true => rw [if_pos rfl]; exact .ret h
      | false => rw [if_neg Bool.false_ne_true]; exact zgT hn (h.rev _ _) _ _
    · exact zgT hn h _ _
theorem ze5 {p : Array Nat} (h : zcy n p) (k : Nat) : ∀ f l r,Asks n (fun _ => True) (kas_place p k f l r)
  | 0,l,r => .ret trivial
  | f + 1,l,r => by
    unfold kas_place
    split
    · exact .ret trivial
    · refine .ask (h.bd hn _) (h.bd hn _) fun b => ?_
      cases b with
      | true => rw [if_pos rfl]; exact ze5 h k f _ _
      | false => rw [if_neg Bool.false_ne_true]; exact ze5 h k f _ _
theorem zj4 : ∀ f (p : Array Nat) k,zcy n p→Asks n (zcy n) (kas_bin f p k)
  | 0,p,k,h => .ret h
  | f + 1,p,k,h => Asks.bind (ze5 hn h k _ _ _) fun l _ => zj4 f _ _ (h.bub _ _)
theorem ziv : Asks n (zcy n) (kas_sort n) := by
  refine Asks.bind (zkK hn (p := List.toArray (List.range n)) (by unfold zcy; simp) n) fun r hr => ?_
  split
  · exact zj4 hn _ _ _ hr
  · exact .ret hr
end
noncomputable def zgw (n : Nat) (c : Nat→Nat→Bool) : List Nat := if n < 2 then List.range n else (zid c (kas_sort n)).toList
theorem zeX (n : Nat) (c : Nat→Nat→Bool) : (zgw n c).Perm (List.range n) := by
  unfold zgw
  split
  · exact .refl _
  · exact (ziv (n := n) (by omega)).run c
noncomputable def lexI : List Int→List Int→Bool
  | [],[] => false
  | [],_::_ => true
  | _::_,[] => false
  | x::xs,y::ys => if x = y then lexI xs ys else decide (x < y)
noncomputable def lexZ (fin : Bool) : List (List Int)→List (List Int)→Bool
  | k::ks,l::ls => if k = l then lexZ fin ks ls else lexI k l
  | _,_ => fin
noncomputable def lexR (ks ls : List (List Int)) : Bool := lexZ (decide (ks.length < ls.length)) ks ls
end DL
end
section
namespace DL
open PySem PyProof.Rows PySem.W PySem.Calls
section
variable {prog : Program} {w : World} {A : Around} {E : Value → Shared → Prop} {s : Shared}
theorem zkb {a : Addr} {vs : List Value} {n : Nat} {P : PySem.Fin→Shared→Prop} (ho : s.heap.get? a = some (seqObj "list" vs.toArray n)) (h2 : vs.length < 2)
    (h : ∀ h' c,(∀ b o,b≠a→s.heap.get? b = some o→h'.get? b = some o)→h'.get? a = some (seqObj "list" vs.toArray c)→P (.done (.ret .none)) { s with heap := h' }) :
    wpAny (model prog w) A (Builtin.«list.sort» ⟨[.ref a],[]⟩) P E s := by
  have fits : vs.length≤sizeLine := by rw [sizeLine_eq]; omega
  have up := fun (h : Heap) (f : Array Value→Array Value) => Heap.SameBut.update h a (Obj.mapSeq f)
  obtain ⟨e1,ho1⟩ : ∃ e1,(s.heap.update a (Obj.mapSeq fun _ => (#[] : Array Value))).get? a = some (seqObj "list" #[] e1) := ⟨_,get?_update_seq ho fun _ => #[]⟩
  rw [list_sort_plain]
  refine wpAny_bind (listItems_at ho rfl (wpAny_bind (listUpdate_at ho rfl ?_ (by rw [List.size_toArray]; exact fits) (Nat.zero_le _))))
  refine wpAny_bind (seqEpoch_at ho1 rfl (wpAny_bind (wpAny_newTuple (wpAny_bind (wpAny_newList (wpAny_holding ?_) (Nat.zero_le _))) (by show vs.length≤_; exact fits))))
  dsimp only
  have hlt : vs.toArray.size < 2 := by rw [List.size_toArray]; exact h2
  rw [if_pos hlt,if_pos hlt]
  refine wpAny_bind (wpAny_pure ?_)
  have hrun : (pure () : StateT SortSt Sem Unit).run (SortSt.mk' general' (vs.toArray.zip vs.toArray) #[] 7 none) = pure ((),SortSt.mk' general' (vs.toArray.zip vs.toArray) #[] 7 none) := rfl
  rw [hrun]
  refine wpAny_bind (wpAny_pure ?_)
  dsimp only
  have hout : (arrOf (SortSt.mk' general' (vs.toArray.zip vs.toArray) #[] 7 none)).map (·.2) = vs.toArray := by
    show ((vs.toArray.zip vs.toArray).map (·.2)) = vs.toArray
    apply Array.ext'
    simp [List.map_snd_zip]
  rw [hout]
  have keep3 : ∀ b o,(s.heap.update a (Obj.mapSeq fun _ => (#[] : Array Value))).get? b = some o→(((s.heap.update a (Obj.mapSeq fun _ => (#[] : Array Value))).push (seqObj "tuple" vs.toArray 0)).push (seqObj "list" #[] 0)).get? b = some o := fun b o e => Heap.get?_push_of_some _ (Heap.get?_push_of_some _ e)
  have ho3 := keep3 _ _ ho1
  refine wpAny_bind (seqEpoch_at ho3 rfl (wpAny_bind (listUpdate_at ho3 rfl ?_ (Nat.zero_le _) (by rw [List.size_toArray]; exact Nat.le_succ_of_le fits))))
  simp only [bne_self_eq_false,Bool.false_eq_true,if_false]
  refine wpAny_pure (h _ _ (fun b o hb e => ?_) (get?_update_seq ho3 fun _ => vs.toArray))
  exact ((up _ _).2 b hb).trans (keep3 b o (((up _ _).2 b hb).trans e))
theorem zhD {l : Addr} {vs : List Value} {Q : Value→Shared→Prop} (hl : s.heap.IsList l vs.toArray) (h2 : vs.length < 2)
    (h : ∀ h' c D,(∀ b o,s.heap.get? b = some o→h'.get? b = some o)→s.heap.objs.size≤D→h'.get? D = some (seqObj "list" vs.toArray c)→Q (.ref D) { s with heap := h' }) :
    wpAny (model prog w) A (call (.builtin "sorted") [.ref l]) Q E s := by
  refine Calls.call_function_entry kind_sorted plain_sorted entry_sorted (args_sorted1 _) ?_
  unfold Builtin.«sorted»
  refine wpAny_bind (m := checkCount "sorted" 1 1 _) (wpAny_pure (wpAny_bind (collect_list hl ?_ (by rw [sizeLine_eq]; omega))))
  refine wpAny_bind (wpAny_newList ?_ (by rw [sizeLine_eq]; omega))
  generalize hH : ((s.heap.push (seqObj "list" #[] 0)).update s.heap.objs.size (Obj.mapSeq (·++vs.toArray))) = H1
  have hsz : H1.objs.size = s.heap.objs.size + 1 := by rw [← hH,Heap.size_update,size_push']
  have keep : ∀ b o,s.heap.get? b = some o→(H1.push (seqObj "list" vs.toArray 0)).get? b = some o := fun b o q => by
    have hlt : b < s.heap.objs.size := Heap.lt_size q
    refine Heap.get?_push_of_some _ ?_
    rw [← hH,Heap.get?_update_ne _ _ _ _ (Nat.ne_of_lt hlt)]
    exact Heap.get?_push_of_some _ q
  have hoL : (H1.push (seqObj "list" vs.toArray 0)).get? H1.objs.size = some (seqObj "list" vs.toArray 0) := Heap.get?_push_size _ rfl
  refine wpAny_bind (wpAny_holding (wpAny_call_entry slot_list_sort ⟨_,hoL,rfl⟩ entry_list_sort ?_ (args_list_sort _)))
  refine zkb (s := { s with heap := H1.push (seqObj "list" vs.toArray 0) }) hoL h2 fun h' c kp hD => ?_
  refine ⟨_,rfl,wpAny_pure ⟨_,rfl,h h' c _ (fun b o e => kp b o ?_ (keep b o e)) (by rw [hsz]; exact Nat.le_succ _) hD⟩⟩
  rw [hsz]
  exact Nat.ne_of_lt (Nat.lt_succ_of_lt (Heap.lt_size e))
end
end DL
end
section
namespace DL
open PySem PySem.Spec PyProof.Rows L2
inductive D where
  | non | bl (b : Bool) | int (i : Int) | str (x : Str)
  | tup (ds : List D) | lst (ds : List D)
  | dic (kvs : List (Key × D))
  | obj (c : Nat) (fs : List (Str × D))
instance : Inhabited D := ⟨.non⟩
inductive Res (α : Type) where
  | ok (a : α) | exc (x : D) | stuck
noncomputable def Res.bind {α β : Type} (r : Res α) (f : α→Res β) : Res β := match r with
  | .ok a => f a
  | .exc x => .exc x
  | .stuck => .stuck
@[simp] theorem bind_ok {α β : Type} (a : α) (f : α→Res β) : (Res.ok a).bind f = f a := rfl
@[simp] theorem bind_exc {α β : Type} (x : D) (f : α→Res β) : (Res.exc x : Res α).bind f = .exc x := rfl
@[simp] theorem bind_stuck {α β : Type} (f : α→Res β) : (Res.stuck : Res α).bind f = .stuck := rfl
noncomputable def fin {α : Type} (r : Res α) (q : α→Prop) (x : D→Prop) : Prop := match r with
  | .ok a => q a
  | .exc e => x e
  | .stuck => False
theorem zah {α : Type} {r : Res α} {q q' : α→Prop} {x : D→Prop} (h : fin r q x) (hq : ∀ a,q a→q' a) : fin r q' x := by
  cases r with
  | ok a => exact hq a h
  | exc e => exact h
  | stuck => exact h
theorem zag {α β : Type} {r : Res α} {f : α→Res β} {q : β→Prop} {x : D→Prop} (h : fin (r.bind f) q x) : fin r (fun a => fin (f a) q x) x := by
  cases r with
  | ok a => exact h
  | exc e => exact h
  | stuck => exact h
noncomputable abbrev GH := Addr→Option D
inductive Scl : V→D→Prop where
  | non : Scl .non .non
  | bl (b : Bool) : Scl (.bl b) (.bl b)
  | int (i : Int) : Scl (.int i) (.int i)
  | str (x : Str) : Scl (.str x) (.str x)
inductive KC (K : PySem.W.Frag) (a : Addr) : D→Prop where
  | lst {xs : List V} {ds : List D} : SqL K (fun _ => none) a xs→Paired Scl xs ds→KC K a (.lst ds)
  | tup {xs : List V} {ds : List D} : SqT K (fun _ => none) a xs→Paired Scl xs ds→(∃ o,K.lookup a = some o∧o.cls = .type "tuple"∧o.dict = none)→KC K a (.tup ds)
inductive RG (K : PySem.W.Frag) (G : GH) : V→D→Prop where
  | scl {v : V} {d : D} : Scl v d→RG K G v d
  | ref {a : Addr} {d : D} : G a = some d→RG K G (.ref a) d
  | kc {a : Addr} {d : D} : KC K a d→RG K G (.ref a) d
noncomputable abbrev RGs (K : PySem.W.Frag) (G : GH) : List V→List D→Prop := Paired (RG K G)
noncomputable abbrev RKs (K : PySem.W.Frag) (G : GH) : List (Key × V)→List (Key × D)→Prop := Paired fun p q => p.1 = q.1∧RG K G p.2 q.2
inductive OB (K : PySem.W.Frag) (G : GH) (H : Hp) (a : Addr) : D→Prop where
  | lst {xs : List V} {ds : List D} : Rd H a (.lst xs)→RGs K G xs ds→OB K G H a (.lst ds)
  | tup {xs : List V} {ds : List D} : Rd H a (.tup xs)→RGs K G xs ds→OB K G H a (.tup ds)
  | dic {ob : Obj} {ps : List (Key × V)} {kvs : List (Key × D)} : H a = some (.frz ob (.dK ps))→RKs K G ps kvs→OB K G H a (.dic kvs)
noncomputable def GOk (K : PySem.W.Frag) (G : GH) (H : Hp) : Prop := ∀ a d,G a = some d→OB K G H a d
inductive OwnO (K : PySem.W.Frag) (G : GH) (H : Hp) (a : Addr) : D→Prop where
  | lst {xs : List V} {ds : List D} : H a = some (.lst xs)→RGs K G xs ds→OwnO K G H a (.lst ds)
  | dic {ps : List (Key × V)} {kvs : List (Key × D)} : H a = some (.dK ps)→RKs K G ps kvs→OwnO K G H a (.dic kvs)
structure Own (K : PySem.W.Frag) (G : GH) (H : Hp) (a : Addr) (d : D) : Prop where
  un : G a = none
  ob : OwnO K G H a d
structure Grow (K : PySem.W.Frag) (G : GH) (H : Hp) (G' : GH) (H' : Hp) : Prop where
  ok : GOk K G' H'
  he : ∀ a o,H a = some o→H' a = some o
  ge : ∀ a d,G a = some d→G' a = some d
  gf : ∀ a,H a≠none→G' a = G a
section
variable {K : PySem.W.Frag} {G G' G1 G2 : GH} {H H' H1 H2 : Hp} {a p : Addr} {d : D} {v : V}
theorem Rd.mono {u : HO} (h : Rd H a u) (he : ∀ a o,H a = some o→H' a = some o) : Rd H' a u := by
  rcases h with h | ⟨o,h⟩
  · exact .inl (he _ _ h)
  · exact .inr ⟨o,he _ _ h⟩
theorem Rd.isS {u : HO} (h : Rd H a u) : H a≠none := by
  rcases h with h | ⟨o,h⟩ <;> rw [h] <;> simp
theorem RG.mono (h : RG K G v d) (ge : ∀ a d,G a = some d→G' a = some d) : RG K G' v d := by
  cases h with
  | scl s => exact .scl s
  | ref e => exact .ref (ge _ _ e)
  | kc k => exact .kc k
theorem RGs.mono {xs : List V} {ds : List D} (h : RGs K G xs ds) (ge : ∀ a d,G a = some d→G' a = some d) : RGs K G' xs ds := Paired.mono (fun _ _ r => r.mono ge) h
theorem RKs.mono {xs : List (Key × V)} {ds : List (Key × D)} (h : RKs K G xs ds) (ge : ∀ a d,G a = some d→G' a = some d) : RKs K G' xs ds := Paired.mono (fun _ _ r => ⟨r.1,r.2.mono ge⟩) h
theorem OB.mono (h : OB K G H a d) (ge : ∀ a d,G a = some d→G' a = some d) (he : ∀ o,H a = some o→H' a = some o) : OB K G' H' a d := by
  have rd : ∀ {u : HO},Rd H a u→Rd H' a u := fun r => by
    rcases r with r | ⟨o,r⟩
    · exact .inl (he _ r)
    · exact .inr ⟨o,he _ r⟩
  cases h with
  | lst r s => exact .lst (rd r) (s.mono ge)
  | tup r s => exact .tup (rd r) (s.mono ge)
  | dic r s => exact .dic (he _ r) (RKs.mono s ge)
theorem OB.isS (h : OB K G H a d) : H a≠none := by
  cases h with
  | lst r s => exact Rd.isS r
  | tup r s => exact Rd.isS r
  | dic r s => rw [r]; simp
theorem GOk.isN (g : GOk K G H) (h : H p = none) : G p = none := by
  cases e : G p with
  | none => rfl
  | some d => exact absurd h (g p d e).isS
theorem OwnO.isS (h : OwnO K G H a d) : H a≠none := by
  cases h with
  | lst r s => rw [r]; simp
  | dic r s => rw [r]; simp
theorem OwnO.mono (h : OwnO K G H a d) (ge : ∀ a d,G a = some d→G' a = some d) (he : ∀ o,H a = some o→H' a = some o) : OwnO K G' H' a d := by
  cases h with
  | lst r s => exact .lst (he _ r) (s.mono ge)
  | dic r s => exact .dic (he _ r) (RKs.mono s ge)
theorem Own.mono (h : Own K G H a d) (w : Grow K G H G' H') : Own K G' H' a d :=
  ⟨by rw [w.gf a h.ob.isS]; exact h.un,h.ob.mono w.ge fun o e => w.he _ _ e⟩
noncomputable def fz (H : Hp) (a : Addr) (ob : Obj) : Hp := match H a with
  | some (.dK ps) => upd H a (.frz ob (.dK ps))
  | _ => H
theorem zma {b : Addr} {ob : Obj} (h : b≠a) : fz H a ob b = H b := by
  unfold fz
  cases e : H a with
  | none => rfl
  | some u => cases u <;> first | rfl | exact zay h
theorem zrN {xs : List V} {ob : Obj} (h : H a = some (.lst xs)) : fz H a ob = H := by
  unfold fz
  rw [h]
theorem zrO {ps : List (Key × V)} {ob : Obj} (h : H a = some (.dK ps)) : fz H a ob a = some (.frz ob (.dK ps)) := by
  unfold fz
  rw [h]; exact zam
theorem OwnO.fast (h : OwnO K G H a d) (ob : Obj) : OB K G (fz H a ob) a d := by
  cases h with
  | lst r s => rw [zrN r]; exact .lst (.inl r) s
  | dic r s => exact .dic (zrO r) s
theorem GOk.fast (g : GOk K G H) (hn : G a = none) (ob : Obj) : GOk K G (fz H a ob) := fun b d e => by
  have hb : b≠a := by rintro rfl; rw [hn] at e; cases e
  exact (g b d e).mono (fun _ _ z => z) fun o z => by rw [zma hb]; exact z
theorem Grow.refl (g : GOk K G H) : Grow K G H G H := ⟨g,fun _ _ e => e,fun _ _ e => e,fun _ _ => rfl⟩
theorem Grow.trans (x : Grow K G H G1 H1) (y : Grow K G1 H1 G2 H2) : Grow K G H G2 H2 :=
  ⟨y.ok,fun a o e => y.he _ _ (x.he _ _ e),fun a d e => y.ge _ _ (x.ge _ _ e),fun a h => by
    have h1 : H1 a≠Option.none := by
      cases e : H a with
      | none => exact absurd e h
      | some o => rw [x.he _ _ e]; simp
    rw [y.gf a h1,x.gf a h]⟩
noncomputable def gset (G : GH) (a : Addr) (d : D) : GH := fun b => if b = a then some d else G b
theorem zaR : gset G a d a = some d := if_pos rfl
theorem zeq {b : Addr} (h : b≠a) : gset G a d b = G b := if_neg h
theorem zcU (hn : G a = none) : ∀ b e,G b = some e→gset G a d b = some e := fun b e h => by
  have : b≠a := by rintro rfl; rw [hn] at h; cases h
  rw [zeq this]; exact h
theorem GOk.gset (g : GOk K G H) (hn : G a = none) (o : OB K G H a d) : GOk K (gset G a d) H := fun b e h => by
  by_cases hb : b = a
  · subst hb; rw [zaR] at h; cases h
    exact o.mono (zcU hn) fun _ q => q
  · rw [zeq hb] at h
    exact (g b e h).mono (zcU hn) fun _ q => q
theorem zkT (hn : H p = none) {o : HO} : ∀ a u,H a = some u→upd H p o a = some u := fun a u e => by
  rw [zay (zbB e hn)]; exact e
theorem Grow.new (g : GOk K G H) (hn : H p = none) (o : HO) : Grow K G H G (upd H p o) :=
  ⟨fun a d e => (g a d e).mono (fun _ _ q => q) fun u q => zkT hn _ _ q,fun a u e => zkT hn _ _ e,fun _ _ e => e,fun _ _ => rfl⟩
theorem Grow.newF (g : GOk K G H) (hn : H p = none) {o : HO} (ob : OB K G (upd H p o) p d) : Grow K G H (gset G p d) (upd H p o) := by
  have w := Grow.new g hn o
  have gn := g.isN hn
  exact ⟨w.ok.gset gn ob,w.he,fun a e h => zcU gn a e h,fun a h => zeq (by rintro rfl; exact h hn)⟩
theorem Grow.frz (w : Grow K G H G' H') (hn : H a = none) (o : Own K G' H' a d) (ob : Obj) : Grow K G H (gset G' a d) (fz H' a ob) :=
  ⟨(w.ok.fast o.un ob).gset o.un (o.ob.fast ob),fun b u e => by rw [zma (by rintro rfl; rw [hn] at e; cases e)]; exact w.he b u e,fun b e h => zcU o.un b e (w.ge b e h),fun b h => by rw [zeq (by rintro rfl; exact h hn)]; exact w.gf b h⟩
theorem RG.lst {ds : List D} (g : GOk K G H) (h : RG K G v (.lst ds)) : ∃ a xs,v = .ref a∧SqL K H a xs∧RGs K G xs ds := by
  cases h with
  | scl s => cases s
  | ref e =>
    cases g _ _ e with
    | lst r s => exact ⟨_,_,rfl,.inl r,s⟩
  | kc k =>
    cases k with
    | lst r s =>
      refine ⟨_,_,rfl,?_,Paired.mono (fun _ _ z => .scl z) s⟩
      rcases r with (r | ⟨o,r⟩) | r
      · cases r
      · cases r
      · exact .inr r
theorem RG.tup {ds : List D} (g : GOk K G H) (h : RG K G v (.tup ds)) : ∃ a xs,v = .ref a∧SqT K H a xs∧RGs K G xs ds := by
  cases h with
  | scl s => cases s
  | ref e =>
    cases g _ _ e with
    | tup r s => exact ⟨_,_,rfl,.inl r,s⟩
  | kc k =>
    cases k with
    | tup r s _ =>
      refine ⟨_,_,rfl,?_,Paired.mono (fun _ _ z => .scl z) s⟩
      rcases r with (r | ⟨o,r⟩) | r
      · cases r
      · cases r
      · exact .inr r
theorem RG.dic {kvs : List (Key × D)} (g : GOk K G H) (h : RG K G v (.dic kvs)) : ∃ a ps,v = .ref a∧Rd H a (.dK ps)∧RKs K G ps kvs := by
  cases h with
  | scl s => cases s
  | ref e =>
    cases g _ _ e with
    | dic r s => exact ⟨_,_,rfl,.inr ⟨_,r⟩,s⟩
  | kc k => cases k
theorem RG.int {i : Int} (g : GOk K G H) (h : RG K G v (.int i)) : v = .int i := by
  cases h with
  | scl s => cases s; rfl
  | ref e => cases g _ _ e
  | kc k => cases k
theorem RG.str {x : Str} (g : GOk K G H) (h : RG K G v (.str x)) : v = .str x := by
  cases h with
  | scl s => cases s; rfl
  | ref e => cases g _ _ e
  | kc k => cases k
theorem RG.bl {b : Bool} (g : GOk K G H) (h : RG K G v (.bl b)) : v = .bl b := by
  cases h with
  | scl s => cases s; rfl
  | ref e => cases g _ _ e
  | kc k => cases k
theorem RG.non (g : GOk K G H) (h : RG K G v .non) : v = .non := by
  cases h with
  | scl s => cases s; rfl
  | ref e => cases g _ _ e
  | kc k => cases k
noncomputable def RB (K : PySem.W.Frag) (G : GH) (H : Hp) (v : V) (d : D) : Prop := RG K G v d∨∃ a,v = .ref a∧Own K G H a d
theorem RG.rb (h : RG K G v d) : RB K G H v d := .inl h
theorem RB.mono (h : RB K G H v d) (w : Grow K G H G' H') : RB K G' H' v d := by
  rcases h with h | ⟨a,e,h⟩
  · exact .inl (h.mono w.ge)
  · exact .inr ⟨a,e,h.mono w⟩
theorem RB.lst {ds : List D} (g : GOk K G H) (h : RB K G H v (.lst ds)) : ∃ a xs,v = .ref a∧SqL K H a xs∧RGs K G xs ds := by
  rcases h with h | ⟨a,e,h⟩
  · exact h.lst g
  · cases h.ob with
    | lst r s => exact ⟨a,_,e,SqL.of r,s⟩
theorem RB.tup {ds : List D} (g : GOk K G H) (h : RB K G H v (.tup ds)) : ∃ a xs,v = .ref a∧SqT K H a xs∧RGs K G xs ds := by
  rcases h with h | ⟨a,e,h⟩
  · exact h.tup g
  · cases h.ob
theorem RB.dic {kvs : List (Key × D)} (g : GOk K G H) (h : RB K G H v (.dic kvs)) : ∃ a ps,v = .ref a∧Rd H a (.dK ps)∧RKs K G ps kvs := by
  rcases h with h | ⟨a,e,h⟩
  · exact h.dic g
  · cases h.ob with
    | dic r s => exact ⟨a,_,e,.inl r,s⟩
theorem RB.int {i : Int} (g : GOk K G H) (h : RB K G H v (.int i)) : v = .int i := by
  rcases h with h | ⟨a,e,h⟩
  · exact h.int g
  · cases h.ob
theorem RB.str {x : Str} (g : GOk K G H) (h : RB K G H v (.str x)) : v = .str x := by
  rcases h with h | ⟨a,e,h⟩
  · exact h.str g
  · cases h.ob
theorem RB.bl {b : Bool} (g : GOk K G H) (h : RB K G H v (.bl b)) : v = .bl b := by
  rcases h with h | ⟨a,e,h⟩
  · exact h.bl g
  · cases h.ob
theorem RB.non (g : GOk K G H) (h : RB K G H v .non) : v = .non := by
  rcases h with h | ⟨a,e,h⟩
  · exact h.non g
  · cases h.ob
theorem Paired.get {α β : Type} {F : α→β→Prop} : ∀ {l : List α} {r : List β} {i : Nat} {b : β},Paired F l r→r[i]? = some b→∃ a,l[i]? = some a∧F a b
  | _,_,_,_,.nil,e => by simp at e
  | _,_,0,_,.cons h _,e => by simp at e; subst e; exact ⟨_,rfl,h⟩
  | _,_,i + 1,b,.cons _ t,e => by
    obtain ⟨a,h1,h2⟩ := Paired.get (i := i) t (by simpa using e)
    exact ⟨a,by simpa using h1,h2⟩
theorem Paired.app {α β : Type} {F : α→β→Prop} {l l' : List α} {r r' : List β} (h : Paired F l r) (q : Paired F l' r') : Paired F (l++l') (r++r') := by
  induction h with
  | nil => exact q
  | cons h _ ih => exact .cons h ih
theorem Paired.tk {α β : Type} {F : α→β→Prop} {l : List α} {r : List β} (n : Nat) (h : Paired F l r) : Paired F (l.take n) (r.take n) := by
  induction h generalizing n with
  | nil => cases n <;> exact .nil
  | cons h _ ih => cases n with
    | zero => exact .nil
    | succ n => exact .cons h (ih n)
theorem Paired.dr {α β : Type} {F : α→β→Prop} {l : List α} {r : List β} (n : Nat) (h : Paired F l r) : Paired F (l.drop n) (r.drop n) := by
  induction h generalizing n with
  | nil => cases n <;> exact .nil
  | cons h t ih => cases n with
    | zero => exact .cons h t
    | succ n => exact ih n
theorem Paired.st {α β : Type} {F : α→β→Prop} {a : α} {b : β} (h : F a b) {l : List α} {r : List β} (n : Nat) (p : Paired F l r) : Paired F (l.set n a) (r.set n b) := by
  induction p generalizing n with
  | nil => exact .nil
  | cons q t ih => cases n with
    | zero => exact .cons h t
    | succ n => exact .cons q (ih n)
theorem Paired.er {α β : Type} {F : α→β→Prop} {l : List α} {r : List β} (n : Nat) (p : Paired F l r) : Paired F (l.eraseIdx n) (r.eraseIdx n) := by
  induction p generalizing n with
  | nil => exact .nil
  | cons q t ih => cases n with
    | zero => exact t
    | succ n => exact .cons q (ih n)
end
inductive Md where
  | sh | ow | bw
  deriving DecidableEq
noncomputable abbrev Rho := List (Option D)
structure GE where
  gh : GH
  h0 : Hp
  hd : Nat→Option (Option V × Option D)
noncomputable def Bw (K : PySem.W.Frag) (h0 : Hp) (G : GH) (H : Hp) (v : V) (d : D) : Prop := RG K G v d∨∃ a,v = V.ref a∧Own K G H a d∧h0 a≠none
theorem Bw.grow {K : PySem.W.Frag} {h0 : Hp} {G G' : GH} {H H' : Hp} {v : V} {d : D} (h : Bw K h0 G H v d) (w : Grow K G H G' H') : Bw K h0 G' H' v d := by
  rcases h with h | ⟨a,e,h1,h2⟩
  · exact .inl (h.mono w.ge)
  · exact .inr ⟨a,e,h1.mono w,h2⟩
theorem Bw.rb {K : PySem.W.Frag} {h0 : Hp} {G : GH} {H : Hp} {v : V} {d : D} (h : Bw K h0 G H v d) : RB K G H v d := by
  rcases h with h | ⟨a,e,h1,h2⟩
  · exact .inl h
  · exact .inr ⟨a,e,h1⟩
noncomputable def Lk (r : Rho) (st : L2.St) (i : Nat) (o : Option V × Option D) : Prop := st[i]? = some o.1∧∀ d,r[i]? = some (some d)→o.2 = some d
structure SI (X : Cx) (g : GE) (m : List Md) (r : Rho) (G : GH) (st : L2.St) (H : Hp) : Prop where
  gok : GOk X.K G H
  old : ∀ a o,g.h0 a = some o→H a = some o
  ge : ∀ a d,g.gh a = some d→G a = some d
  gf : ∀ a,g.h0 a≠none→G a = g.gh a
  lm : m.length = st.length
  lr : r.length = st.length
  sh : ∀ (i : Nat) d,r[i]? = some (some d)→m[i]? = some .sh→∃ v,st[i]? = some (some v)∧RG X.K G v d
  ow : ∀ (i : Nat) d,r[i]? = some (some d)→m[i]? = some .ow→∃ a,st[i]? = some (some (V.ref a))∧Own X.K G H a d∧g.h0 a = none
  bw : ∀ (i : Nat) d,r[i]? = some (some d)→m[i]? = some .bw→∃ v,st[i]? = some (some v)∧Bw X.K g.h0 G H v d
  dis : ∀ (i j : Nat) a d e,i≠j→r[i]? = some (some d)→r[j]? = some (some e)→m[i]? = some .ow→m[j]? = some .ow→st[i]? = some (some (V.ref a))→st[j]? = some (some (V.ref a))→False
  lk : ∀ (i : Nat) o,g.hd i = some o→m[i]? = some .bw→Lk r st i o
section
variable {X : Cx} {g : GE} {m : List Md} {r : Rho} {G G' : GH} {st : L2.St} {H H' : Hp}
theorem SI.grow (s : SI X g m r G st H) (w : Grow X.K G H G' H') : SI X g m r G' st H' where
  gok := w.ok
  old := fun a o e => w.he _ _ (s.old a o e)
  ge := fun a d e => w.ge _ _ (s.ge a d e)
  gf := fun a h => by
    have h1 : H a≠none := by
      cases e : g.h0 a with
      | none => exact absurd e h
      | some o => rw [s.old _ _ e]; simp
    rw [w.gf a h1,s.gf a h]
  lm := s.lm
  lr := s.lr
  sh := fun i d h1 h2 => by obtain ⟨v,h3,h4⟩ := s.sh i d h1 h2; exact ⟨v,h3,h4.mono w.ge⟩
  ow := fun i d h1 h2 => by obtain ⟨a,h3,h4,h5⟩ := s.ow i d h1 h2; exact ⟨a,h3,h4.mono w,h5⟩
  bw := fun i d h1 h2 => by obtain ⟨v,h3,h4⟩ := s.bw i d h1 h2; exact ⟨v,h3,h4.grow w⟩
  dis := s.dis
  lk := s.lk
theorem SI.grown (s : SI X g m r G st H) : Grow X.K g.gh g.h0 G H := ⟨s.gok,s.old,s.ge,s.gf⟩
theorem SI.frz (s : SI X g m r G st H) (i : Nat) (hi : m[i]? = some .ow) : (∃ G',(∀ a d,G a = some d→G' a = some d)∧SI X g (m.set i .sh) r G' st H)∨∃ a,∀ ob,∃ G',(∀ a d,G a = some d→G' a = some d)∧SI X g (m.set i .sh) r G' st (fz H a ob) := by
  have hlt : i < m.length := (List.getElem?_eq_some_iff.mp hi).1
  by_cases hb : ∃ d,r[i]? = some (some d)
  · obtain ⟨d,hd⟩ := hb
    obtain ⟨a,h1,h2,h3⟩ := s.ow i d hd hi
    refine .inr ⟨a,fun ob => ⟨gset G a d,zcU h2.un,(s.gok.fast h2.un ob).gset h2.un (h2.ob.fast ob),fun b o e => by rw [zma (by rintro rfl; rw [h3] at e; cases e)]; exact s.old b o e,fun b e h => zcU h2.un b e (s.ge b e h),fun b h => ?_,by simpa using s.lm,s.lr,?_,?_,?_,?_,fun j o hj hm => ?_⟩⟩
    · rw [zeq (by rintro rfl; exact h h3)]; exact s.gf b h
    · intro j e hj hm
      by_cases hij : i = j
      · subst hij
        rw [hd] at hj; cases hj
        exact ⟨_,h1,.ref zaR⟩
      · rw [List.getElem?_set_ne hij] at hm
        obtain ⟨v,q1,q2⟩ := s.sh j e hj hm
        exact ⟨v,q1,q2.mono (zcU h2.un)⟩
    · intro j e hj hm
      by_cases hij : i = j
      · subst hij
        rw [List.getElem?_set_self hlt] at hm; cases hm
      · rw [List.getElem?_set_ne hij] at hm
        obtain ⟨b,q1,q2,q3⟩ := s.ow j e hj hm
        have hba : b≠a := by
          rintro rfl
          exact s.dis i j b d e hij hd hj hi hm h1 q1
        exact ⟨b,q1,⟨by rw [zeq hba]; exact q2.un,q2.ob.mono (zcU h2.un) fun _ z => by rw [zma hba]; exact z⟩,q3⟩
    · intro j e hj hm
      by_cases hij : i = j
      · subst hij
        rw [List.getElem?_set_self hlt] at hm; cases hm
      · rw [List.getElem?_set_ne hij] at hm
        obtain ⟨v,q1,q2⟩ := s.bw j e hj hm
        refine ⟨v,q1,?_⟩
        rcases q2 with q2 | ⟨b,rfl,q2,q3⟩
        · exact .inl (q2.mono (zcU h2.un))
        · have hba : b≠a := by rintro rfl; exact q3 h3
          exact .inr ⟨b,rfl,⟨by rw [zeq hba]; exact q2.un,q2.ob.mono (zcU h2.un) fun _ z => by rw [zma hba]; exact z⟩,q3⟩
    · intro j k b e e' hjk hj hk hm hm' q1 q2
      have hij : i≠j := by
        rintro rfl
        rw [List.getElem?_set_self hlt] at hm; cases hm
      have hik : i≠k := by
        rintro rfl
        rw [List.getElem?_set_self hlt] at hm'; cases hm'
      rw [List.getElem?_set_ne hij] at hm
      rw [List.getElem?_set_ne hik] at hm'
      exact s.dis j k b e e' hjk hj hk hm hm' q1 q2
    · refine s.lk j o hj ?_
      by_cases hij : i = j
      · subst hij; rw [List.getElem?_set_self hlt] at hm; cases hm
      · rw [List.getElem?_set_ne hij] at hm; exact hm
  · refine .inl ⟨G,fun _ _ z => z,s.gok,s.old,s.ge,s.gf,by simpa using s.lm,s.lr,?_,?_,?_,?_,fun j o hj hm => ?_⟩
    · intro j e hj hm
      have hij : i≠j := by rintro rfl; exact hb ⟨e,hj⟩
      rw [List.getElem?_set_ne hij] at hm
      exact s.sh j e hj hm
    · intro j e hj hm
      have hij : i≠j := by rintro rfl; exact hb ⟨e,hj⟩
      rw [List.getElem?_set_ne hij] at hm
      exact s.ow j e hj hm
    · intro j e hj hm
      have hij : i≠j := by rintro rfl; exact hb ⟨e,hj⟩
      rw [List.getElem?_set_ne hij] at hm
      exact s.bw j e hj hm
    · intro j k b e e' hjk hj hk hm hm' q1 q2
      have hij : i≠j := by rintro rfl; exact hb ⟨e,hj⟩
      have hik : i≠k := by rintro rfl; exact hb ⟨e',hk⟩
      rw [List.getElem?_set_ne hij] at hm
      rw [List.getElem?_set_ne hik] at hm'
      exact s.dis j k b e e' hjk hj hk hm hm' q1 q2
    · refine s.lk j o hj ?_
      by_cases hij : i = j
      · subst hij; rw [List.getElem?_set_self hlt] at hm; cases hm
      · rw [List.getElem?_set_ne hij] at hm; exact hm
end
end DL
end
section
namespace DL
open PySem PySem.Spec PyProof.Rows L2
theorem PE.imp {X : Cx} {e : Expr} {t t' : TE} (h : PE X e t) (i : ∀ σ H Q,t' σ H Q→t σ H Q) : PE X e t' := fun pins s σ H Q I q => h pins s σ H Q I (i σ H Q q)
theorem PT.imp {X : Cx} {e : Expr} {t t' : TT} (h : PT X e t) (i : ∀ σ H Q,t' σ H Q→t σ H Q) : PT X e t' := fun pins s σ H Q I q => h pins s σ H Q I (i σ H Q q)
theorem PW.imp {X : Cx} {e : Expr} {t t' : TT} (h : PW X e t) (i : ∀ σ H Q,t' σ H Q→t σ H Q) : PW X e t' := fun whole pins s σ H Q I q => h whole pins s σ H Q I (i σ H Q q)
theorem PA.imp {X : Cx} {e : List Expr} {t t' : TA} (h : PA X e t) (i : ∀ σ H Q,t' σ H Q→t σ H Q) : PA X e t' := fun pos pins s σ H Q I q => h pos pins s σ H Q I (i σ H Q q)
theorem PS.imp {X : Cx} {e : Stmt} {t t' : TS} (h : PS X e t) (i : ∀ D σ H,t' D σ H→t D σ H) : PS X e t' := fun pins s σ H D I q => h pins s σ H D I (i D σ H q)
theorem PSs.imp {X : Cx} {e : List Stmt} {t t' : TS} (h : PSs X e t) (i : ∀ D σ H,t' D σ H→t D σ H) : PSs X e t' := fun pins s σ H D I q => h pins s σ H D I (i D σ H q)
noncomputable def ExV (_X : Cx) (_G : GH) (_H : Hp) (_e : Value) (_x : D) : Prop := False
noncomputable def XW (X : Cx) (σ : L2.St) (G : GH) (H : Hp) (x : D) : Prop := ∀ pins e s' G' H',Grow X.K G H G' H'→Inv X pins σ H' s'→ExV X G' H' e x→X.xe e s'
theorem XW.grow {X : Cx} {σ : L2.St} {G G1 : GH} {H H1 : Hp} {x : D} (h : XW X σ G H x) (w : Grow X.K G H G1 H1) : XW X σ G1 H1 x := fun pins e s' G' H' w' I q => h pins e s' G' H' (w.trans w') I q
noncomputable abbrev FE := Rho→Res D
noncomputable def tE (X : Cx) (g : GE) (m : List Md) (f : FE) : TE := fun σ H Q => ∃ r G,SI X g m r G σ H∧fin (f r) (fun d => ∀ v G' H',Grow X.K G H G' H'→RG X.K G' v d→Q v H') (XW X σ G H)
noncomputable def tB (X : Cx) (g : GE) (m : List Md) (f : FE) : TE := fun σ H Q => ∃ r G,SI X g m r G σ H∧fin (f r) (fun d => ∀ v G' H',Grow X.K G H G' H'→RB X.K G' H' v d→Q v H') (XW X σ G H)
noncomputable def tO (X : Cx) (g : GE) (m : List Md) (f : FE) : TE := fun σ H Q => ∃ r G,SI X g m r G σ H∧fin (f r) (fun d => ∀ a G' H',Grow X.K G H G' H'→H a = none→Own X.K G' H' a d→Q (.ref a) H') (XW X σ G H)
noncomputable def tQ (X : Cx) (g : GE) (m : List Md) (f : Rho→Res Bool) : TT := fun σ H Q => ∃ r G,SI X g m r G σ H∧fin (f r) (fun b => ∀ G' H',Grow X.K G H G' H'→Q b H') (XW X σ G H)
noncomputable def tL (X : Cx) (g : GE) (m : List Md) (f : Rho→Res (List D)) : TA := fun σ H Q => ∃ r G,SI X g m r G σ H∧fin (f r) (fun ds => ∀ vs G' H',Grow X.K G H G' H'→RGs X.K G' vs ds→Q vs H') (XW X σ G H)
noncomputable def tLB (X : Cx) (g : GE) (m : List Md) (f : Rho→Res (List D)) : TA := fun σ H Q => ∃ r G,SI X g m r G σ H∧fin (f r) (fun ds => ∀ vs G' H',Grow X.K G H G' H'→Paired (RB X.K G' H') vs ds→Q vs H') (XW X σ G H)
noncomputable def SE (X : Cx) (g : GE) (m : List Md) (e : Expr) (f : FE) : Prop := PE X e (tE X g m f)
noncomputable def SB (X : Cx) (g : GE) (m : List Md) (e : Expr) (f : FE) : Prop := PE X e (tB X g m f)
noncomputable def SO (X : Cx) (g : GE) (m : List Md) (e : Expr) (f : FE) : Prop := PE X e (tO X g m f)
noncomputable def SQ (X : Cx) (g : GE) (m : List Md) (e : Expr) (f : Rho→Res Bool) : Prop := PT X e (tQ X g m f)
noncomputable def SW (X : Cx) (g : GE) (m : List Md) (e : Expr) (f : Rho→Res Bool) : Prop := PW X e (tQ X g m f)
noncomputable def SA (X : Cx) (g : GE) (m : List Md) (es : List Expr) (f : Rho→Res (List D)) : Prop := PA X es (tL X g m f)
noncomputable def SAB (X : Cx) (g : GE) (m : List Md) (es : List Expr) (f : Rho→Res (List D)) : Prop := PA X es (tLB X g m f)
section
variable {X : Cx} {g : GE} {m : List Md} {e a b c : Expr} {f fa fb fc : FE} {pos : Pos}
theorem SE.toB (h : SE X g m e f) : SB X g m e f := PE.imp h fun σ H Q ⟨r,G,si,q⟩ => ⟨r,G,si,zah q fun d k v G' H' w z => k v G' H' w z.rb⟩
theorem Inv.fast {pins : List (Addr × Obj)} {σ : L2.St} {H : Hp} {s : Shared} (I : Inv X pins σ H s) (a : Addr) : ∃ ob,Inv X pins σ (fz H a ob) s := by
  cases e : H a with
  | none => exact ⟨{ cls := .none,data := .fields #[] },by unfold fz; rw [e]; exact I⟩
  | some u =>
    cases u with
    | dK ps =>
      obtain ⟨z1,z2,vs,z3,o,es,ep,z4,z5⟩ := (show zaU X.prog X.w H s.heap a (.dK ps) from I.hok a _ e)
      have ef : fz H a o = upd H a (.frz o (.dK ps)) := by unfold fz; rw [e]
      refine ⟨o,?_⟩
      rw [ef]
      exact I.write (t' := s.toks) (h' := s.heap) (x := a) (e := a) (by rw [e]; exact trivial) (.inl rfl) (fun b u _ q => q) ⟨o,z4⟩ (show zaU X.prog X.w _ s.heap a (.frz o (.dK ps)) from ⟨z4,z1,z2,vs,z3,o,es,ep,z4,z5⟩)
    | _ => exact ⟨{ cls := .none,data := .fields #[] },by unfold fz; rw [e]; exact I⟩
theorem SO.toE (h : SO X g m e f) : SE X g m e f := by
  intro pins s σ H Q I ⟨r,G,si,q⟩
  refine thn (h pins s σ H (fun v H' => ∃ a,v = .ref a∧∀ ob,Q v (fz H' a ob)) I ⟨r,G,si,zah q fun d k a G' H' w hn o => ⟨a,rfl,fun ob => k _ _ _ (w.frz hn o ob) (.ref zaR)⟩⟩) fun u s' ⟨v,H',I',rv,a,_,z⟩ => ?_
  obtain ⟨ob,I2⟩ := Inv.fast I' a
  exact ⟨v,_,I2,rv,z ob⟩
theorem SO.toB (h : SO X g m e f) : SB X g m e f := h.toE.toB
theorem zhg {v : V} {d : D} (h : PE X e (tC v)) (s : Scl v d) : SE X g m e fun _ => .ok d :=
  PE.imp h fun σ H Q ⟨r,G,si,q⟩ => q v G H (Grow.refl si.gok) (.scl s)
theorem zas {i : Int} {j} : SE X g m (.Constant (.int i) j pos) fun _ => .ok (.int i) := zhg zq3 (.int i)
theorem s_bl {i : Bool} {j} : SE X g m (.Constant (.bool i) j pos) fun _ => .ok (.bl i) := zhg zsH (.bl i)
theorem zk1 {j} : SE X g m (.Constant .none j pos) fun _ => .ok .non := zhg zq1 .non
noncomputable def getV (r : Rho) (i : Nat) : Res D := match r[i]? with
  | some (some d) => .ok d
  | _ => .stuck
theorem zhq {r : Rho} {i : Nat} {q : D→Prop} {x : D→Prop} (h : fin (getV r i) q x) : ∃ d,r[i]? = some (some d)∧q d := by
  unfold getV at h
  split at h
  · rename_i d e; exact ⟨d,e,h⟩
  · exact h.elim
theorem zsu (i : Nat) {x : Str} (hm : m[i]? = some .sh) (hN : X.N[i]? = some x) (hv : Vis X.env.scope x) (hd : (x == ("__debug__" : Str)) = false := by decide) (hcd : (x == ("__classdict__" : Str)) = false := by decide) :
    SE X g m (.Name x pos) fun r => getV r i := by
  refine PE.imp (zh3 hN hv hd hcd) fun σ H Q ⟨r,G,si,q⟩ => ?_
  obtain ⟨d,e,k⟩ := zhq q
  obtain ⟨v,e1,e2⟩ := si.sh i d e hm
  exact ⟨v,e1,k v G H (Grow.refl si.gok) e2⟩
theorem zqo (i : Nat) {x : Str} (hm : i < m.length) (hN : X.N[i]? = some x) (hv : Vis X.env.scope x) (hd : (x == ("__debug__" : Str)) = false := by decide) (hcd : (x == ("__classdict__" : Str)) = false := by decide) :
    SB X g m (.Name x pos) fun r => getV r i := by
  refine PE.imp (zh3 hN hv hd hcd) fun σ H Q ⟨r,G,si,q⟩ => ?_
  obtain ⟨d,e,k⟩ := zhq q
  have hm' : m[i]? = some m[i] := List.getElem?_eq_getElem hm
  cases h : m[i] with
  | sh =>
    obtain ⟨v,e1,e2⟩ := si.sh i d e (hm'.trans (by rw [h]))
    exact ⟨v,e1,k v G H (Grow.refl si.gok) e2.rb⟩
  | ow =>
    obtain ⟨v,e1,e2,_⟩ := si.ow i d e (hm'.trans (by rw [h]))
    exact ⟨_,e1,k _ G H (Grow.refl si.gok) (.inr ⟨v,rfl,e2⟩)⟩
  | bw =>
    obtain ⟨v,e1,e2⟩ := si.bw i d e (hm'.trans (by rw [h]))
    exact ⟨_,e1,k _ G H (Grow.refl si.gok) e2.rb⟩
theorem zqt {x : Str} {v : V} {u : Value} {d : D} (hg : Gl X x) (hm : X.mg x = some u) (r : RelV v u) (s : Scl v d) (hd : (x == ("__debug__" : Str)) = false := by decide) : SE X g m (.Name x pos) fun _ => .ok d := zhg (zpb hg hm r hd) s
theorem seq2 {β : Type} {k : D→D→Res β} {q : β→Prop} {R : V→V→Hp→Prop} {r : Rho} {G : GH} {σ : L2.St} {H : Hp} (si : SI X g m r G σ H)
    (h : fin ((fa r).bind fun d1 => (fb r).bind fun d2 => k d1 d2) q (XW X σ G H))
    (hk : ∀ d1 d2 v1 v2 G2 H2,Grow X.K G H G2 H2→RB X.K G2 H2 v1 d1→RB X.K G2 H2 v2 d2→fin (k d1 d2) q (XW X σ G H)→R v1 v2 H2) :
    tB X g m fa σ H fun v1 H1 => tB X g m fb σ H1 fun v2 H2 => R v1 v2 H2 := by
  refine ⟨r,G,si,zah (zag h) fun d1 h1 v1 G1 H1 w1 r1 => ⟨r,G1,si.grow w1,?_⟩⟩
  cases e : fb r with
  | ok d2 =>
    rw [e] at h1
    exact fun v2 G2 H2 w2 r2 => hk d1 d2 v1 v2 G2 H2 (w1.trans w2) (r1.mono w2) r2 h1
  | exc x =>
    rw [e] at h1
    exact (show XW X σ G H x from h1).grow w1
  | stuck =>
    rw [e] at h1
    exact h1
noncomputable def opt {α : Type} : Option α→Res α
  | some a => .ok a
  | none => .stuck
@[simp] theorem opt_some {α : Type} (a : α) : opt (some a) = .ok a := rfl
@[simp] theorem opt_none {α : Type} : opt (none : Option α) = .stuck := rfl
theorem zav {α : Type} {o : Option α} {q : α→Prop} {x : D→Prop} (h : fin (opt o) q x) : ∃ a,o = some a∧q a := by
  cases o with
  | none => exact h.elim
  | some a => exact ⟨a,rfl,h⟩
noncomputable def OpD (K : PySem.W.Frag) (r : R2) (k : D→D→Option D) : Prop := ∀ (G : GH) (H : Hp) (v1 v2 : V) (d1 d2 d : D) (Q : VK),GOk K G H→RB K G H v1 d1→RB K G H v2 d2→k d1 d2 = some d →
  (∀ v G' H',Grow K G H G' H'→RG K G' v d→Q v H')→r v1 v2 H Q
noncomputable def OpO (K : PySem.W.Frag) (r : R2) (k : D→D→Option D) : Prop := ∀ (G : GH) (H : Hp) (v1 v2 : V) (d1 d2 d : D) (Q : VK),GOk K G H→RB K G H v1 d1→RB K G H v2 d2→k d1 d2 = some d →
  (∀ a G' H',Grow K G H G' H'→H a = none→Own K G' H' a d→Q (.ref a) H')→r v1 v2 H Q
noncomputable def f2 (fa fb : FE) (k : D→D→Option D) : FE := fun r => (fa r).bind fun d1 => (fb r).bind fun d2 => opt (k d1 d2)
theorem zoR {R : R2} {k : D→D→Option D} (ho : OpD X.K R k) (h : PE X e (tOp R (tB X g m fa) (tB X g m fb))) : SE X g m e (f2 fa fb k) := by
  refine PE.imp h fun σ H Q ⟨r,G,si,q⟩ => ?_
  refine seq2 si q fun d1 d2 v1 v2 G2 H2 w r1 r2 q2 => ?_
  obtain ⟨d,e,q2⟩ := zav q2
  exact ho G2 H2 v1 v2 d1 d2 d Q w.ok r1 r2 e fun v G' H' w' z => q2 v G' H' (w.trans w') z
theorem zqr {R : R2} {k : D→D→Option D} (ho : OpO X.K R k) (h : PE X e (tOp R (tB X g m fa) (tB X g m fb))) : SO X g m e (f2 fa fb k) := by
  refine PE.imp h fun σ H Q ⟨r,G,si,q⟩ => ?_
  refine seq2 si q fun d1 d2 v1 v2 G2 H2 w r1 r2 q2 => ?_
  obtain ⟨d,e,q2⟩ := zav q2
  exact ho G2 H2 v1 v2 d1 d2 d Q w.ok r1 r2 e fun a G' H' w' hn z => q2 a G' H' (w.trans w') (by
    cases q : H a with
    | none => rfl
    | some o => rw [w.he _ _ q] at hn; cases hn) z
theorem zhL {op : Operator} {R : R2} {k : D→D→Option D} (hr : OpR X (binaryOp op) R) (ho : OpD X.K R k) (ha : SB X g m a fa) (hb : SB X g m b fb) : SE X g m (.BinOp a op b pos) (f2 fa fb k) := zoR ho (zqY hr ha hb)
theorem zqy {op : Operator} {R : R2} {k : D→D→Option D} (hr : OpR X (binaryOp op) R) (ho : OpO X.K R k) (ha : SB X g m a fa) (hb : SB X g m b fb) : SO X g m (.BinOp a op b pos) (f2 fa fb k) := zqr ho (zqY hr ha hb)
theorem zqv {op : CmpOp} {R : R2} {k : D→D→Option D} (hr : OpR X (compareOp op) R) (ho : OpD X.K R k) (ha : SB X g m a fa) (hb : SB X g m b fb) (hm : behindInMarks op b = false) : SE X g m (.Compare a [op] [b] pos) (f2 fa fb k) := zoR ho (zpc hr ha hb hm)
noncomputable def asB : D→Option Bool
  | .bl b => some b
  | _ => none
noncomputable def zaL (f : FE) : Rho→Res Bool := fun r => (f r).bind fun d => opt (asB d)
theorem zh0 {op : CmpOp} {R : R2} {k : D→D→Option D} (hr : OpR X (compareOp op) R) (ho : OpD X.K R k) (ha : SB X g m a fa) (hb : SB X g m b fb) (hm : behindInMarks op b = false) : SQ X g m (.Compare a [op] [b] pos) (zaL (f2 fa fb k)) := by
  refine PT.imp (zo4 hr ha hb hm) fun σ H Q ⟨r,G,si,q⟩ => ?_
  have e : zaL (f2 fa fb k) r = (fa r).bind fun d1 => (fb r).bind fun d2 => (opt (k d1 d2)).bind fun d => opt (asB d) := by
    unfold zaL f2
    cases fa r with
    | ok d1 => cases fb r <;> rfl
    | exc _ => rfl
    | stuck => rfl
  rw [e] at q
  refine seq2 (R := fun x y H2 => R x y H2 fun x H' => ∃ k,x = V.bl k∧Q k H') si q fun d1 d2 v1 v2 G2 H2 w r1 r2 q3 => ?_
  obtain ⟨d,e,q3⟩ := zav (zag q3)
  obtain ⟨b,eb,q3⟩ := zav q3
  cases d with
  | bl b' =>
    cases eb
    exact ho G2 H2 v1 v2 d1 d2 _ _ w.ok r1 r2 e fun v G' H' w' z => ⟨_,z.bl w'.ok,q3 G' H' (w.trans w')⟩
  | _ => cases eb
end
end DL
end
section
namespace DL
open PySem PySem.Spec PyProof.Rows L2
instance decMul (i j : Int) : Decidable (CMul i j) := by unfold CMul; infer_instance
instance decDiv (i j : Int) : Decidable (CDiv i j) := by unfold CDiv; infer_instance
instance decPow (i j : Int) : Decidable (CPow i j) := by unfold CPow; infer_instance
noncomputable def zkB (k : Int→Int→D) : D→D→Option D
  | .int a,.int b => some (k a b)
  | _,_ => none
noncomputable def zge (C : Int→Int→Prop) [∀ a b,Decidable (C a b)] (k : Int→Int→D) : D→D→Option D
  | .int a,.int b => if C a b then some (k a b) else none
  | _,_ => none
@[simp] theorem ints2_int (k : Int→Int→D) (a b : Int) : zkB k (.int a) (.int b) = some (k a b) := rfl
@[simp] theorem intsC_int (C : Int→Int→Prop) [∀ a b,Decidable (C a b)] (k : Int→Int→D) (a b : Int) : zge C k (.int a) (.int b) = if C a b then some (k a b) else none := rfl
section
variable {K : PySem.W.Frag}
theorem zf4 {gv : Int→Int→V} {gd : Int→Int→D} (hs : ∀ i j,Scl (gv i j) (gd i j)) : OpD K (rI0 gv) (zkB gd) := by
  intro G H v1 v2 d1 d2 d Q g r1 r2 e q
  unfold zkB at e
  split at e
  · cases e
    exact ⟨_,_,r1.int g,r2.int g,q _ G H (Grow.refl g) (.scl (hs _ _))⟩
  · cases e
theorem zdP {C : Int→Int→Prop} [∀ a b,Decidable (C a b)] {gv : Int→Int→V} {gd : Int→Int→D} (hs : ∀ i j,Scl (gv i j) (gd i j)) : OpD K (rI C gv) (zge C gd) := by
  intro G H v1 v2 d1 d2 d Q g r1 r2 e q
  unfold zge at e
  split at e
  · split at e
    · rename_i hc
      cases e
      exact ⟨_,_,r1.int g,r2.int g,hc,q _ G H (Grow.refl g) (.scl (hs _ _))⟩
    · cases e
  · cases e
end
noncomputable abbrev mulI : D→D→Option D := zge CMul fun a b => .int (a * b)
noncomputable abbrev zmf : D→D→Option D := zge CDiv fun a b => .int (a / b)
noncomputable abbrev modI : D→D→Option D := zge (fun _ b => 0 < b) fun a b => .int (a % b)
noncomputable abbrev powI : D→D→Option D := zge CPow fun a b => .int (a ^ b.toNat)
noncomputable abbrev ltI : D→D→Option D := zkB fun a b => .bl (decide (a < b))
noncomputable abbrev leI : D→D→Option D := zkB fun a b => .bl (decide (a≤b))
noncomputable abbrev gtI : D→D→Option D := zkB fun a b => .bl (decide (b < a))
section
variable {X : Cx} {g : GE} {m : List Md} {e a b c : Expr} {f fa fb fc : FE} {pos : Pos}
theorem zhK (ha : SB X g m a fa) (hb : SB X g m b fb) : SE X g m (.BinOp a .Mult b pos) (f2 fa fb mulI) := zhL zq9 (zdP fun _ _ => .int _) ha hb
theorem zqu (ha : SB X g m a fa) (hb : SB X g m b fb) : SE X g m (.BinOp a .FloorDiv b pos) (f2 fa fb zmf) := zhL zpj (zdP fun _ _ => .int _) ha hb
theorem zfB (ha : SB X g m a fa) (hb : SB X g m b fb) : SE X g m (.BinOp a .Mod b pos) (f2 fa fb modI) := zhL zra (zdP fun _ _ => .int _) ha hb
theorem zqq (ha : SB X g m a fa) (hb : SB X g m b fb) : SE X g m (.BinOp a .Pow b pos) (f2 fa fb powI) := zhL zq8 (zdP fun _ _ => .int _) ha hb
theorem s_gt (ha : SB X g m a fa) (hb : SB X g m b fb) : SE X g m (.Compare a [.Gt] [b] pos) (f2 fa fb gtI) := zqv zrf (zf4 fun _ _ => .bl _) ha hb (zfm _)
theorem q_lt (ha : SB X g m a fa) (hb : SB X g m b fb) : SQ X g m (.Compare a [.Lt] [b] pos) (zaL (f2 fa fb ltI)) := zh0 zrb (zf4 fun _ _ => .bl _) ha hb (zfm _)
theorem q_gt (ha : SB X g m a fa) (hb : SB X g m b fb) : SQ X g m (.Compare a [.Gt] [b] pos) (zaL (f2 fa fb gtI)) := zh0 zrf (zf4 fun _ _ => .bl _) ha hb (zfm _)
noncomputable def f1 (fa : FE) (k : D→Option D) : FE := fun r => (fa r).bind fun d => opt (k d)
noncomputable def negI : D→Option D
  | .int a => some (.int (-a))
  | _ => none
@[simp] theorem negI_int (a : Int) : negI (.int a) = some (.int (-a)) := rfl
theorem zsx (ha : SB X g m a fa) : SE X g m (.UnaryOp .USub a pos) (f1 fa negI) := by
  refine PE.imp (zsF zp5 ha) fun σ H Q ⟨r,G,si,q⟩ => ⟨r,G,si,zah (zag q) fun d q1 v G1 H1 w1 r1 => ?_⟩
  obtain ⟨d',e,q2⟩ := zav q1
  cases d with
  | int i =>
    cases e
    exact ⟨i,r1.int w1.ok,q2 _ G1 H1 w1 (.scl (.int _))⟩
  | _ => cases e
noncomputable def truD : D→Option Bool
  | .non => some false
  | .bl b => some b
  | .int i => some (i != 0)
  | .str y => if y.length≤sizeLine then some ((y.length : Int) != 0) else none
  | .lst ds => some (! ds.isEmpty)
  | .tup ds => some (! ds.isEmpty)
  | .dic kvs => some (! kvs.isEmpty)
  | .obj _ _ => none
theorem zgc {α β : Type} {F : α→β→Prop} {l : List α} {r : List β} (h : Paired F l r) : l.isEmpty = r.isEmpty := by cases h <;> rfl
theorem zoI {K : PySem.W.Frag} {G : GH} {H : Hp} {v : V} {d : D} {b : Bool} (gk : GOk K G H) (h : RB K G H v d) (e : truD d = some b) : TruV K v H b := by
  cases d with
  | non => cases e; rw [h.non gk]; rfl
  | bl b' => cases e; rw [h.bl gk]; rfl
  | int i => cases e; rw [h.int gk]; rfl
  | str y =>
    rw [h.str gk]
    have e' : (if y.length≤sizeLine then some ((y.length : Int) != 0) else none) = some b := e
    by_cases hy : y.length≤sizeLine
    · rw [if_pos hy] at e'; cases e'; exact ⟨hy,rfl⟩
    · rw [if_neg hy] at e'; cases e'
  | lst ds =>
    cases e
    obtain ⟨a,xs,rfl,s,r⟩ := h.lst gk
    exact .inl ⟨xs,s,by rw [zgc r]⟩
  | tup ds =>
    cases e
    obtain ⟨a,xs,rfl,s,r⟩ := h.tup gk
    exact .inr (.inl ⟨xs,s,by rw [zgc r]⟩)
  | dic kvs =>
    cases e
    obtain ⟨a,xs,rfl,s,r⟩ := h.dic gk
    exact .inr (.inr ⟨xs,s,by rw [zgc r]⟩)
  | obj _ _ => cases e
noncomputable def fTru (f : FE) : Rho→Res Bool := fun r => (f r).bind fun d => opt (truD d)
theorem zen (ha : SB X g m a fa) (he : ∀ whole,isTrue a X.env whole = (do let v ← whole; standAt a.pos; holding [v] (truthy v)) := by intro _; rfl) : SQ X g m a (fTru fa) := by
  refine PT.imp (znc ha he) fun σ H Q ⟨r,G,si,q⟩ => ⟨r,G,si,zah (zag q) fun d q1 v G1 H1 w1 r1 => ?_⟩
  obtain ⟨b,e,q2⟩ := zav q1
  exact ⟨b,zoI w1.ok r1 e,q2 G1 H1 w1⟩
noncomputable abbrev FQ := Rho→Res Bool
noncomputable def fAnd (p q : FQ) : FQ := fun r => (p r).bind fun c => if c = true then q r else .ok false
noncomputable def fOr (p q : FQ) : FQ := fun r => (p r).bind fun c => if c = true then .ok true else q r
noncomputable def fNot (p : FQ) : FQ := fun r => (p r).bind fun c => .ok (! c)
variable {p q : FQ} {rest : List Expr}
theorem zs1 {α : Type} {r : Res α} {q : α→Prop} {x x' : D→Prop} (h : fin r q x) (hx : ∀ e,x e→x' e) : fin r q x' := by
  cases r with
  | ok a => exact h
  | exc e => exact hx e h
  | stuck => exact h
theorem zaB {α : Type} {r : Res α} {σ : L2.St} {G G1 : GH} {H H1 : Hp} {P P' : α→Prop} (h : fin r P (XW X σ G H)) (w : Grow X.K G H G1 H1) (hp : ∀ a,P a→P' a) : fin r P' (XW X σ G1 H1) := zs1 (zah h hp) fun _ x => x.grow w
theorem zob (ha : SQ X g m a p) : SW X g m (.BoolOp .And [a] pos) p := zo2 ha
theorem zhZ (ha : SQ X g m a p) : SW X g m (.BoolOp .Or [a] pos) p := zqO ha
theorem zqN (ha : SQ X g m a p) (hb : SW X g m (.BoolOp .And (b::rest) pos) q) : SW X g m (.BoolOp .And (a::b::rest) pos) (fAnd p q) := by
  refine PW.imp (zqP ha hb) fun σ H Q ⟨r,G,si,k⟩ => ⟨r,G,si,zah (zag k) fun c k1 G1 H1 w1 => ?_⟩
  cases c with
  | true => rw [if_pos rfl] at k1 ⊢; exact ⟨r,G1,si.grow w1,zaB k1 w1 fun b z G' H' w' => z G' H' (w1.trans w')⟩
  | false => rw [if_neg Bool.false_ne_true] at k1 ⊢; exact k1 G1 H1 w1
theorem q_or (ha : SQ X g m a p) (hb : SW X g m (.BoolOp .Or (b::rest) pos) q) : SW X g m (.BoolOp .Or (a::b::rest) pos) (fOr p q) := by
  refine PW.imp (zsC ha hb) fun σ H Q ⟨r,G,si,k⟩ => ⟨r,G,si,zah (zag k) fun c k1 G1 H1 w1 => ?_⟩
  cases c with
  | true => rw [if_pos rfl] at k1 ⊢; exact k1 G1 H1 w1
  | false => rw [if_neg Bool.false_ne_true] at k1 ⊢; exact ⟨r,G1,si.grow w1,zaB k1 w1 fun b z G' H' w' => z G' H' (w1.trans w')⟩
theorem SW.toQ (h : SW X g m e p) : SQ X g m e p := PW.pt h
theorem ze0 (ha : SQ X g m a p) : SQ X g m (.UnaryOp .Not a pos) (fNot p) :=
  PT.imp (zqR ha) fun σ H Q ⟨r,G,si,k⟩ => ⟨r,G,si,zah (zag k) fun c k1 G1 H1 w1 => k1 G1 H1 w1⟩
noncomputable def vAnd (fa fb : FE) : FE := fun r => (fa r).bind fun d => (opt (asB d)).bind fun c => if c = true then fb r else .ok (.bl false)
noncomputable def vOr (fa fb : FE) : FE := fun r => (fa r).bind fun d => (opt (asB d)).bind fun c => if c = true then .ok (.bl true) else fb r
noncomputable def vNot (fa : FE) : FE := fun r => (fa r).bind fun d => (opt (asB d)).bind fun c => .ok (.bl (! c))
theorem zk0 {op} (h : SE X g m a fa) : SE X g m (.BoolOp op [a] pos) fa := zqZ h
theorem zk5 (ha : SE X g m a fa) (hb : SE X g m (.BoolOp .And (b::rest) pos) fb) : SE X g m (.BoolOp .And (a::b::rest) pos) (vAnd fa fb) := by
  refine PE.imp (zq6 ha hb) fun σ H Q ⟨r,G,si,k⟩ => ⟨r,G,si,zah (zag k) fun d k1 v G1 H1 w1 r1 => ?_⟩
  obtain ⟨c,e,k2⟩ := zav (zag k1)
  cases d with
  | bl c' =>
    cases e
    refine ⟨_,r1.bl w1.ok,?_⟩
    cases c with
    | true => rw [if_pos rfl] at k2 ⊢; exact ⟨r,G1,si.grow w1,zaB k2 w1 fun b z v G' H' w' => z v G' H' (w1.trans w')⟩
    | false => rw [if_neg Bool.false_ne_true] at k2 ⊢; exact k2 _ G1 H1 w1 (.scl (.bl _))
  | _ => cases e
theorem zsw (ha : SE X g m a fa) : SE X g m (.UnaryOp .Not a pos) (vNot fa) := by
  refine PE.imp (zq0 ha) fun σ H Q ⟨r,G,si,k⟩ => ⟨r,G,si,zah (zag k) fun d k1 v G1 H1 w1 r1 => ?_⟩
  obtain ⟨c,e,k2⟩ := zav (zag k1)
  cases d with
  | bl c' => cases e; exact ⟨_,r1.bl w1.ok,k2 _ G1 H1 w1 (.scl (.bl _))⟩
  | _ => cases e
noncomputable def fIf (p : FQ) (fa fb : FE) : FE := fun r => (p r).bind fun c => if c = true then fa r else fb r
theorem zqs (hc : SQ X g m c p) (ha : SE X g m a fa) (hb : SE X g m b fb) : SE X g m (.IfExp c a b pos) (fIf p fa fb) := by
  refine PE.imp (znk hc ha hb) fun σ H Q ⟨r,G,si,k⟩ => ⟨r,G,si,zah (zag k) fun c k1 G1 H1 w1 => ?_⟩
  cases c with
  | true => rw [if_pos rfl] at k1 ⊢; exact ⟨r,G1,si.grow w1,zaB k1 w1 fun b z v G' H' w' => z v G' H' (w1.trans w')⟩
  | false => rw [if_neg Bool.false_ne_true] at k1 ⊢; exact ⟨r,G1,si.grow w1,zaB k1 w1 fun b z v G' H' w' => z v G' H' (w1.trans w')⟩
variable {es : List Expr} {fl fr : Rho → Res (List D)}
noncomputable def lNil : Rho→Res (List D) := fun _ => .ok []
noncomputable def zac (fa : FE) (fl : Rho→Res (List D)) : Rho→Res (List D) := fun r => (fa r).bind fun d => (fl r).bind fun ds => .ok (d::ds)
theorem zb4 : SA X g m [] lNil := PA.imp zf3 fun σ H Q ⟨r,G,si,k⟩ => k [] G H (Grow.refl si.gok) .nil
theorem zaV (ha : SE X g m e fa) (hr : SA X g m es fl) (hs : starEach (e::es) X.env = (false,eval e X.env)::starEach es X.env := by rfl) : SA X g m (e::es) (zac fa fl) := by
  refine PA.imp (zdh ha hr hs) fun σ H Q ⟨r,G,si,k⟩ => ⟨r,G,si,zah (zag k) fun d k1 v G1 H1 w1 r1 => ⟨r,G1,si.grow w1,?_⟩⟩
  exact zaB (zag k1) w1 fun ds z vs G2 H2 w2 r2 => z (v::vs) G2 H2 (w1.trans w2) (.cons (r1.mono w2.ge) r2)
theorem zaP : SAB X g m [] lNil := PA.imp zf3 fun σ H Q ⟨r,G,si,k⟩ => k [] G H (Grow.refl si.gok) .nil
theorem zaq (ha : SB X g m e fa) (hr : SAB X g m es fl) (hs : starEach (e::es) X.env = (false,eval e X.env)::starEach es X.env := by rfl) : SAB X g m (e::es) (zac fa fl) := by
  refine PA.imp (zdh ha hr hs) fun σ H Q ⟨r,G,si,k⟩ => ⟨r,G,si,zah (zag k) fun d k1 v G1 H1 w1 r1 => ⟨r,G1,si.grow w1,?_⟩⟩
  exact zaB (zag k1) w1 fun ds z vs G2 H2 w2 r2 => z (v::vs) G2 H2 (w1.trans w2) (.cons (r1.mono w2) r2)
noncomputable def sz (ds : List D) : Option (List D) := if ds.length≤sizeLine then some ds else none
theorem zoN {ds ds' : List D} (h : sz ds = some ds') : ds' = ds∧ds.length≤sizeLine := by
  unfold sz at h; split at h
  · rename_i hl; cases h; exact ⟨rfl,hl⟩
  · cases h
theorem zsr {ds : List D} (h : ds.length≤sizeLine) : sz ds = some ds := if_pos h
noncomputable def mkT (fl : Rho→Res (List D)) : FE := fun r => (fl r).bind fun ds => (opt (sz ds)).bind fun ds => .ok (.tup ds)
noncomputable def mkL (fl : Rho→Res (List D)) : FE := fun r => (fl r).bind fun ds => (opt (sz ds)).bind fun ds => .ok (.lst ds)
theorem zke {x1} (h : SA X g m es fl) : SE X g m (.Tuple es x1 pos) (mkT fl) := by
  refine PE.imp (zqX h) fun σ H Q ⟨r,G,si,k⟩ => ⟨r,G,si,zah (zag k) fun ds k1 vs G1 H1 w1 r1 => ?_⟩
  obtain ⟨ds',e,k2⟩ := zav (zag k1)
  obtain ⟨rfl,hl⟩ := zoN e
  have hlen := Paired.length r1
  refine ⟨by omega,fun p hp => ?_⟩
  exact k2 _ _ _ (w1.trans (Grow.newF (d := .tup ds') w1.ok hp (.tup (.inl zam) r1))) (.ref zaR)
theorem zgA (h : SA X g m es fl) : SO X g m (.List es pos) (mkL fl) := by
  refine PE.imp (zq2 h) fun σ H Q ⟨r,G,si,k⟩ => ⟨r,G,si,zah (zag k) fun ds k1 vs G1 H1 w1 r1 => ?_⟩
  obtain ⟨ds',e,k2⟩ := zav (zag k1)
  obtain ⟨rfl,hl⟩ := zoN e
  have hlen := Paired.length r1
  refine ⟨by omega,fun p hp => ?_⟩
  have hn : H p = none := by
    cases q : H p with
    | none => rfl
    | some o => rw [w1.he _ _ q] at hp; cases hp
  exact k2 p G1 _ (w1.trans (Grow.new w1.ok hp _)) hn ⟨w1.ok.isN hp,.lst zam r1⟩
end
end DL
end
section
namespace DL
open PySem PySem.Spec PyProof.Rows L2
noncomputable def zmN (K : PySem.W.Frag) (r : List V→Hp→VK→Prop) (k : List D→Option D) : Prop := ∀ (G : GH) (H : Hp) (vs : List V) (ds : List D) (d : D) (Q : VK),GOk K G H→Paired (RB K G H) vs ds→k ds = some d →
  (∀ v G' H',Grow K G H G' H'→RG K G' v d→Q v H')→r vs H Q
noncomputable def zsh (K : PySem.W.Frag) (r : List V→Hp→VK→Prop) (k : List D→Option D) : Prop := ∀ (G : GH) (H : Hp) (vs : List V) (ds : List D) (d : D) (Q : VK),GOk K G H→Paired (RB K G H) vs ds→k ds = some d →
  (∀ a G' H',Grow K G H G' H'→H a = none→Own K G' H' a d→Q (.ref a) H')→r vs H Q
noncomputable def fC (fl : Rho→Res (List D)) (k : List D→Option D) : FE := fun r => (fl r).bind fun ds => opt (k ds)
theorem Grow.back {K : PySem.W.Frag} {G G1 : GH} {H H1 : Hp} (w : Grow K G H G1 H1) {a : Addr} (hn : H1 a = none) : H a = none := by
  cases q : H a with
  | none => rfl
  | some o => rw [w.he _ _ q] at hn; cases hn
section
variable {X : Cx} {g : GE} {m : List Md} {e a b c : Expr} {f fa fb fc : FE} {pos p p2 : Pos} {es : List Expr} {fl : Rho → Res (List D)} {x : Str} {id T : String} {R : List V → Hp → VK → Prop} {k : List D → Option D}
theorem s_cb (hk : zmN X.K R k) (h : PE X e (tCB R (tLB X g m fl))) : SE X g m e (fC fl k) := by
  refine PE.imp h fun σ H Q ⟨r,G,si,q⟩ => ⟨r,G,si,zah (zag q) fun ds q1 vs G1 H1 w1 r1 => ?_⟩
  obtain ⟨d,e,q2⟩ := zav q1
  exact hk G1 H1 vs ds d Q w1.ok r1 e fun v G' H' w' z => q2 v G' H' (w1.trans w') z
theorem zqw (hk : zsh X.K R k) (h : PE X e (tCB R (tLB X g m fl))) : SO X g m e (fC fl k) := by
  refine PE.imp h fun σ H Q ⟨r,G,si,q⟩ => ⟨r,G,si,zah (zag q) fun ds q1 vs G1 H1 w1 r1 => ?_⟩
  obtain ⟨d,e,q2⟩ := zav q1
  exact hk G1 H1 vs ds d Q w1.ok r1 e fun v G' H' w' hn z => q2 v G' H' (w1.trans w') (w1.back hn) z
noncomputable def lenD : List D→Option D
  | [.str y] => if y.length≤sizeLine then some (.int y.length) else none
  | [.lst ds] => some (.int ds.length)
  | [.tup ds] => some (.int ds.length)
  | [.dic kvs] => some (.int kvs.length)
  | _ => none
theorem zru {K : PySem.W.Frag} : zmN K (fun xs H Q => (∃ x n,xs = [x]∧LenV K x H n∧Q (.int n) H)∨∃ a kvs,xs = [V.ref a]∧Rd H a (.dK kvs)∧Q (.int kvs.length) H) lenD := by
  intro G H vs ds d Q gk rs e q
  unfold lenD at e
  split at e
  · split at e
    · cases e
      cases rs with
      | cons r t => cases t; exact .inl ⟨_,_,rfl,by rw [r.str gk]; exact ⟨by assumption,rfl⟩,q _ G H (Grow.refl gk) (.scl (.int _))⟩
    · cases e
  · cases e
    cases rs with
    | cons r t =>
      cases t
      obtain ⟨a,xs,rfl,s,r⟩ := r.lst gk
      have := Paired.length r
      exact .inl ⟨_,_,rfl,.inl ⟨xs,s,rfl⟩,q _ G H (Grow.refl gk) (.scl (by rw [this]; exact .int _))⟩
  · cases e
    cases rs with
    | cons r t =>
      cases t
      obtain ⟨a,xs,rfl,s,r⟩ := r.tup gk
      have := Paired.length r
      exact .inl ⟨_,_,rfl,.inr ⟨xs,s,rfl⟩,q _ G H (Grow.refl gk) (.scl (by rw [this]; exact .int _))⟩
  · cases e
    cases rs with
    | cons r t =>
      cases t
      obtain ⟨a,xs,rfl,s,r⟩ := r.dic gk
      have := Paired.length r
      exact .inr ⟨_,_,rfl,s,q _ G H (Grow.refl gk) (.scl (by rw [this]; exact .int _))⟩
  · cases e
theorem zcT (hg : Gl X "len") (hm : X.mg "len" = none) (ha : SAB X g m (e::es) fl) (he : starEach (e::es) X.env = (false,eval e X.env)::starEach es X.env := by rfl) (hpl : (backTo pos (starEach es X.env)).any (·.1) = false := by rfl) :
    SE X g m (.Call (.Name "len" p) (e::es) [] pos) (fC fl lenD) := s_cb zru (zeL (zdC.or znP zmA) hg hm PySem.boot_len ha (by decide) (by decide) he hpl)
noncomputable def zkv : List D→Option D
  | [.lst ds] => some (.lst ds)
  | [.tup ds] => some (.lst ds)
  | _ => none
theorem zpB {K : PySem.W.Frag} : zsh K (fun xs H Q => ∃ p ys,xs = [.ref p]∧(SqL K H p ys∨SqT K H p ys)∧∀ l,H l = none→Q (.ref l) (upd H l (.lst ys))) zkv := by
  intro G H vs ds d Q gk rs e q
  have fin : ∀ {ys : List V} {zs : List D},RGs K G ys zs→(∀ (a : Addr) (G' : GH) (H' : Hp),Grow K G H G' H'→H a = none→Own K G' H' a (.lst zs)→Q (.ref a) H')→∀ l,H l = none→Q (.ref l) (upd H l (.lst ys)) :=
    fun r q l hl => q l G _ (Grow.new gk hl _) hl ⟨gk.isN hl,.lst zam r⟩
  unfold zkv at e
  split at e
  · cases e
    cases rs with
    | cons r t =>
      cases t
      obtain ⟨a,xs,rfl,s,r⟩ := r.lst gk
      exact ⟨a,xs,rfl,.inl s,fin r q⟩
  · cases e
    cases rs with
    | cons r t =>
      cases t
      obtain ⟨a,xs,rfl,s,r⟩ := r.tup gk
      exact ⟨a,xs,rfl,.inr s,fin r q⟩
  · cases e
theorem zrl (hg : Gl X "list") (hm : X.mg "list" = none) (ha : SAB X g m (e::es) fl) (he : starEach (e::es) X.env = (false,eval e X.env)::starEach es X.env := by rfl) (hpl : (backTo pos (starEach es X.env)).any (·.1) = false := by rfl) :
    SO X g m (.Call (.Name "list" p) (e::es) [] pos) (fC fl zkv) := zqw zpB (zdH zio hg hm rfl ha (by decide) (by decide) he hpl)
noncomputable def tupD : List D→Option D
  | [.lst ds] => some (.tup ds)
  | [.tup ds] => some (.tup ds)
  | _ => none
theorem zp9 {K : PySem.W.Frag} : zmN K (fun xs H Q => ∃ p ys,xs = [.ref p]∧((SqL K H p ys∧∀ l,H l = none→Q (.ref l) (upd H l (.tup ys)))∨(SqT K H p ys∧Q (.ref p) H))) tupD := by
  intro G H vs ds d Q gk rs e q
  unfold tupD at e
  split at e
  · cases e
    cases rs with
    | cons r t =>
      cases t
      obtain ⟨a,xs,rfl,s,r⟩ := r.lst gk
      exact ⟨a,xs,rfl,.inl ⟨s,fun l hl => q _ _ _ (Grow.newF gk hl (.tup (.inl zam) r)) (.ref zaR)⟩⟩
  · cases e
    cases rs with
    | cons r t =>
      cases t
      rcases r with r | ⟨a,_,o⟩
      · obtain ⟨a,xs,rfl,s,r'⟩ := r.tup gk
        exact ⟨a,xs,rfl,.inr ⟨s,q _ G H (Grow.refl gk) r⟩⟩
      · cases o.ob
  · cases e
theorem zem (hg : Gl X "tuple") (hm : X.mg "tuple" = none) (ha : SAB X g m (e::es) fl) (he : starEach (e::es) X.env = (false,eval e X.env)::starEach es X.env := by rfl) (hpl : (backTo pos (starEach es X.env)).any (·.1) = false := by rfl) :
    SE X g m (.Call (.Name "tuple" p) (e::es) [] pos) (fC fl tupD) := s_cb zp9 (zdH zhs hg hm rfl ha (by decide) (by decide) he hpl)
noncomputable def ixD : D→D→Option D
  | .lst ds,.int i => atI ds i
  | .tup ds,.int i => atI ds i
  | .str z,.int i => if z.length≤sizeLine then (atI z.cps.toList i).map fun c => .str ⟨#[c]⟩ else none
  | _,_ => none
theorem zr9 {K : PySem.W.Frag} {G : GH} {xs : List V} {ds : List D} {i : Int} {d : D} (r : RGs K G xs ds) (h : atI ds i = some d) : ∃ v,atI xs i = some v∧RG K G v d := by
  unfold atI at h ⊢
  rw [Paired.length r]
  cases e : ixN ds.length i with
  | none => rw [e] at h; cases h
  | some j =>
    rw [e] at h
    exact Paired.get r h
theorem zpC {K : PySem.W.Frag} : OpD K (rIx K) ixD := by
  intro G H v1 v2 d1 d2 d Q gk r1 r2 e q
  unfold ixD at e
  split at e
  · obtain ⟨a,xs,rfl,s,r⟩ := r1.lst gk
    obtain ⟨v,ev,rv⟩ := zr9 r e
    exact .inl ⟨a,xs,_,v,rfl,r2.int gk,s,ev,q v G H (Grow.refl gk) rv⟩
  · obtain ⟨a,xs,rfl,s,r⟩ := r1.tup gk
    obtain ⟨v,ev,rv⟩ := zr9 r e
    exact .inr (.inl ⟨a,xs,_,v,rfl,r2.int gk,s,ev,q v G H (Grow.refl gk) rv⟩)
  · split at e
    · rename_i z i hz
      cases ec : atI z.cps.toList i with
      | none => rw [ec] at e; cases e
      | some c =>
        rw [ec] at e; cases e
        exact .inr (.inr ⟨z,i,c,r1.str gk,r2.int gk,hz,ec,q _ G H (Grow.refl gk) (.scl (.str _))⟩)
    · cases e
  · cases e
noncomputable def cutL {α : Type} (xs : List α) (lo hi : Option Int) : List α := (xs.drop (HT.sIx xs.length 0 lo)).take (HT.sIx xs.length xs.length hi - HT.sIx xs.length 0 lo)
theorem znM {α β : Type} {F : α→β→Prop} {xs : List α} {ds : List β} (r : Paired F xs ds) (lo hi : Option Int) : Paired F (cutL xs lo hi) (cutL ds lo hi) := by
  unfold cutL
  rw [Paired.length r]
  exact Paired.tk _ (Paired.dr _ r)
noncomputable abbrev FP := Rho→Res (Option Int)
noncomputable def tP (X : Cx) (g : GE) (m : List Md) (f : FP) : TO := fun σ H Q => ∃ r G,SI X g m r G σ H∧fin (f r) (fun o => ∀ G' H',Grow X.K G H G' H'→Q o H') (XW X σ G H)
noncomputable def SP1 (X : Cx) (g : GE) (m : List Md) (e : Option Expr) (f : FP) : Prop := PO X e (tP X g m f)
theorem PO.imp {X : Cx} {e : Option Expr} {t t' : TO} (h : PO X e t) (i : ∀ σ H Q,t' σ H Q→t σ H Q) : PO X e t' := fun pins s σ H Q I q => h pins s σ H Q I (i σ H Q q)
noncomputable def asI : D→Option Int
  | .int i => some i
  | _ => none
noncomputable def zd5 (f : FE) : FP := fun r => (f r).bind fun d => (opt (asI d)).bind fun i => .ok (some i)
theorem zfk : SP1 X g m none fun _ => .ok none := PO.imp zo7 fun σ H Q ⟨r,G,si,q⟩ => q G H (Grow.refl si.gok)
theorem zdI (h : SB X g m e f) : SP1 X g m (some e) (zd5 f) := by
  refine PO.imp (zo6 h) fun σ H Q ⟨r,G,si,q⟩ => ⟨r,G,si,zah (zag q) fun d q1 v G1 H1 w1 r1 => ?_⟩
  obtain ⟨i,e,q2⟩ := zav (zag q1)
  cases d with
  | int j => cases e; exact ⟨_,r1.int w1.ok,q2 G1 H1 w1⟩
  | _ => cases e
noncomputable def slD (d : D) (lo hi : Option Int) : Option D := match d with
  | .tup ds => if HT.sIx ds.length 0 lo = 0∧HT.sIx ds.length ds.length hi = ds.length then none else some (.tup (cutL ds lo hi))
  | .lst ds => some (.lst (cutL ds lo hi))
  | _ => none
noncomputable def fSl (fa : FE) (fl fh : FP) : FE := fun r => (fa r).bind fun d => (fl r).bind fun lo => (fh r).bind fun hi => opt (slD d lo hi)
theorem zqi {R : V→Option Int→Option Int→Hp→Prop} {fl fh : FP} {r : Rho} {G : GH} {σ : L2.St} {H : Hp} {q : D→Prop} (si : SI X g m r G σ H) (h : fin (fSl fa fl fh r) q (XW X σ G H))
    (hk : ∀ d lo hi v G2 H2 d',Grow X.K G H G2 H2→RB X.K G2 H2 v d→slD d lo hi = some d'→q d'→R v lo hi H2) :
    tB X g m fa σ H fun x H1 => tP X g m fl σ H1 fun l H2 => tP X g m fh σ H2 fun u H3 => R x l u H3 := by
  refine ⟨r,G,si,zah (zag h) fun d h1 v G1 H1 w1 r1 => ⟨r,G1,si.grow w1,zaB (zag h1) w1 fun lo h2 G2 H2 w2 => ⟨r,G2,(si.grow w1).grow w2,?_⟩⟩⟩
  refine zaB (zag h2) (w1.trans w2) fun hi h3 G3 H3 w3 => ?_
  obtain ⟨d',e,h4⟩ := zav h3
  exact hk d lo hi v G3 H3 d' ((w1.trans w2).trans w3) ((r1.mono w2).mono w3) e h4
theorem zqp {lo hi : Option Expr} {fl fh : FP} (he : SB X g m e f) (hl : SP1 X g m lo fl) (hu : SP1 X g m hi fh) : SE X g m (.Subscript e (.Slice lo hi none p2) pos) (fSl f fl fh) := by
  refine PE.imp (zjD (SlR.or zkW zn4) he hl hu) fun σ H Q ⟨r,G,si,q⟩ => ?_
  refine zqi si q fun d lo hi v G2 H2 d' w r1 e q2 => ?_
  cases d with
  | tup ds =>
    obtain ⟨a,xs,rfl,s,r⟩ := r1.tup w.ok
    have e' : (if HT.sIx ds.length 0 lo = 0∧HT.sIx ds.length ds.length hi = ds.length then none else some (D.tup (cutL ds lo hi))) = some d' := e
    by_cases hw : HT.sIx ds.length 0 lo = 0∧HT.sIx ds.length ds.length hi = ds.length
    · rw [if_pos hw] at e'; cases e'
    rw [if_neg hw] at e'
    cases e'
    rw [← Paired.length r] at hw
    refine .inr ⟨a,xs,rfl,s,hw,fun p hp => ?_⟩
    exact q2 _ _ _ (w.trans (Grow.newF w.ok hp (.tup (.inl zam) (znM r lo hi)))) (.ref zaR)
  | lst ds =>
    cases e
    obtain ⟨a,xs,rfl,s,r⟩ := r1.lst w.ok
    exact .inl ⟨a,xs,rfl,s,fun p hp => q2 _ _ _ (w.trans (Grow.newF w.ok hp (.lst (.inl zam) (znM r lo hi)))) (.ref zaR)⟩
  | _ => cases e
end
end DL
end
section
namespace DL
open PySem PySem.Spec PyProof.Rows L2
inductive Out where
  | nx (r : Rho) | rt (d : D) | bk (r : Rho) | ct (r : Rho) | exc (x : D) (r : Rho) | stuck
noncomputable abbrev FS := Rho→Out
noncomputable def Gle (G G' : GH) : Prop := ∀ a d,G a = some d→G' a = some d
theorem Gle.refl (G : GH) : Gle G G := fun _ _ e => e
theorem Gle.trans {G G1 G2 : GH} (a : Gle G G1) (b : Gle G1 G2) : Gle G G2 := fun x d e => b x d (a x d e)
noncomputable def forget (m : List Md) (r : Rho) : Rho := List.zipWith (fun md o => if md = Md.sh then o else none) m r
noncomputable def zgE (m : List Md) : List Md := m.map fun _ => Md.sh
theorem zc4 {m : List Md} {r : Rho} {i : Nat} {d : D} (h : (forget m r)[i]? = some (some d)) : r[i]? = some (some d)∧m[i]? = some .sh := by
  unfold forget at h
  rw [List.getElem?_zipWith] at h
  cases e1 : m[i]? with
  | none => rw [e1] at h; cases h
  | some md =>
    cases e2 : r[i]? with
    | none => rw [e1,e2] at h; cases h
    | some o =>
      rw [e1,e2] at h
      have h' : (if md = Md.sh then o else none) = some d := Option.some.inj h
      split at h'
      · rename_i hm; subst hm; rw [h']; exact ⟨rfl,rfl⟩
      · cases h'
section
variable {X : Cx} {g : GE} {m : List Md} {r : Rho} {G : GH} {st : L2.St} {H : Hp}
theorem SI.forget (s : SI X g m r G st H) : SI X g (zgE m) (forget m r) G st H where
  gok := s.gok
  old := s.old
  ge := s.ge
  gf := s.gf
  lm := by rw [zgE,List.length_map]; exact s.lm
  lr := by rw [DL.forget,List.length_zipWith,s.lm,s.lr,Nat.min_self]
  sh := fun i d h _ => s.sh i d (zc4 h).1 (zc4 h).2
  ow := fun i d h hm => by rw [zgE,List.getElem?_map,(zc4 h).2] at hm; cases hm
  bw := fun i d h hm => by rw [zgE,List.getElem?_map,(zc4 h).2] at hm; cases hm
  dis := fun i j a d e _ h _ hm => by rw [zgE,List.getElem?_map,(zc4 h).2] at hm; cases hm
  lk := fun i o _ hm => by rw [zgE,List.getElem?_map] at hm; cases q : m[i]? <;> rw [q] at hm <;> cases hm
theorem SI.set (s : SI X g m r G st H) (i : Nat) {v : V} {d : D} (hv : RG X.K G v d) : SI X g (m.set i .sh) (r.set i (some d)) G (st.set i (some v)) H where
  gok := s.gok
  old := s.old
  ge := s.ge
  gf := s.gf
  lm := by simp [s.lm]
  lr := by simp [s.lr]
  sh := fun j e h hm => by
    by_cases hij : i = j
    · subst hij
      have hl : i < r.length := by
        have := (List.getElem?_eq_some_iff.mp h).1
        simpa using this
      rw [List.getElem?_set_self hl] at h
      cases h
      exact ⟨v,by rw [List.getElem?_set_self (by rw [← s.lr]; exact hl)],hv⟩
    · rw [List.getElem?_set_ne hij] at h hm
      rw [List.getElem?_set_ne hij]
      exact s.sh j e h hm
  ow := fun j e h hm => by
    by_cases hij : i = j
    · subst hij
      have hl : i < m.length := by
        have := (List.getElem?_eq_some_iff.mp hm).1
        simpa using this
      rw [List.getElem?_set_self hl] at hm; cases hm
    · rw [List.getElem?_set_ne hij] at h hm
      rw [List.getElem?_set_ne hij]
      exact s.ow j e h hm
  bw := fun j e h hm => by
    by_cases hij : i = j
    · subst hij
      have hl : i < m.length := by
        have := (List.getElem?_eq_some_iff.mp hm).1
        simpa using this
      rw [List.getElem?_set_self hl] at hm; cases hm
    · rw [List.getElem?_set_ne hij] at h hm
      rw [List.getElem?_set_ne hij]
      exact s.bw j e h hm
  dis := fun j k a d1 d2 hjk h1 h2 hm hm' q1 q2 => by
    have hij : i≠j := by
      rintro rfl
      have hl : i < m.length := by
        have := (List.getElem?_eq_some_iff.mp hm).1
        simpa using this
      rw [List.getElem?_set_self hl] at hm; cases hm
    have hik : i≠k := by
      rintro rfl
      have hl : i < m.length := by
        have := (List.getElem?_eq_some_iff.mp h2).1
        rw [List.length_set,s.lr,← s.lm] at this; exact this
      rw [List.getElem?_set_self hl] at hm'; cases hm'
    rw [List.getElem?_set_ne hij] at h1 hm q1
    rw [List.getElem?_set_ne hik] at h2 hm' q2
    exact s.dis j k a d1 d2 hjk h1 h2 hm hm' q1 q2
  lk := fun j o hj hm => by
    have hij : i≠j := by
      rintro rfl
      have hl : i < m.length := by
        have := (List.getElem?_eq_some_iff.mp hm).1
        simpa using this
      rw [List.getElem?_set_self hl] at hm; cases hm
    rw [List.getElem?_set_ne hij] at hm
    have := s.lk j o hj hm
    exact ⟨by rw [List.getElem?_set_ne hij]; exact this.1,fun d h => this.2 d (by rw [List.getElem?_set_ne hij] at h; exact h)⟩
theorem SI.setO (s : SI X g m r G st H) (i : Nat) {a : Addr} {d : D} (ho : Own X.K G H a d) (h0 : g.h0 a = none) (hx : ∀ (j : Nat) (b : Addr) (e : D),r[j]? = some (some e)→m[j]? = some Md.ow→st[j]? = some (some (V.ref b))→b≠a) :
    SI X g (m.set i .ow) (r.set i (some d)) G (st.set i (some (V.ref a))) H where
  gok := s.gok
  old := s.old
  ge := s.ge
  gf := s.gf
  lm := by simp [s.lm]
  lr := by simp [s.lr]
  sh := fun j e h hm => by
    by_cases hij : i = j
    · subst hij
      have hl : i < m.length := by
        have := (List.getElem?_eq_some_iff.mp hm).1
        simpa using this
      rw [List.getElem?_set_self hl] at hm; cases hm
    · rw [List.getElem?_set_ne hij] at h hm
      rw [List.getElem?_set_ne hij]
      exact s.sh j e h hm
  ow := fun j e h hm => by
    by_cases hij : i = j
    · subst hij
      have hl : i < r.length := by
        have := (List.getElem?_eq_some_iff.mp h).1
        simpa using this
      rw [List.getElem?_set_self hl] at h
      cases h
      exact ⟨a,by rw [List.getElem?_set_self (by rw [← s.lr]; exact hl)],ho,h0⟩
    · rw [List.getElem?_set_ne hij] at h hm
      rw [List.getElem?_set_ne hij]
      exact s.ow j e h hm
  bw := fun j e h hm => by
    by_cases hij : i = j
    · subst hij
      have hl : i < m.length := by
        have := (List.getElem?_eq_some_iff.mp hm).1
        simpa using this
      rw [List.getElem?_set_self hl] at hm; cases hm
    · rw [List.getElem?_set_ne hij] at h hm
      rw [List.getElem?_set_ne hij]
      exact s.bw j e h hm
  dis := fun j k b d1 d2 hjk h1 h2 hm hm' q1 q2 => by
    by_cases hij : i = j
    · subst hij
      rw [List.getElem?_set_ne hjk] at h2 hm' q2
      have hl : i < st.length := by
        have := (List.getElem?_eq_some_iff.mp q1).1
        simpa using this
      rw [List.getElem?_set_self hl] at q1
      have e : a = b := by injection q1 with q1; injection q1 with q1; injection q1
      exact hx k b d2 h2 hm' q2 e.symm
    · by_cases hik : i = k
      · subst hik
        rw [List.getElem?_set_ne hij] at h1 hm q1
        have hl : i < st.length := by
          have := (List.getElem?_eq_some_iff.mp q2).1
          simpa using this
        rw [List.getElem?_set_self hl] at q2
        have e : a = b := by injection q2 with q2; injection q2 with q2; injection q2
        exact hx j b d1 h1 hm q1 e.symm
      · rw [List.getElem?_set_ne hij] at h1 hm q1
        rw [List.getElem?_set_ne hik] at h2 hm' q2
        exact s.dis j k b d1 d2 hjk h1 h2 hm hm' q1 q2
  lk := fun j o hj hm => by
    have hij : i≠j := by
      rintro rfl
      have hl : i < m.length := by
        have := (List.getElem?_eq_some_iff.mp hm).1
        simpa using this
      rw [List.getElem?_set_self hl] at hm; cases hm
    rw [List.getElem?_set_ne hij] at hm
    have := s.lk j o hj hm
    exact ⟨by rw [List.getElem?_set_ne hij]; exact this.1,fun d h => this.2 d (by rw [List.getElem?_set_ne hij] at h; exact h)⟩
theorem SI.other (s : SI X g m r G st H) {p : Addr} (hp : G p = none) (h0 : g.h0 p = none) (hm : ∀ (i : Nat),m[i]?≠some Md.ow) (o : HO) : SI X g m r G st (upd H p o) where
  gok := fun b e h => (s.gok b e h).mono (fun _ _ z => z) fun o' q => by rw [zay (by rintro rfl; rw [hp] at h; cases h)]; exact q
  old := fun b o' h => by rw [zay (by rintro rfl; rw [h0] at h; cases h)]; exact s.old b o' h
  ge := s.ge
  gf := s.gf
  lm := s.lm
  lr := s.lr
  sh := s.sh
  ow := fun i d _ h => absurd h (hm i)
  bw := fun i d h1 h2 => by
    obtain ⟨v,h3,h4⟩ := s.bw i d h1 h2
    refine ⟨v,h3,?_⟩
    rcases h4 with h4 | ⟨a,rfl,h4,h5⟩
    · exact .inl h4
    · have ha : a≠p := by rintro rfl; exact h5 h0
      exact .inr ⟨a,rfl,⟨h4.un,h4.ob.mono (fun _ _ z => z) fun o' z => by rw [zay ha]; exact z⟩,h5⟩
  dis := fun i j a d e _ _ _ h => absurd h (hm i)
  lk := s.lk
theorem SI.less (s : SI X g m r G st H) {r' : Rho} (hl : r'.length = r.length) (h : ∀ (i : Nat) d,r'[i]? = some (some d)→r[i]? = some (some d)) : SI X g m r' G st H :=
  ⟨s.gok,s.old,s.ge,s.gf,s.lm,hl.trans s.lr,fun i d a b => s.sh i d (h i d a) b,fun i d a b => s.ow i d (h i d a) b,fun i d a b => s.bw i d (h i d a) b,fun i j a d e n p q x y => s.dis i j a d e n (h i d p) (h j e q) x y,fun i o hi hm => by
    have := s.lk i o hi hm
    exact ⟨this.1,fun d hd => this.2 d (h i d hd)⟩⟩
theorem SI.held (s : SI X g m r G st H) {j : Nat} {b : Addr} {e : D} (h : r[j]? = some (some e)) (hm : m[j]? = some .ow) (hs : st[j]? = some (some (V.ref b))) : H b≠none := by
  obtain ⟨a,h1,h2,_⟩ := s.ow j e h hm
  rw [hs] at h1
  injection h1 with h1; injection h1 with h1; injection h1 with h1
  rw [h1]; exact h2.ob.isS
theorem SI.setN (s : SI X g m r G st H) {G' : GH} {H' : Hp} (w : Grow X.K G H G' H') (i : Nat) {a : Addr} {d : D} (hn : H a = none) (ho : Own X.K G' H' a d) : SI X g (m.set i .ow) (r.set i (some d)) G' (st.set i (some (V.ref a))) H' := by
  refine (s.grow w).setO i ho ?_ fun j b e h1 h2 h3 => ?_
  · cases q : g.h0 a with
    | none => rfl
    | some o => rw [s.old _ _ q] at hn; cases hn
  · rintro rfl
    exact s.held h1 h2 h3 hn
theorem SI.mut (s : SI X g m r G st H) {i : Nat} {d : D} (hm : m[i]? = some .ow) (hd : r[i]? = some (some d)) :
    ∃ a,st[i]? = some (some (V.ref a))∧Own X.K G H a d∧∀ (o' : HO) (d' : D),OwnO X.K G (upd H a o') a d'→SI X g m (r.set i (some d')) G st (upd H a o') := by
  obtain ⟨a,h1,h2,h3⟩ := s.ow i d hd hm
  have hl : i < r.length := (List.getElem?_eq_some_iff.mp hd).1
  refine ⟨a,h1,h2,fun o' d' ob => ?_⟩
  have oth : ∀ (j : Nat) (b : Addr) (e : D),j≠i→r[j]? = some (some e)→m[j]? = some .ow→st[j]? = some (some (V.ref b))→b≠a := fun j b e hj q1 q2 q3 z => by
    subst z
    exact s.dis i j b d e (Ne.symm hj) hd q1 hm q2 h1 q3
  refine ⟨fun b e h => ?_,fun b o h => ?_,s.ge,s.gf,s.lm,by simp [s.lr],?_,?_,?_,?_,fun j o hj hm' => ?_⟩
  · have hb : b≠a := by rintro rfl; rw [h2.un] at h; cases h
    exact (s.gok b e h).mono (fun _ _ z => z) fun o q => by rw [zay hb]; exact q
  · have hb : b≠a := by rintro rfl; rw [h3] at h; cases h
    rw [zay hb]; exact s.old b o h
  · intro j e h hm'
    have hij : i≠j := by rintro rfl; rw [hm] at hm'; cases hm'
    rw [List.getElem?_set_ne hij] at h
    exact s.sh j e h hm'
  · intro j e h hm'
    by_cases hij : i = j
    · subst hij
      rw [List.getElem?_set_self hl] at h; cases h
      exact ⟨a,h1,⟨h2.un,ob⟩,h3⟩
    · rw [List.getElem?_set_ne hij] at h
      obtain ⟨b,q1,q2,q3⟩ := s.ow j e h hm'
      have hb := oth j b e (Ne.symm hij) h hm' q1
      exact ⟨b,q1,⟨q2.un,q2.ob.mono (fun _ _ z => z) fun o z => by rw [zay hb]; exact z⟩,q3⟩
  · intro j e h hm'
    have hij : i≠j := by rintro rfl; rw [hm] at hm'; cases hm'
    rw [List.getElem?_set_ne hij] at h
    obtain ⟨v,q1,q2⟩ := s.bw j e h hm'
    refine ⟨v,q1,?_⟩
    rcases q2 with q2 | ⟨b,rfl,q2,q3⟩
    · exact .inl q2
    · have hb : b≠a := by rintro rfl; exact q3 h3
      exact .inr ⟨b,rfl,⟨q2.un,q2.ob.mono (fun _ _ z => z) fun o z => by rw [zay hb]; exact z⟩,q3⟩
  · have bound : ∀ (j : Nat) e,(r.set i (some d'))[j]? = some (some e)→∃ e',r[j]? = some (some e') := fun j e h => by
      by_cases hij : i = j
      · subst hij; exact ⟨d,hd⟩
      · rw [List.getElem?_set_ne hij] at h; exact ⟨e,h⟩
    intro j k b d1 d2 hjk q1 q2 p1 p2 z1 z2
    obtain ⟨e1,q1⟩ := bound j d1 q1
    obtain ⟨e2,q2⟩ := bound k d2 q2
    exact s.dis j k b e1 e2 hjk q1 q2 p1 p2 z1 z2
  · have hij : i≠j := by rintro rfl; rw [hm] at hm'; cases hm'
    have := s.lk j o hj hm'
    exact ⟨this.1,fun d'' h => this.2 d'' (by rw [List.getElem?_set_ne hij] at h; exact h)⟩
end
noncomputable def RV (ro : Bool) (K : PySem.W.Frag) (H0 : Hp) (G : GH) (H : Hp) (v : V) (d : D) : Prop := match ro with
  | false => RG K G v d
  | true => (∃ a,v = .ref a∧H0 a = none∧Own K G H a d)∨(d = .non∧v = .non)
noncomputable def oTo (X : Cx) (g : GE) (ro : Bool) (m' mb : List Md) (G : GH) (D : Ends) : Out→Prop
  | .nx r' => ∀ σ' G' H',Gle G G'→SI X g m' r' G' σ' H'→D.nx σ' H'
  | .rt d => ∀ v G' H',Grow X.K g.gh g.h0 G' H'→RV ro X.K g.h0 G' H' v d→D.rt v H'
  | .bk r' => ∀ σ' G' H',Gle G G'→SI X g mb r' G' σ' H'→D.bk σ' H'
  | .ct r' => ∀ σ' G' H',Gle G G'→SI X g mb r' G' σ' H'→D.ct σ' H'
  | .exc x r' => ∀ pins e s' σ' G' H',Gle G G'→SI X g (zgE m') r' G' σ' H'→Inv X pins σ' H' s'→ExV X G' H' e x→X.xe e s'
  | .stuck => False
noncomputable def tS (X : Cx) (g : GE) (ro : Bool) (m m' mb : List Md) (f : FS) : TS := fun D σ H => ∃ r G,SI X g m r G σ H∧oTo X g ro m' mb G D (f r)
noncomputable def SS (X : Cx) (g : GE) (ro : Bool) (mb m : List Md) (st : Stmt) (f : FS) (m' : List Md) : Prop := m'.length = m.length∧PS X st (tS X g ro m m' mb f)
noncomputable def SSs (X : Cx) (g : GE) (ro : Bool) (mb m : List Md) (st : List Stmt) (f : FS) (m' : List Md) : Prop := m'.length = m.length∧PSs X st (tS X g ro m m' mb f)
theorem zgo {m m' : List Md} (h : m'.length = m.length) : zgE m' = zgE m := by
  unfold zgE
  rw [List.map_const',List.map_const',h]
theorem oTo.x {X : Cx} {g : GE} {ro : Bool} {m m' mb : List Md} {r : Rho} {G : GH} {D : Ends} {σ : L2.St} {H : Hp} {x : DL.D} (h : oTo X g ro m' mb G D (.exc x (forget m r))) (si : SI X g m r G σ H) (hl : m'.length = m.length) : XW X σ G H x :=
  fun pins e s' G' H' w I ex => h pins e s' σ G' H' w.ge (by rw [zgo hl]; exact (si.grow w).forget) I ex
section
variable {X : Cx} {g : GE} {ro : Bool} {m m' m1 mb : List Md} {e a b c tg : Expr} {f fa fb fc : FE} {p : FQ} {pos pos' : Pos} {st : Stmt} {sts sts' : List Stmt} {s1 s2 : FS}
theorem oTo.gle {G G1 : GH} {D : Ends} {o : Out} (h : oTo X g ro m' mb G D o) (w : Gle G G1) : oTo X g ro m' mb G1 D o := by
  cases o with
  | nx r' => exact fun σ' G' H' q si => h σ' G' H' (w.trans q) si
  | rt d => exact h
  | bk r' => exact fun σ' G' H' q si => h σ' G' H' (w.trans q) si
  | ct r' => exact fun σ' G' H' q si => h σ' G' H' (w.trans q) si
  | exc x r' => exact fun pins e s' σ' G' H' q => h pins e s' σ' G' H' (w.trans q)
  | stuck => exact h
noncomputable def seqF (s1 s2 : FS) : FS := fun r => match s1 r with
  | .nx r' => s2 r'
  | o => o
noncomputable def zak : FS := fun r => .nx r
theorem zaf : SSs X g ro mb m [] zak m := ⟨rfl,PSs.imp zo5 fun D σ H ⟨r,G,si,q⟩ => q σ G H (Gle.refl G) si⟩
theorem zaa (h1 : SS X g ro mb m st s1 m1) (h2 : SSs X g ro mb m1 sts s2 m') : SSs X g ro mb m (st::sts) (seqF s1 s2) m' := by
  refine ⟨h2.1.trans h1.1,PSs.imp (znd h1.2 h2.2) fun D σ H ⟨r,G,si,q⟩ => ⟨r,G,si,?_⟩⟩
  unfold seqF at q
  cases e : s1 r with
  | nx r' =>
    rw [e] at q
    exact fun σ' G' H' w si' => ⟨r',G',si',oTo.gle q w⟩
  | rt d => rw [e] at q; exact q
  | bk r' => rw [e] at q; exact q
  | ct r' => rw [e] at q; exact q
  | exc x r' => rw [e] at q; exact fun pins e s' σ' G' H' w si' => q pins e s' σ' G' H' w (by rw [zgo h2.1]; exact si')
  | stuck => rw [e] at q; exact q
theorem zhd : SS X g ro mb m st (fun _ => .stuck) m := ⟨rfl,PS.imp znf fun D σ H ⟨r,G,si,q⟩ => q⟩
theorem zm0 (i : Nat) (hi : m[i]? = some .ow) (h : SS X g ro mb (m.set i .sh) st s1 m') : SS X g ro mb m st s1 m' := by
  refine ⟨h.1.trans (by simp),fun pins s σ H D I ⟨r,G,si,q⟩ => ?_⟩
  rcases si.frz i hi with ⟨G',le,si'⟩ | ⟨a,z⟩
  · exact h.2 pins s σ H D I ⟨r,G',si',oTo.gle q le⟩
  · obtain ⟨ob,I2⟩ := Inv.fast I a
    obtain ⟨G',le,si'⟩ := z ob
    exact h.2 pins s σ _ D I2 ⟨r,G',si',oTo.gle q le⟩
noncomputable def onE {α : Type} (m : List Md) (r : Rho) (x : Res α) (k : α→Out) : Out := match x with
  | .ok a => k a
  | .exc e => .exc e (forget m r)
  | .stuck => .stuck
@[simp] theorem onE_ok {α : Type} (m : List Md) (r : Rho) (a : α) (k : α→Out) : onE m r (.ok a) k = k a := rfl
theorem zbU {α : Type} {x : Res α} {k : α→Out} {r : Rho} {G : GH} {D : Ends} {σ : L2.St} {H : Hp} (si : SI X g m r G σ H) (hl : m'.length = m.length) (h : oTo X g ro m' mb G D (onE m r x k)) : fin x (fun a => oTo X g ro m' mb G D (k a)) (XW X σ G H) := by
  cases x with
  | ok a => exact h
  | exc e => exact oTo.x h si hl
  | stuck => exact h
noncomputable def setF (m : List Md) (i : Nat) (f : FE) : FS := fun r => onE m r (f r) fun d => .nx (r.set i (some d))
theorem zbm (i : Nat) {x : Str} (hN : X.N.Nodup) (hi : X.N[i]? = some x) (hx : Loc X.env.scope x) (he : SE X g m e f) (hs : swapsWith e (some (.Name x pos')) pos.line X.env = pure false := by rfl)
    (hf : X.fn x = true∨X.env.scope.names.lookup x = some .local := by first | exact .inl rfl | exact .inr rfl | assumption) : SS X g ro mb m (.Assign [.Name x pos'] e pos) (setF m i f) (m.set i .sh) := by
  have hl : (m.set i .sh).length = m.length := by simp
  refine ⟨hl,PS.imp (zof hN hi hx he hs hf) fun D σ H ⟨r,G,si,q⟩ => ⟨r,G,si,?_⟩⟩
  exact zah (zbU si hl q) fun d q v G' H' w rv => q _ G' H' w.ge ((si.grow w).set i rv)
theorem zcq (i : Nat) {x : Str} (hN : X.N.Nodup) (hi : X.N[i]? = some x) (hx : Loc X.env.scope x) (he : SO X g m e f) (hs : swapsWith e (some (.Name x pos')) pos.line X.env = pure false := by rfl)
    (hf : X.fn x = true∨X.env.scope.names.lookup x = some .local := by first | exact .inl rfl | exact .inr rfl | assumption) : SS X g ro mb m (.Assign [.Name x pos'] e pos) (setF m i f) (m.set i .ow) := by
  have hl : (m.set i .ow).length = m.length := by simp
  refine ⟨hl,PS.imp (zof hN hi hx he hs hf) fun D σ H ⟨r,G,si,q⟩ => ⟨r,G,si,?_⟩⟩
  exact zah (zbU si hl q) fun d q a G' H' w hn ho => q _ G' H' w.ge (si.setN w i hn ho)
noncomputable def zkG (m : List Md) (f : FE) : FS := fun r => onE m r (f r) fun _ => .nx r
theorem zk4 (he : SE X g m e f) (hs : swapsWith e none pos.line X.env = pure false := by rfl) : SS X g ro mb m (.Expr e pos) (zkG m f) m :=
  ⟨rfl,PS.imp (zlm he hs) fun D σ H ⟨r,G,si,q⟩ => ⟨r,G,si,zah (zbU si rfl q) fun d q v G' H' w _ => q σ G' H' w.ge (si.grow w)⟩⟩
noncomputable def retF (m : List Md) (f : FE) : FS := fun r => onE m r (f r) fun d => .rt d
theorem zaO (he : SE X g m e f) : SS X g false mb m (.Return (some e) pos) (retF m f) m :=
  ⟨rfl,PS.imp (zqS he) fun D σ H ⟨r,G,si,q⟩ => ⟨r,G,si,zah (zbU si rfl q) fun d q v G' H' w rv => q v G' H' (si.grow w).grown rv⟩⟩
noncomputable def ifF (m : List Md) (p : FQ) (s1 s2 : FS) : FS := fun r => onE m r (p r) fun c => if c = true then s1 r else s2 r
theorem s_if (hc : SQ X g m c p) (h1 : SSs X g ro mb m sts s1 m') (h2 : SSs X g ro mb m sts' s2 m') : SS X g ro mb m (.If c sts sts' pos) (ifF m p s1 s2) m' := by
  refine ⟨h1.1,PS.imp (zsD hc h1.2 h2.2) fun D σ H ⟨r,G,si,q⟩ => ⟨r,G,si,zah (zbU si h1.1 q) fun c q G' H' w => ?_⟩⟩
  cases c with
  | true => rw [if_pos rfl] at q ⊢; exact ⟨r,G',si.grow w,oTo.gle q w.ge⟩
  | false => rw [if_neg Bool.false_ne_true] at q ⊢; exact ⟨r,G',si.grow w,oTo.gle q w.ge⟩
theorem zhC (i : Nat) (h : SSs X g ro mb m sts s1 m') (hi : m'[i]? = some .ow) : SSs X g ro mb m sts s1 (m'.set i .sh) := by
  refine ⟨by simp [h.1],fun pins s σ H D I ⟨r,G,si,q⟩ => ?_⟩
  refine thn (h.2 pins s σ H ⟨fun σ' H' => D.nx σ' H'∨∃ a,∀ ob,D.nx σ' (fz H' a ob),D.rt,D.bk,D.ct⟩ I ⟨r,G,si,?_⟩) fun f s' p => ?_
  · cases e : s1 r with
    | nx r' =>
      rw [e] at q
      intro σ' G' H' w si'
      rcases si'.frz i hi with ⟨G2,le,si2⟩ | ⟨a,z⟩
      · exact .inl (q σ' G2 H' (w.trans le) si2)
      · refine .inr ⟨a,fun ob => ?_⟩
        obtain ⟨G2,le,si2⟩ := z ob
        exact q σ' G2 _ (w.trans le) si2
    | rt d => rw [e] at q; exact q
    | bk r' => rw [e] at q; exact q
    | ct r' => rw [e] at q; exact q
    | exc x r' => rw [e] at q; exact fun pins e s' σ' G' H' w si' => q pins e s' σ' G' H' w (by rw [zgo (m := m') (by simp)]; exact si')
    | stuck => rw [e] at q; exact q
  · cases f with
    | next =>
      obtain ⟨σ',H',I',z | ⟨a,z⟩⟩ := p
      · exact ⟨σ',H',I',z⟩
      · obtain ⟨ob,I2⟩ := Inv.fast I' a
        exact ⟨σ',_,I2,z ob⟩
    | brk => exact p
    | cont => exact p
    | ret u => exact p
end
end DL
end
section
namespace DL
open PySem PySem.Spec PyProof.Rows L2
noncomputable abbrev FT := D→Rho→Option Rho
noncomputable abbrev FTs := List D→Rho→Option Rho
noncomputable def tG (X : Cx) (g : GE) (m m' : List Md) (ft : FT) : TG := fun v σ H Q => ∃ r G d,SI X g m r G σ H∧RG X.K G v d∧∃ r',ft d r = some r'∧∀ σ',SI X g m' r' G σ' H→Q σ' H
noncomputable def tGs (X : Cx) (g : GE) (m m' : List Md) (ft : FTs) : TGs := fun vs σ H Q => ∃ r G ds,SI X g m r G σ H∧RGs X.K G vs ds∧∃ r',ft ds r = some r'∧∀ σ',SI X g m' r' G σ' H→Q σ' H
theorem PG.imp {X : Cx} {e : Expr} {t t' : TG} (h : PG X e t) (i : ∀ v σ H Q,t' v σ H Q→t v σ H Q) : PG X e t' := fun pins s σ H v u Q I r q => h pins s σ H v u Q I r (i v σ H Q q)
theorem PGs.imp {X : Cx} {e : List Expr} {t t' : TGs} (h : PGs X e t) (i : ∀ v σ H Q,t' v σ H Q→t v σ H Q) : PGs X e t' := fun pins s σ H v u Q I r q => h pins s σ H v u Q I r (i v σ H Q q)
noncomputable def SG (X : Cx) (g : GE) (m : List Md) (tg : Expr) (ft : FT) (m' : List Md) : Prop := m'.length = m.length∧PG X tg (tG X g m m' ft)
structure SGs (X : Cx) (g : GE) (m : List Md) (ts : List Expr) (n : Nat) (ft : FTs) (m' : List Md) : Prop where
  ml : m'.length = m.length
  ln : ∀ ds r r',ft ds r = some r'→ds.length = n
  pg : PGs X ts (tGs X g m m' ft)
noncomputable def ftN (i : Nat) : FT := fun d r => some (r.set i (some d))
noncomputable def ftT (ft : FTs) : FT := fun d r => match d with
  | .tup ds => ft ds r
  | _ => none
noncomputable def zi0 : FTs := fun ds r => match ds with
  | [] => some r
  | _ => none
noncomputable def zc3 (ft : FT) (fts : FTs) : FTs := fun ds r => match ds with
  | [] => none
  | d::ds => (ft d r).bind fun r' => fts ds r'
section
variable {X : Cx} {g : GE} {m m' m1 : List Md} {tg : Expr} {ts : List Expr} {ft : FT} {fts : FTs} {pos : Pos} {n : Nat}
theorem zaF (i : Nat) {x : Str} (hN : X.N.Nodup) (hi : X.N[i]? = some x) (hx : Loc X.env.scope x) (hf : X.fn x = true∨X.env.scope.names.lookup x = some .local := by first | exact .inl rfl | exact .inr rfl | assumption) :
    SG X g m (.Name x pos) (ftN i) (m.set i .sh) :=
  ⟨by simp,PG.imp (zo9 hN hi hx hf) fun v σ H Q ⟨r,G,d,si,rv,r',e,k⟩ => by cases e; exact k _ (si.set i rv)⟩
theorem zpJ : SGs X g m [] 0 zi0 m := by
  refine ⟨rfl,fun ds r r' e => ?_,PGs.imp zo8 fun v σ H Q ⟨r,G,ds,si,rv,r',e,k⟩ => ?_⟩
  · cases ds with
    | nil => rfl
    | cons _ _ => cases e
  · cases rv with
    | nil => cases e; exact ⟨rfl,k σ si⟩
    | cons _ _ => cases e
theorem zgQ (h1 : SG X g m tg ft m1) (h2 : SGs X g m1 ts n fts m') (hs : (assignEach (tg::ts) X.env).map (·.2) = assign tg X.env::(assignEach ts X.env).map (·.2) := by rfl) : SGs X g m (tg::ts) (n + 1) (zc3 ft fts) m' := by
  refine ⟨h2.ml.trans h1.1,fun ds r r' e => ?_,PGs.imp (znj h1.2 h2.pg hs) fun v σ H Q ⟨r,G,ds,si,rv,r',e,k⟩ => ?_⟩
  · cases ds with
    | nil => cases e
    | cons d ds =>
      have e' : ((ft d r).bind fun r' => fts ds r') = some r' := e
      cases q : ft d r with
      | none => rw [q] at e'; cases e'
      | some r1 =>
        rw [q] at e'
        have := h2.ln ds r1 r' e'
        simp [this]
  · cases rv with
    | nil => cases e
    | @cons v0 d vs ds rv rs =>
      have e' : ((ft d r).bind fun r' => fts ds r') = some r' := e
      cases q : ft d r with
      | none => rw [q] at e'; cases e'
      | some r1 =>
        rw [q] at e'
        exact ⟨_,_,rfl,r,G,d,si,rv,r1,q,fun σ' si' => ⟨r1,G,ds,si',rs,r',e',k⟩⟩
theorem zpI {k : Nat} (hc : X.calm = true) (h : SGs X g m ts n fts m') (hn : (assignEach ts X.env).length = n := by rfl) (hst : (assignEach ts X.env).findIdx? (·.1) = none := by rfl) : SG X g m (.Tuple ts k pos) (ftT fts) m' := by
  refine ⟨h.ml,PG.imp (zqV hc h.pg hn hst) fun v σ H Q ⟨r,G,d,si,rv,r',e,k⟩ => ?_⟩
  cases d with
  | tup ds =>
    obtain ⟨a,xs,rfl,s,rs⟩ := rv.tup si.gok
    exact ⟨a,xs,rfl,s,(Paired.length rs).trans (h.ln ds r r' e),r,G,ds,si,rs,r',e,k⟩
  | _ => cases e
end
structure Yields (K : PySem.W.Frag) (J : It) (ds : List D) (G0 : GH) : Prop where
  go : ∀ G H (i : Nat),Gle G0 G→GOk K G H→i < ds.length→J.go i H
  yld : ∀ G H (i : Nat) x H' d,Gle G0 G→GOk K G H→J.yld i H x H'→ds[i]? = some d→∃ G',Grow K G H G' H'∧RG K G' x d
  stop : ∀ G H,Gle G0 G→GOk K G H→J.stop ds.length H
noncomputable abbrev FI := Rho→Res (List D)
noncomputable def tI (X : Cx) (g : GE) (m : List Md) (f : FI) : TI := fun σ H R => ∃ r G,SI X g m r G σ H∧fin (f r) (fun ds => ∀ J G' H',Grow X.K G H G' H'→Yields X.K J ds G'→R J H') (XW X σ G H)
noncomputable def SIt (X : Cx) (g : GE) (m : List Md) (tg iter : Expr) (f : FI) : Prop := PI X tg iter (tI X g m f)
theorem PI.imp {X : Cx} {tg e : Expr} {t t' : TI} (h : PI X tg e t) (i : ∀ σ H Q,t' σ H Q→t σ H Q) : PI X tg e t' := fun pins s σ H R I q => h pins s σ H R I (i σ H R q)
theorem ziC {K : PySem.W.Frag} {a : Addr} {ds : List D} {G0 : GH} (h0 : RG K G0 (.ref a) (.lst ds)) : Yields K (Itl K a) ds G0 := by
  have at_ : ∀ G H,Gle G0 G→GOk K G H→∃ xs,SqL K H a xs∧RGs K G xs ds := fun G H w gk => by
    obtain ⟨b,xs,e,s,r⟩ := (h0.mono w).lst gk
    cases e
    exact ⟨xs,s,r⟩
  refine ⟨fun G H i w gk hi => ?_,fun G H i x H' d w gk y e => ?_,fun G H w gk => ?_⟩
  · obtain ⟨xs,s,r⟩ := at_ G H w gk
    have hl := Paired.length r
    exact ⟨xs,xs[i],s,List.getElem?_eq_getElem (by omega)⟩
  · obtain ⟨xs,s,r⟩ := at_ G H w gk
    obtain ⟨rfl,y⟩ := y
    obtain ⟨v,e1,rv⟩ := Paired.get r e
    have := y xs s
    rw [e1] at this; cases this
    exact ⟨G,Grow.refl gk,rv⟩
  · obtain ⟨xs,s,r⟩ := at_ G H w gk
    exact ⟨xs,s,Nat.le_of_eq (Paired.length r)⟩
theorem zkQ {K : PySem.W.Frag} {a : Addr} {ds : List D} {G0 : GH} (h0 : RG K G0 (.ref a) (.tup ds)) : Yields K (Itt K a) ds G0 := by
  have at_ : ∀ G H,Gle G0 G→GOk K G H→∃ xs,SqT K H a xs∧RGs K G xs ds := fun G H w gk => by
    obtain ⟨b,xs,e,s,r⟩ := (h0.mono w).tup gk
    cases e
    exact ⟨xs,s,r⟩
  refine ⟨fun G H i w gk hi => ?_,fun G H i x H' d w gk y e => ?_,fun G H w gk => ?_⟩
  · obtain ⟨xs,s,r⟩ := at_ G H w gk
    have hl := Paired.length r
    exact ⟨xs,xs[i],s,List.getElem?_eq_getElem (by omega)⟩
  · obtain ⟨xs,s,r⟩ := at_ G H w gk
    obtain ⟨rfl,y⟩ := y
    obtain ⟨v,e1,rv⟩ := Paired.get r e
    have := y xs s
    rw [e1] at this; cases this
    exact ⟨G,Grow.refl gk,rv⟩
  · obtain ⟨xs,s,r⟩ := at_ G H w gk
    exact ⟨xs,s,Nat.le_of_eq (Paired.length r)⟩
noncomputable def rngD (lo : Int) (n : Nat) : List D := (List.range n).map fun (i : Nat) => D.int (lo + (i : Int))
theorem zp1 {K : PySem.W.Frag} {lo : Int} {n : Nat} {G0 : GH} : Yields K (Itr lo n) (rngD lo n) G0 := by
  have hl : (rngD lo n).length = n := by simp [rngD]
  refine ⟨fun G H i w gk hi => (by rw [hl] at hi; exact hi),fun G H i x H' d w gk y e => ?_,fun G H w gk => (by rw [hl]; exact Nat.le_refl _)⟩
  obtain ⟨rfl,rfl⟩ := y
  have hi : i < n := by
    have := (List.getElem?_eq_some_iff.mp e).1
    rw [hl] at this; exact this
  unfold rngD at e
  rw [List.getElem?_map,List.getElem?_range hi] at e
  cases e
  exact ⟨G,Grow.refl gk,.scl (.int _)⟩
noncomputable def zbn : D→Option (List D)
  | .lst ds => some ds
  | .tup ds => some ds
  | _ => none
section
variable {X : Cx} {g : GE} {m m' m1 mb : List Md} {tg e a b c iter : Expr} {f fa fb : FE} {p : FQ} {pos pos' : Pos} {ro : Bool} {fl : Rho → Res (List D)} {sts : List Stmt} {s1 : FS}
noncomputable def fSeq (k : D→Option (List D)) (f : FE) : FI := fun r => (f r).bind fun d => opt (k d)
theorem zlr {l : Expr} {tl : TE} (hl : PE X l tl) : PI X tg l (fun σ H R => tl σ H fun x H1 => (∃ a,x = .ref a∧(∃ xs,SqL X.K H1 a xs)∧R (Itl X.K a) H1)∨∃ a,x = .ref a∧(∃ xs,SqT X.K H1 a xs)∧R (Itt X.K a) H1) := by
  intro pins s σ H R I h
  refine thn (hl pins s σ H _ I h) fun v s1 ⟨x,H1,I1,r1,q1⟩ => ?_
  rcases q1 with ⟨a,e,⟨xs,hq⟩,q⟩ | ⟨a,e,⟨xs,hq⟩,q⟩
  · subst e
    cases r1
    obtain ⟨its,rv,p,hz⟩ := I1.list hq
    refine wpAny_pyIter_list p.isList ?_
    refine ⟨s1.heap.objs.size,[s1.heap.objs.size],_,_,H1,rfl,I1.kept (t' := s1.toks) fun b o e => Heap.get?_push_of_some _ e,zkU a _,⟨_,Heap.get?_push_size _ rfl,rfl,rfl⟩,fun b hb => ?_,q⟩
    have e : b = s1.heap.objs.size := by simpa using hb
    subst e
    exact I1.fpOk (Nat.le_refl _) (I1.hok.fresh (Nat.le_refl _))
  · subst e
    cases r1
    obtain ⟨its,rv,p,hz⟩ := I1.tuple hq
    refine wpAny_pyIter_tuple (show s1.heap.IsTuple a its.toArray from p) ?_
    refine ⟨s1.heap.objs.size,[s1.heap.objs.size],_,_,H1,rfl,I1.kept (t' := s1.toks) fun b o e => Heap.get?_push_of_some _ e,zj7 a _,⟨_,Heap.get?_push_size _ rfl,rfl,rfl⟩,fun b hb => ?_,q⟩
    have e : b = s1.heap.objs.size := by simpa using hb
    subst e
    exact I1.fpOk (Nat.le_refl _) (I1.hok.fresh (Nat.le_refl _))
theorem zl4 (h : SE X g m e f) : SIt X g m tg e (fSeq zbn f) := by
  refine PI.imp (zlr h) fun σ H R ⟨r,G,si,q⟩ => ⟨r,G,si,zah (zag q) fun d q v G' H' w rv => ?_⟩
  obtain ⟨ds,e,q⟩ := zav q
  cases d with
  | lst ds' =>
    cases e
    obtain ⟨a,xs,rfl,s,rs⟩ := rv.lst w.ok
    exact .inl ⟨a,rfl,⟨xs,s⟩,q _ G' H' w (ziC rv)⟩
  | tup ds' =>
    cases e
    obtain ⟨a,xs,rfl,s,rs⟩ := rv.tup w.ok
    exact .inr ⟨a,rfl,⟨xs,s⟩,q _ G' H' w (zkQ rv)⟩
  | _ => cases e
structure YieldsC (K : PySem.W.Frag) (J : It) (ds : List D) (G0 : GH) (H0 : Hp) : Prop where
  go : ∀ G H (i : Nat),Grow K G0 H0 G H→i < ds.length→J.go i H
  yld : ∀ G H (i : Nat) x H' d,Grow K G0 H0 G H→J.yld i H x H'→ds[i]? = some d→∃ G',Grow K G H G' H'∧RG K G' x d
  stop : ∀ G H,Grow K G0 H0 G H→J.stop ds.length H
theorem Yields.toC {K : PySem.W.Frag} {J : It} {ds : List D} {G0 : GH} {H0 : Hp} (y : Yields K J ds G0) : YieldsC K J ds G0 H0 :=
  ⟨fun G H i w hi => y.go G H i w.ge w.ok hi,fun G H i x H' d w q e => y.yld G H i x H' d w.ge w.ok q e,fun G H w => y.stop G H w.ge w.ok⟩
noncomputable def tIC (X : Cx) (g : GE) (m : List Md) (f : FI) : TI := fun σ H R => ∃ r G,SI X g m r G σ H∧fin (f r) (fun ds => ∀ J G' H',Grow X.K G H G' H'→YieldsC X.K J ds G' H'→R J H') (XW X σ G H)
noncomputable def SItC (X : Cx) (g : GE) (m : List Md) (tg iter : Expr) (f : FI) : Prop := PI X tg iter (tIC X g m f)
theorem SIt.toC {fi : FI} (h : SIt X g m tg iter fi) : SItC X g m tg iter fi := PI.imp h fun σ H R ⟨r,G,si,q⟩ => ⟨r,G,si,zah q fun ds k J G' H' w y => k J G' H' w y.toC⟩
theorem zp2 {K : PySem.W.Frag} {a : Addr} {ds : List D} {G0 : GH} {H0 : Hp} (o : Own K G0 H0 a (.lst ds)) : YieldsC K (Itl K a) ds G0 H0 := by
  have at_ : ∀ G H,Grow K G0 H0 G H→∃ xs,SqL K H a xs∧RGs K G xs ds := fun G H w => by
    cases (o.mono w).ob with
    | lst r s => exact ⟨_,SqL.of r,s⟩
  refine ⟨fun G H i w hi => ?_,fun G H i x H' d w y e => ?_,fun G H w => ?_⟩
  · obtain ⟨xs,s,r⟩ := at_ G H w
    have hl := Paired.length r
    exact ⟨xs,xs[i],s,List.getElem?_eq_getElem (by omega)⟩
  · obtain ⟨xs,s,r⟩ := at_ G H w
    obtain ⟨rfl,y⟩ := y
    obtain ⟨v,e1,rv⟩ := Paired.get r e
    have := y xs s
    rw [e1] at this; cases this
    exact ⟨G,Grow.refl w.ok,rv⟩
  · obtain ⟨xs,s,r⟩ := at_ G H w
    exact ⟨xs,s,Nat.le_of_eq (Paired.length r)⟩
theorem zcF (h : SB X g m e f) : SItC X g m tg e (fSeq zbn f) := by
  refine PI.imp (zlr h) fun σ H R ⟨r,G,si,q⟩ => ⟨r,G,si,zah (zag q) fun d q v G' H' w rv => ?_⟩
  obtain ⟨ds,e,q⟩ := zav q
  cases d with
  | lst ds' =>
    cases e
    rcases rv with rv | ⟨a,rfl,o⟩
    · obtain ⟨a,xs,rfl,s,rs⟩ := rv.lst w.ok
      exact .inl ⟨a,rfl,⟨xs,s⟩,q _ G' H' w (ziC rv).toC⟩
    · cases o.ob with
      | lst r s => exact .inl ⟨a,rfl,⟨_,SqL.of r⟩,q _ G' H' w (zp2 o)⟩
  | tup ds' =>
    cases e
    rcases rv with rv | ⟨a,rfl,o⟩
    · obtain ⟨a,xs,rfl,s,rs⟩ := rv.tup w.ok
      exact .inr ⟨a,rfl,⟨xs,s⟩,q _ G' H' w (zkQ rv).toC⟩
    · cases o.ob
  | _ => cases e
noncomputable def rng1 : List D→Option (List D)
  | [.int j] => if -(2 ^ 62)≤j∧j < 2 ^ 62 then some (rngD 0 j.toNat) else none
  | _ => none
noncomputable def fRng (k : List D→Option (List D)) (fl : Rho→Res (List D)) : FI := fun r => (fl r).bind fun ds => opt (k ds)
theorem zcd {pn : Pos} (hg : Gl X "range") (hm : X.mg "range" = none) (ha : SAB X g m [a] fl) (hs : starEach [a] X.env = [(false,eval a X.env)] := by rfl) : SIt X g m tg (.Call (.Name "range" pn) [a] [] pos) (fRng rng1 fl) := by
  refine PI.imp (zls hg hm ha hs) fun σ H R ⟨r,G,si,q⟩ => ⟨r,G,si,zah (zag q) fun ds q vs G' H' w rs => ?_⟩
  obtain ⟨zs,e,q⟩ := zav q
  unfold rng1 at e
  split at e
  · split at e
    · rename_i j hj
      cases e
      cases rs with
      | cons r1 t => cases t; exact ⟨j,by rw [r1.int w.ok],hj.1,hj.2,q _ G' H' w zp1⟩
    · cases e
  · cases e
noncomputable def forF (ft : FT) (body : FS) : List D→FS
  | [],r => .nx r
  | d::ds,r => match ft d r with
    | none => .stuck
    | some r1 => match body r1 with
      | .nx r' => forF ft body ds r'
      | .ct r' => forF ft body ds r'
      | .bk r' => .nx r'
      | o => o
noncomputable def zca (m : List Md) (fi : FI) (ft : FT) (body : FS) : FS := fun r => onE m r (fi r) fun ds => forF ft body ds r
theorem zfC (hp : PassesOwn (model X.prog X.w) X.A X.env X.xe) (hc : X.calm = true) {ft : FT} {fi : FI} (hi : SIt X g m tg iter fi) (hg : SG X g m tg ft m) (hb : SSs X g ro m m sts s1 m)
    (hs : ∀ x,foldedSetIterable iter X.env x = pure x := by intro _; rfl) : SS X g ro mb m (.For tg iter sts [] pos) (zca m fi ft s1) m := by
  refine ⟨rfl,PS.imp (zll hp hc hi hg.2 hb.2 hs) fun D σ H ⟨r,G,si,q⟩ => ⟨r,G,si,zah (zbU si rfl q) fun ds q J G0 H0 w0 Y => ?_⟩⟩
  refine ⟨fun i n σ H => ∃ r G,SI X g m r G σ H∧Gle G0 G∧i≤ds.length∧n = ds.length - i∧oTo X g ro m mb G D (forF ft s1 (ds.drop i) r),⟨ds.length,r,G0,si.grow w0,Gle.refl G0,Nat.zero_le _,rfl,oTo.gle q w0.ge⟩,?_⟩
  rintro i n σ1 H1 ⟨r1,G1,si1,le1,hi,rfl,q1⟩
  by_cases hlt : i < ds.length
  · have hd : ds.drop i = ds[i]::ds.drop (i + 1) := List.drop_eq_getElem_cons hlt
    rw [hd] at q1
    unfold forF at q1
    refine .inr ⟨Y.go G1 H1 i le1 si1.gok hlt,fun σ' H' => ∃ r G,SI X g m r G σ' H'∧Gle G0 G∧oTo X g ro m mb G D (forF ft s1 (ds.drop (i + 1)) r),fun σ' H' ⟨r',G',si',le',q'⟩ => ⟨ds.length - (i + 1),by omega,r',G',si',le',hlt,rfl,q'⟩,fun x H' y => ?_⟩
    obtain ⟨G',w',rv⟩ := Y.yld G1 H1 i x H' ds[i] le1 si1.gok y (List.getElem?_eq_getElem hlt)
    have le' : Gle G0 G' := le1.trans w'.ge
    cases eft : ft ds[i] r1 with
    | none => simp only [eft] at q1; exact q1.elim
    | some r2 =>
      simp only [eft] at q1
      refine ⟨r1,G',ds[i],si1.grow w',rv,r2,eft,fun σ2 si2 => ⟨r2,G',si2,?_⟩⟩
      cases eb : s1 r2 with
      | nx r' => simp only [eb] at q1; exact fun σ3 G3 H3 le3 si3 => ⟨r',G3,si3,le'.trans le3,oTo.gle q1 (Gle.trans w'.ge le3)⟩
      | ct r' => simp only [eb] at q1; exact fun σ3 G3 H3 le3 si3 => ⟨r',G3,si3,le'.trans le3,oTo.gle q1 (Gle.trans w'.ge le3)⟩
      | bk r' => simp only [eb] at q1; exact fun σ3 G3 H3 le3 si3 => q1 σ3 G3 H3 (Gle.trans w'.ge le3) si3
      | rt d => simp only [eb] at q1; exact q1
      | exc x r' => simp only [eb] at q1; exact fun pins e s' σ3 G3 H3 le3 => q1 pins e s' σ3 G3 H3 (Gle.trans w'.ge le3)
      | stuck => simp only [eb] at q1; exact q1
  · have e : i = ds.length := by omega
    subst e
    rw [List.drop_length] at q1
    exact .inl ⟨Y.stop G1 H1 le1 si1.gok,q1 σ1 G1 H1 (Gle.refl _) si1⟩
noncomputable def zb0 (m : List Md) : List Md := m.map fun x => if x = Md.sh then Md.sh else Md.bw
noncomputable def zku (m : List Md) (r : Rho) (st : L2.St) (G : GH) (H : Hp) : GE := ⟨G,H,fun i => if m[i]? = some Md.ow∨m[i]? = some Md.bw then some ((st[i]?).join,(r[i]?).join) else none⟩
theorem zdJ {m : List Md} {i : Nat} {x : Md} (h : m[i]? = some x) : (zb0 m)[i]? = some (if x = Md.sh then Md.sh else Md.bw) := by
  unfold zb0; rw [List.getElem?_map,h]; rfl
theorem znz {m : List Md} {i : Nat} (h : (zb0 m)[i]? = some Md.sh) : m[i]? = some Md.sh := by
  cases q : m[i]? with
  | none => unfold zb0 at h; rw [List.getElem?_map,q] at h; cases h
  | some x =>
    rw [zdJ q] at h
    cases x <;> first | rfl | (simp at h)
theorem zjL {m : List Md} {i : Nat} (h : (zb0 m)[i]? = some Md.ow) : False := by
  cases q : m[i]? with
  | none => unfold zb0 at h; rw [List.getElem?_map,q] at h; cases h
  | some x =>
    rw [zdJ q] at h
    cases x <;> simp at h
theorem lockM_bw {m : List Md} {i : Nat} (h : (zb0 m)[i]? = some Md.bw) : m[i]? = some Md.ow∨m[i]? = some Md.bw := by
  cases q : m[i]? with
  | none => unfold zb0 at h; rw [List.getElem?_map,q] at h; cases h
  | some x =>
    rw [zdJ q] at h
    cases x with
    | sh => simp at h
    | ow => exact .inl rfl
    | bw => exact .inr rfl
theorem SI.lock {r : Rho} {G : GH} {st : L2.St} {H : Hp} (s : SI X g m r G st H) : SI X (zku m r st G H) (zb0 m) r G st H where
  gok := s.gok
  old := fun _ _ e => e
  ge := fun _ _ e => e
  gf := fun _ _ => rfl
  lm := by unfold zb0; rw [List.length_map]; exact s.lm
  lr := s.lr
  sh := fun i d h hm => s.sh i d h (znz hm)
  ow := fun i d h hm => (zjL hm).elim
  bw := fun i d h hm => by
    rcases lockM_bw hm with z | z
    · obtain ⟨a,h1,h2,_⟩ := s.ow i d h z
      exact ⟨_,h1,.inr ⟨a,rfl,h2,h2.ob.isS⟩⟩
    · obtain ⟨v,h1,h2⟩ := s.bw i d h z
      refine ⟨v,h1,?_⟩
      rcases h2 with h2 | ⟨a,e,h2,_⟩
      · exact .inl h2
      · exact .inr ⟨a,e,h2,h2.ob.isS⟩
  dis := fun i j a d e _ _ _ hm => (zjL hm).elim
  lk := fun i o h hm => by
    have h' : (if m[i]? = some Md.ow∨m[i]? = some Md.bw then some ((st[i]?).join,(r[i]?).join) else none) = some o := h
    rw [if_pos (lockM_bw hm)] at h'
    cases h'
    have hi : i < st.length := by
      have := (List.getElem?_eq_some_iff.mp hm).1
      unfold zb0 at this
      rw [List.length_map,s.lm] at this; exact this
    refine ⟨?_,fun d hd => by rw [hd]; rfl⟩
    rw [List.getElem?_eq_getElem hi]; rfl
theorem SI.unlock {r r' : Rho} {G G' : GH} {st st' : L2.St} {H H' : Hp} (s : SI X g m r G st H) (s' : SI X (zku m r st G H) (zb0 m) r' G' st' H') : SI X g m r' G' st' H' := by
  have w : Grow X.K G H G' H' := s'.grown
  have hlk : ∀ (i : Nat),(m[i]? = some Md.ow∨m[i]? = some Md.bw)→st'[i]? = some (st[i]?).join∧∀ d,r'[i]? = some (some d)→r[i]? = some (some d) := fun i hi => by
    have hm : (zb0 m)[i]? = some Md.bw := by
      rcases hi with z | z <;> rw [zdJ z] <;> simp
    obtain ⟨h1,h2⟩ := s'.lk i ((st[i]?).join,(r[i]?).join) (if_pos hi) hm
    refine ⟨h1,fun d hd => ?_⟩
    have := h2 d hd
    cases q : r[i]? with
    | none => rw [q] at this; cases this
    | some o => rw [q] at this; rw [show o = some d from this]
  have hst : ∀ (i : Nat) v,(m[i]? = some Md.ow∨m[i]? = some Md.bw)→st[i]? = some (some v)→st'[i]? = some (some v) := fun i v hi h => by
    rw [(hlk i hi).1,h]; rfl
  refine ⟨s'.gok,fun a o e => s'.old a o (s.old a o e),fun a d e => s'.ge a d (s.ge a d e),fun a h => ?_,?_,s'.lr,fun i d h hm => ?_,fun i d h hm => ?_,fun i d h hm => ?_,fun i j a d e hij h1 h2 m1 m2 q1 q2 => ?_,fun i o hi hm => ?_⟩
  · have h1 : H a≠none := by
      cases e : g.h0 a with
      | none => exact absurd e h
      | some o => rw [s.old _ _ e]; simp
    rw [w.gf a h1,s.gf a h]
  · have := s'.lm
    unfold zb0 at this
    rw [List.length_map] at this; exact this
  · exact s'.sh i d h (by rw [zdJ hm]; simp)
  · obtain ⟨a,h1,h2,h3⟩ := s.ow i d ((hlk i (.inl hm)).2 d h) hm
    exact ⟨a,hst i _ (.inl hm) h1,h2.mono w,h3⟩
  · obtain ⟨v,h1,h2⟩ := s.bw i d ((hlk i (.inr hm)).2 d h) hm
    exact ⟨v,hst i _ (.inr hm) h1,h2.grow w⟩
  · have e1 := (hlk i (.inl m1)).2 d h1
    have e2 := (hlk j (.inl m2)).2 e h2
    obtain ⟨b,z1,_,_⟩ := s.ow i d e1 m1
    obtain ⟨c,z2,_,_⟩ := s.ow j e e2 m2
    have y1 := hst i _ (.inl m1) z1
    have y2 := hst j _ (.inl m2) z2
    rw [q1] at y1
    rw [q2] at y2
    cases y1
    cases y2
    exact s.dis i j a d e hij e1 e2 m1 m2 z1 z2
  · obtain ⟨h1,h2⟩ := s.lk i o hi hm
    refine ⟨?_,fun d hd => h2 d ((hlk i (.inr hm)).2 d hd)⟩
    rw [(hlk i (.inr hm)).1,h1]; rfl
theorem zju (hp : PassesOwn (model X.prog X.w) X.A X.env X.xe) (hc : X.calm = true) {ft : FT} {fi : FI} (hi : SItC X g m tg iter fi) (hg : ∀ g',SG X g' (zb0 m) tg ft (zb0 m)) (hb : ∀ g',SSs X g' ro (zb0 m) (zb0 m) sts s1 (zb0 m))
    (hs : ∀ x,foldedSetIterable iter X.env x = pure x := by intro _; rfl) : SS X g ro mb m (.For tg iter sts [] pos) (zca m fi ft s1) m := by
  have hgA : PG X tg (fun v σ H Q => ∃ g',tG X g' (zb0 m) (zb0 m) ft v σ H Q) := fun pins s σ H v u Q I r ⟨g',q⟩ => (hg g').2 pins s σ H v u Q I r q
  have hbA : PSs X sts (fun D σ H => ∃ g',tS X g' ro (zb0 m) (zb0 m) (zb0 m) s1 D σ H) := fun pins s σ H D I ⟨g',q⟩ => (hb g').2 pins s σ H D I q
  refine ⟨rfl,PS.imp (zll hp hc hi hgA hbA hs) fun D σ H ⟨r,G,si,q⟩ => ⟨r,G,si,zah (zbU si rfl q) fun ds q J G0 H0 w0 Y => ?_⟩⟩
  have si0 := si.grow w0
  refine ⟨fun i n σ1 H1 => ∃ r1 G1,SI X (zku m r σ G0 H0) (zb0 m) r1 G1 σ1 H1∧i≤ds.length∧n = ds.length - i∧oTo X g ro m mb G1 D (forF ft s1 (ds.drop i) r1),⟨ds.length,r,G0,si0.lock,Nat.zero_le _,rfl,oTo.gle q w0.ge⟩,?_⟩
  rintro i n σ1 H1 ⟨r1,G1,si1,hi,rfl,q1⟩
  have wg : Grow X.K G0 H0 G1 H1 := si1.grown
  by_cases hlt : i < ds.length
  · have hd : ds.drop i = ds[i]::ds.drop (i + 1) := List.drop_eq_getElem_cons hlt
    rw [hd] at q1
    unfold forF at q1
    refine .inr ⟨Y.go G1 H1 i wg hlt,fun σ' H' => ∃ r' G',SI X (zku m r σ G0 H0) (zb0 m) r' G' σ' H'∧oTo X g ro m mb G' D (forF ft s1 (ds.drop (i + 1)) r'),fun σ' H' ⟨r',G',si',q'⟩ => ⟨ds.length - (i + 1),by omega,r',G',si',hlt,rfl,q'⟩,fun x H' y => ?_⟩
    obtain ⟨G',w',rv⟩ := Y.yld G1 H1 i x H' ds[i] wg y (List.getElem?_eq_getElem hlt)
    cases eft : ft ds[i] r1 with
    | none => simp only [eft] at q1; exact q1.elim
    | some r2 =>
      simp only [eft] at q1
      refine ⟨zku m r σ G0 H0,r1,G',ds[i],si1.grow w',rv,r2,eft,fun σ2 si2 => ⟨zku m r σ G0 H0,r2,G',si2,?_⟩⟩
      cases eb : s1 r2 with
      | nx r' => simp only [eb] at q1; exact fun σ3 G3 H3 le3 si3 => ⟨r',G3,si3,oTo.gle q1 (Gle.trans w'.ge le3)⟩
      | ct r' => simp only [eb] at q1; exact fun σ3 G3 H3 le3 si3 => ⟨r',G3,si3,oTo.gle q1 (Gle.trans w'.ge le3)⟩
      | bk r' => simp only [eb] at q1; exact fun σ3 G3 H3 le3 si3 => q1 σ3 G3 H3 (Gle.trans w'.ge le3) (si0.unlock si3)
      | rt d =>
        simp only [eb] at q1
        intro v G2 H2 wr rv2
        refine q1 v G2 H2 (si0.grown.trans wr) ?_
        cases ro with
        | false => exact rv2
        | true =>
          rcases rv2 with ⟨a,e1,e2,e3⟩ | z
          · exact .inl ⟨a,e1,si0.grown.back e2,e3⟩
          · exact .inr z
      | exc x r' => exact fun pins e s' σ3 G3 H3 le3 _ _ ex => (show False from ex).elim
      | stuck => simp only [eb] at q1; exact q1
  · have e : i = ds.length := by omega
    subst e
    rw [List.drop_length] at q1
    exact .inl ⟨Y.stop G1 H1 wg,q1 σ1 G1 H1 (Gle.refl _) (si0.unlock si1)⟩
noncomputable def zbo (m : List Md) (p : FQ) (body : FS) : Nat→FS
  | 0,_ => .stuck
  | n + 1,r => onE m r (p r) fun c => if c = true then (match body r with
      | .nx r' => zbo m p body n r'
      | .ct r' => zbo m p body n r'
      | .bk r' => .nx r'
      | o => o) else .nx r
theorem zhc (n : Nat) (hp : PassesOwn (model X.prog X.w) X.A X.env X.xe) (hc : SQ X g m c p) (hb : SSs X g ro m m sts s1 m) : SS X g ro mb m (.While c sts [] pos) (zbo m p s1 n) m := by
  refine ⟨rfl,PS.imp (zne hp hc hb.2) fun D σ H ⟨r,G,si,q⟩ => ?_⟩
  refine ⟨fun n σ H => ∃ r G,SI X g m r G σ H∧oTo X g ro m mb G D (zbo m p s1 n r),⟨n,r,G,si,q⟩,?_⟩
  rintro n σ1 H1 ⟨r1,G1,si1,q1⟩
  cases n with
  | zero => exact q1.elim
  | succ n =>
    unfold zbo at q1
    refine ⟨r1,G1,si1,zah (zbU si1 rfl q1) fun c q2 G2 H2 w2 => ?_⟩
    cases c with
    | false => rw [if_neg Bool.false_ne_true] at q2 ⊢; exact q2 σ1 G2 H2 w2.ge (si1.grow w2)
    | true =>
      rw [if_pos rfl] at q2 ⊢
      refine ⟨fun σ' H' => ∃ r G,SI X g m r G σ' H'∧oTo X g ro m mb G D (zbo m p s1 n r),fun σ' H' h => ⟨n,Nat.lt_succ_self _,h⟩,r1,G2,si1.grow w2,?_⟩
      cases eb : s1 r1 with
      | nx r' => simp only [eb] at q2; exact fun σ3 G3 H3 le3 si3 => ⟨r',G3,si3,oTo.gle q2 (Gle.trans w2.ge le3)⟩
      | ct r' => simp only [eb] at q2; exact fun σ3 G3 H3 le3 si3 => ⟨r',G3,si3,oTo.gle q2 (Gle.trans w2.ge le3)⟩
      | bk r' => simp only [eb] at q2; exact fun σ3 G3 H3 le3 si3 => q2 σ3 G3 H3 (Gle.trans w2.ge le3) si3
      | rt d => simp only [eb] at q2; exact q2
      | exc x r' => simp only [eb] at q2; exact fun pins e s' σ3 G3 H3 le3 => q2 pins e s' σ3 G3 H3 (Gle.trans w2.ge le3)
      | stuck => simp only [eb] at q2; exact q2
end
noncomputable def noX : Res D→Res D
  | .ok d => .ok d
  | _ => .stuck
@[simp] theorem noX_ok (d : D) : noX (.ok d) = .ok d := rfl
inductive ArgsOk (K : PySem.W.Frag) (G : GH) (H : Hp) : List Md→List V→List D→Prop where
  | nil : ArgsOk K G H [] [] []
  | sh {v : V} {d : D} {ms : List Md} {vs : List V} {ds : List D} : RG K G v d→ArgsOk K G H ms vs ds→ArgsOk K G H (.sh::ms) (v::vs) (d::ds)
  | bw {v : V} {d : D} {ms : List Md} {vs : List V} {ds : List D} : RB K G H v d→ArgsOk K G H ms vs ds→ArgsOk K G H (.bw::ms) (v::vs) (d::ds)
section
variable {K : PySem.W.Frag} {G G' : GH} {H H' : Hp}
theorem ArgsOk.len {ms : List Md} {vs : List V} {ds : List D} (h : ArgsOk K G H ms vs ds) : vs.length = ms.length∧ds.length = ms.length := by
  induction h with
  | nil => exact ⟨rfl,rfl⟩
  | sh h t ih => exact ⟨congrArg (· + 1) ih.1,congrArg (· + 1) ih.2⟩
  | bw h t ih => exact ⟨congrArg (· + 1) ih.1,congrArg (· + 1) ih.2⟩
theorem ArgsOk.app {dvs : List V} {dds : List D} (hs : Paired Scl dvs dds) : ∀ {ms : List Md} {vs : List V} {ds : List D},ArgsOk K G H ms vs ds→ArgsOk K G H (ms++List.replicate dds.length .sh) (vs++dvs) (ds++dds)
  | _,_,_,.nil => by
    induction hs with
    | nil => exact .nil
    | cons h t ih => exact .sh (.scl h) ih
  | _,_,_,.sh h t => .sh h (t.app hs)
  | _,_,_,.bw h t => .bw h (t.app hs)
theorem ArgsOk.get : ∀ {ms : List Md} {vs : List V} {ds : List D} {i : Nat} {d : D},ArgsOk K G H ms vs ds→ds[i]? = some d→∃ v,vs[i]? = some v∧((ms[i]? = some .sh∧RG K G v d)∨(ms[i]? = some .bw∧RB K G H v d))
  | _,_,_,_,_,.nil,e => by simp at e
  | _,_,_,0,_,.sh h t,e => by simp at e; subst e; exact ⟨_,rfl,.inl ⟨rfl,h⟩⟩
  | _,_,_,0,_,.bw h t,e => by simp at e; subst e; exact ⟨_,rfl,.inr ⟨rfl,h⟩⟩
  | _,_,_,i + 1,d,.sh h t,e => by
    obtain ⟨v,h1,h2⟩ := t.get (i := i) (d := d) (by simpa using e)
    exact ⟨v,by simpa using h1,by simpa using h2⟩
  | _,_,_,i + 1,d,.bw h t,e => by
    obtain ⟨v,h1,h2⟩ := t.get (i := i) (d := d) (by simpa using e)
    exact ⟨v,by simpa using h1,by simpa using h2⟩
end
noncomputable def spM (K : PySem.W.Frag) (ro : Bool) (ms : List Md) (F : List D→Res D) : Sp := fun vs H Q _ => ∃ G ds,GOk K G H∧ArgsOk K G H ms vs ds∧fin (F ds) (fun d => ∀ v G' H',Grow K G H G' H'→RV ro K H G' H' v d→Q v H') fun _ => False
noncomputable def outR (ro : Bool) : Out→Res D
  | .nx _ => if ro = true then .stuck else .ok .non
  | .rt d => .ok d
  | .exc x _ => .exc x
  | _ => .stuck
noncomputable def zao (n : Nat) (ds : List D) : Rho := ds.map some++List.replicate (n - ds.length) none
noncomputable def zfc (n : Nat) (ms : List Md) : List Md := ms++List.replicate (n - ms.length) .sh
section
variable {P : Program} {w : World} {K : PySem.W.Frag} {mg : Str → Option Value} {base : Heap}
theorem zjp {X : Cx} {N : List Str} {ms : List Md} {vs : List V} {ds : List D} {G : GH} {H : Hp} (gk : GOk X.K G H) (rs : ArgsOk X.K G H ms vs ds) (hn : ms.length≤N.length) : SI X ⟨G,H,fun _ => none⟩ (zfc N.length ms) (zao N.length ds) G (L2.start N vs) H := by
  obtain ⟨l1,l2⟩ := rs.len
  have e1 : (L2.start N vs).length = N.length := by unfold L2.start; rw [List.length_append,List.length_map,List.length_replicate]; omega
  have e2 : (zao N.length ds).length = N.length := by unfold zao; rw [List.length_append,List.length_map,List.length_replicate]; omega
  have e3 : (zfc N.length ms).length = N.length := by unfold zfc; rw [List.length_append,List.length_replicate]; omega
  have at_ : ∀ (i : Nat) d,(zao N.length ds)[i]? = some (some d)→i < ms.length∧(zfc N.length ms)[i]? = ms[i]?∧∃ v,(L2.start N vs)[i]? = some (some v)∧((ms[i]? = some .sh∧RG X.K G v d)∨(ms[i]? = some .bw∧RB X.K G H v d)) := fun i d h => by
    unfold zao at h
    by_cases hi : i < ds.length
    · rw [List.getElem?_append_left (by simpa using hi),List.getElem?_map] at h
      have hd : ds[i]? = some d := by
        cases z : ds[i]? with
        | none => rw [z] at h; cases h
        | some d' => rw [z] at h; cases h; rfl
      obtain ⟨v,hv,rv⟩ := rs.get hd
      refine ⟨by omega,?_,v,?_,rv⟩
      · unfold zfc
        rw [List.getElem?_append_left (by omega)]
      · unfold L2.start
        rw [List.getElem?_append_left (by rw [List.length_map]; omega),List.getElem?_map,hv]
        rfl
    · rw [List.getElem?_append_right (by simpa using hi),List.getElem?_replicate] at h
      split at h <;> cases h
  refine ⟨gk,fun _ _ e => e,fun _ _ e => e,fun _ _ => rfl,by rw [e3,e1],by rw [e1,e2],fun i d h hm => ?_,fun i d h hm => ?_,fun i d h hm => ?_,fun i j a d e _ h _ hm => ?_,fun i o h => nomatch h⟩
  · obtain ⟨_,hq,v,h1,h2⟩ := at_ i d h
    rw [hq] at hm
    rcases h2 with ⟨_,h2⟩ | ⟨h3,h2⟩
    · exact ⟨v,h1,h2⟩
    · rw [hm] at h3; cases h3
  · obtain ⟨_,hq,v,h1,h2⟩ := at_ i d h
    rw [hq] at hm
    rcases h2 with ⟨h3,h2⟩ | ⟨h3,h2⟩ <;> rw [hm] at h3 <;> cases h3
  · obtain ⟨_,hq,v,h1,h2⟩ := at_ i d h
    rw [hq] at hm
    rcases h2 with ⟨h3,h2⟩ | ⟨h3,h2⟩
    · rw [hm] at h3; cases h3
    · refine ⟨v,h1,?_⟩
      rcases h2 with h2 | ⟨a,rfl,h2⟩
      · exact .inl h2
      · exact .inr ⟨a,rfl,h2,h2.ob.isS⟩
  · obtain ⟨_,hq,v,h1,h2⟩ := at_ i d h
    rw [hq] at hm
    rcases h2 with ⟨h3,h2⟩ | ⟨h3,h2⟩ <;> rw [hm] at h3 <;> cases h3
theorem zj1 {X : Cx} {ro : Bool} {fs : FS} {m' : List Md} {G : GH} {H : Hp} {r : Rho} {Q : VK} (q : fin (outR ro (fs r)) (fun d => ∀ v G' H',Grow X.K G H G' H'→RV ro X.K H G' H' v d→Q v H') fun _ => False) :
    oTo X ⟨G,H,fun _ => none⟩ ro m' [] G { nx := fun _ H' => Q .non H',rt := Q } (fs r) := by
  cases e : fs r with
  | nx r' =>
    rw [e] at q
    cases ro with
    | false => exact fun σ' G' H' _ si => q .non G' H' si.grown (.scl .non)
    | true => exact q.elim
  | rt d => rw [e] at q; exact fun v G' H' wg rv => q v G' H' wg rv
  | bk r' => rw [e] at q; exact q.elim
  | ct r' => rw [e] at q; exact q.elim
  | exc x r' => rw [e] at q; exact q.elim
  | stuck => rw [e] at q; exact q
theorem zoy {x qual : Str} {st : Stmt} {f : Addr} {fd : FuncData} {N ps : List Str} {k : Nat} {ro : Bool} {ms : List Md} {fs : FS} {m' : List Md} (F : Fun K x qual st f fd) (S : FnScope N ps (zab st)) (hms : ms.length = ps.length)
    (hbody : ∀ (cdv : Value) (A : Around) (outer : List Env) (s : Shared) (H : Hp) (g : GE) (E : XK),Room k (A.deeper (envOfC qual (zab st) s.heap.objs.size f cdv)) →
      SSs (cxOf CX0 P w K mg base N qual (zab st) f cdv A outer s H E).nox g ro [] (zfc N.length ms) (zbw st) fs m') :
    FnOk P w K mg base CX0 (k + 1) f fd ps (spM K ro ms fun ds => outR ro (fs (zao N.length ds))) := by
  refine F.ok S (fun vs H Q E ⟨G,ds,gk,rs,q⟩ => rs.len.1.trans hms) fun cdv A outer s H vs Q E hr h => ?_
  obtain ⟨G,ds,gk,rs,q⟩ := h
  have hpl : ps.length≤N.length := by have := congrArg List.length S.pre; rw [List.length_take] at this; omega
  exact ⟨_,(hbody cdv A outer s H ⟨G,H,fun _ => none⟩ E hr).2,zao N.length ds,G,zjp gk rs (by omega),zj1 q⟩
end
section
variable {X : Cx} {g : GE} {m : List Md} {e : Expr} {f : FE} {es : List Expr} {fl : Rho → Res (List D)} {k : Nat} {fa : Addr} {fd : FuncData} {ps : List Str} {F : List D → Res D} {dvs : List V} {ds : List Value} {dds : List D} {x : Str} {p pos : Pos} {ms : List Md}
noncomputable def tLM (X : Cx) (g : GE) (m : List Md) (ms : List Md) (f : Rho→Res (List D)) : TA := fun σ H Q => ∃ r G,SI X g m r G σ H∧fin (f r) (fun ds => ∀ vs G' H',Grow X.K G H G' H'→ArgsOk X.K G' H' ms vs ds→Q vs H') (XW X σ G H)
noncomputable def SAM (X : Cx) (g : GE) (m : List Md) (es : List Expr) (ms : List Md) (f : Rho→Res (List D)) : Prop := PA X es (tLM X g m ms f)
theorem zaz : SAM X g m [] [] lNil := PA.imp zf3 fun σ H Q ⟨r,G,si,k⟩ => k [] G H (Grow.refl si.gok) .nil
theorem m_sh (ha : SE X g m e f) (hr : SAM X g m es ms fl) (hs : starEach (e::es) X.env = (false,eval e X.env)::starEach es X.env := by rfl) : SAM X g m (e::es) (.sh::ms) (zac f fl) := by
  refine PA.imp (zdh ha hr hs) fun σ H Q ⟨r,G,si,k⟩ => ⟨r,G,si,zah (zag k) fun d k1 v G1 H1 w1 r1 => ⟨r,G1,si.grow w1,?_⟩⟩
  exact zaB (zag k1) w1 fun ds z vs G2 H2 w2 r2 => z (v::vs) G2 H2 (w1.trans w2) (.sh (r1.mono w2.ge) r2)
theorem m_bw (ha : SB X g m e f) (hr : SAM X g m es ms fl) (hs : starEach (e::es) X.env = (false,eval e X.env)::starEach es X.env := by rfl) : SAM X g m (e::es) (.bw::ms) (zac f fl) := by
  refine PA.imp (zdh ha hr hs) fun σ H Q ⟨r,G,si,k⟩ => ⟨r,G,si,zah (zag k) fun d k1 v G1 H1 w1 r1 => ⟨r,G1,si.grow w1,?_⟩⟩
  exact zaB (zag k1) w1 fun ds z vs G2 H2 w2 r2 => z (v::vs) G2 H2 (w1.trans w2) (.bw (r1.mono w2) r2)
noncomputable def zat (fl : Rho→Res (List D)) (dds : List D) (F : List D→Res D) : FE := fun r => (fl r).bind fun ds => noX (F (ds++dds))
theorem zmB {ro : Bool} {vs : List V} {zs : List D} {G : GH} {H : Hp} {Q : VK} (gk : GOk X.K G H) (rs : ArgsOk X.K G H ms vs zs) (hsc : Paired Scl dvs dds) (q : fin (noX (F (zs++dds))) (fun d => ∀ v G' H',Grow X.K G H G' H'→RV ro X.K H G' H' v d→Q v H') fun _ => False) :
    spM X.K ro (ms++List.replicate dds.length .sh) F (vs++dvs) H Q E0 := by
  refine ⟨G,zs++dds,gk,rs.app hsc,?_⟩
  cases e : F (zs++dds) with
  | ok d => rw [e] at q; exact q
  | exc x => rw [e] at q; exact q.elim
  | stuck => rw [e] at q; exact q.elim
theorem zme {α : Type} {r : Res α} {q : α→Prop} {x : D→Prop} (h : fin r q x) (hr : ∀ e,r≠.exc e) : fin r q fun _ => False := by
  cases r with
  | ok a => exact h
  | exc e => exact absurd rfl (hr e)
  | stuck => exact h
theorem zrm (r : Res D) (e : D) : noX r≠.exc e := by cases r <;> simp [noX]
theorem zqx (G1 : FnOk X.prog X.w X.K X.mg X.base CX0 k fa fd ps (spM X.K false (ms++List.replicate dds.length .sh) F)) (hr : Room k X.A) (hg : Gl X x) (hm : X.mg x = some (.ref fa)) (hk : PySem.W.keepIn X.K (.ref fa) = true) (hb : zjg X.K fd ps ds) (hd : Vals dvs ds) (hsc : Paired Scl dvs dds)
    (ha : SAM X g m (e::es) ms fl) (hdb : (x == ("__debug__" : Str)) = false := by decide) (he : starEach (e::es) X.env = (false,eval e X.env)::starEach es X.env := by rfl) (hpl : (backTo pos (starEach es X.env)).any (·.1) = false := by rfl) :
    SE X g m (.Call (.Name x p) (e::es) [] pos) (zat fl dds F) := by
  refine PE.imp (zpd G1 hr hg hm hk hb hd zsI ha hdb he hpl) fun σ H Q ⟨r,G,si,q⟩ => ⟨r,G,si,?_⟩
  cases ez : fl r with
  | ok zs =>
    unfold zat at q
    rw [ez] at q
    intro vs G' H' w' rs
    exact zmB w'.ok rs hsc (zah (zme q (zrm _)) fun d k v G2 H2 w2 rv => k v G2 H2 (w'.trans w2) rv)
  | exc x => unfold zat at q; rw [ez] at q; exact q
  | stuck => unfold zat at q; rw [ez] at q; exact q
end
end DL
end
section
namespace DL
open PySem PySem.Spec PyProof.Rows L2
theorem znO {env : Env} : ∀ (l : List (Str × NameKind)) (cs : List (Str × Addr)),(∀ x∈l,x.2 = .free→∃ c,env.cells.lookup x.1 = some c)→(∀ x c,cs.lookup x = some c→env.cells.lookup x = some c) →
    ∃ cl,(forIn l cs (fun (x : Str × NameKind) (cs : List (Str × Addr)) => if (x.2 == NameKind.free) = true then (do let a ← cellOf env x.1; pure (ForInStep.yield ((x.1,a)::cs))) else pure (ForInStep.yield cs)) : Sem (List (Str × Addr))) = pure cl ∧
      (∀ x c,cl.lookup x = some c→env.cells.lookup x = some c)∧(∀ x,(x,NameKind.free)∈l→∃ c,cl.lookup x = some c)∧(∀ x c,cs.lookup x = some c→∃ c',cl.lookup x = some c') := by
  intro l
  induction l with
  | nil => intro cs _ h; exact ⟨cs,rfl,h,fun x hx => (by cases hx),fun x c h => ⟨c,h⟩⟩
  | cons y l ih =>
    intro cs hf hc
    obtain ⟨n,k⟩ := y
    by_cases hk : k = .free
    · subst hk
      obtain ⟨c,ec⟩ := hf (n,.free) List.mem_cons_self rfl
      have e1 : cellOf env n = pure c := by unfold cellOf; rw [ec]
      have hc' : ∀ x c',((n,c)::cs).lookup x = some c'→env.cells.lookup x = some c' := fun x c' h => by
        rw [List.lookup_cons] at h
        cases q : x == n with
        | true => rw [q] at h; cases h; rw [eq_of_beq q]; exact ec
        | false => rw [q] at h; exact hc x c' h
      obtain ⟨cl,e2,h1,h2,h3⟩ := ih ((n,c)::cs) (fun x hx => hf x (List.mem_cons_of_mem _ hx)) hc'
      refine ⟨cl,?_,h1,fun x hx => ?_,fun x c' h => ?_⟩
      · rw [← e2]
        rw [List.forIn_cons]
        show (cellOf env n >>= fun a => pure (ForInStep.yield ((n,a)::cs))) >>= _ = _
        rw [e1]
        rfl
      · rcases List.mem_cons.mp hx with z | z
        · cases z; exact h3 n c (by rw [List.lookup_cons]; simp)
        · exact h2 x z
      · cases q : x == n with
        | true => exact h3 x c (by rw [List.lookup_cons,q])
        | false => exact h3 x c' (by rw [List.lookup_cons,q]; exact h)
    · obtain ⟨cl,e2,h1,h2,h3⟩ := ih cs (fun x hx => hf x (List.mem_cons_of_mem _ hx)) hc
      have hb : (k == NameKind.free) = false := by simpa using hk
      refine ⟨cl,?_,h1,fun x hx => ?_,h3⟩
      · rw [← e2,List.forIn_cons]
        simp only [hb,Bool.false_eq_true,if_false]
        rfl
      · rcases List.mem_cons.mp hx with z | z
        · cases z; exact absurd rfl hk
        · exact h2 x z
theorem zkI {scope : Scope} {env : Env} (hf : ∀ x∈scope.names,x.2 = .free→∃ c,env.cells.lookup x.1 = some c) :
    ∃ cl,closureFor scope env = pure cl∧(∀ x c,cl.lookup x = some c→env.cells.lookup x = some c)∧(∀ x,(x,NameKind.free)∈scope.names→∃ c,cl.lookup x = some c) := by
  obtain ⟨cl,e,h1,h2,_⟩ := znO scope.names [] hf (fun x c h => by cases h)
  refine ⟨cl,?_,h1,h2⟩
  have e0 : closureFor scope env = ((forIn scope.names ([] : List (Str × Addr)) (fun (x : Str × NameKind) (cs : List (Str × Addr)) => if (x.2 == NameKind.free) = true then (do let a ← cellOf env x.1; pure (ForInStep.yield ((x.1,a)::cs))) else pure (ForInStep.yield cs)) : Sem (List (Str × Addr))) >>= fun cs => pure cs) := rfl
  rw [e0,e]
  rfl
theorem zef {f : Str→NameKind→NameKind} : ∀ (l : List (Str × NameKind)) (x : Str),(l.map fun y => (y.1,f y.1 y.2)).lookup x = (l.lookup x).map (f x)
  | [],x => rfl
  | (n,k)::l,x => by
    rw [List.map_cons,List.lookup_cons,List.lookup_cons]
    cases q : x == n with
    | true => simp [eq_of_beq q]
    | false => exact zef l x
noncomputable def relK (env : Env) (n : Str) (k : NameKind) : NameKind := if (k == .free && env.scope.kind == .function && env.kindOf n == some .cell) = true then .cell else k
theorem zec (scope : Scope) (env : Env) (x : Str) : (relabel scope env).names.lookup x = (scope.names.lookup x).map (relK env x) := by
  rw [← zef]
  unfold relabel
  congr 1
  apply List.map_congr_left
  intro y _
  obtain ⟨n,k⟩ := y
  show (if (k == NameKind.free && env.scope.kind == .function && env.kindOf n == some .cell) = true then (n,NameKind.cell) else (n,k)) = (n,relK env n k)
  unfold relK
  split <;> rfl
structure CompSc (X : Cx) (scope : Scope) (N' : List Str) (nl : Nat) (cap : List Nat) : Prop where
  kind : scope.kind = .function
  nocell : ∀ y∈scope.names,y.2≠.cell
  names : ∀ y∈scope.names,y.2 = .local→scope.names.lookup y.1 = some .local
  freeK : ∀ y∈scope.names,y.2 = .free→X.env.kindOf y.1 = some .cell∨X.env.kindOf y.1 = some .free
  len : N'.length = nl + cap.length
  capN : ∀ j,j < cap.length→∃ x,N'[nl + j]? = some x∧X.N[cap.getD j 0]? = some x∧scope.names.lookup x = some .free
noncomputable def cxC (X : Cx) (s₀ : Shared) (H₀ : Hp) (N' : List Str) (scope : Scope) (cl : List (Str × Addr)) (C : Addr) (fp : List Addr) : Cx where
  prog := X.prog
  w := X.w
  K := X.K
  mg := X.mg
  base := X.base
  A := X.A
  N := N'
  s₀ := s₀
  H₀ := H₀
  env := compEnvC scope cl C X.env
  outer := X.stack
  stack := X.stack
  ex := fp
  fn := fun _ => false
  calm := X.calm
  pn := []
  xe := fun _ _ => False
section
variable {X : Cx} {pins : List (Addr × Obj)} {σ : L2.St} {H : Hp} {s : Shared} {scope : Scope} {N' : List Str} {nl : Nat} {cap : List Nat} {cl : List (Str × Addr)} {C : Addr} {fp : List Addr}
theorem zr3 (I : Inv X pins σ H s) (sc : CompSc X scope N' nl cap) (h1 : ∀ x c,cl.lookup x = some c→X.env.cells.lookup x = some c) (h2 : ∀ x,(x,NameKind.free)∈scope.names→∃ c,cl.lookup x = some c)
    (hf : ∀ b∈fp,FpOk X pins H b∧b < s.heap.objs.size) (hC : s.heap.objs.size≤C) : (cxC X s H N' scope cl C fp).Ok where
  mod := I.ok.mod
  kind := sc.kind
  glob := I.ok.glob
  blt := I.ok.blt
  above := hC
  inj := fun x y c a b => I.ok.inj x y c (h1 x c a) (h1 y c b)
  has := fun x hk => by
    have hk' : (scope.names.lookup x).map (relK X.env x) = some .cell∨(scope.names.lookup x).map (relK X.env x) = some .free := by
      rw [← zec]; exact hk
    cases e : scope.names.lookup x with
    | none => rw [e] at hk'; rcases hk' with z | z <;> cases z
    | some k =>
      have hm := PySem.mem_of_lookup e
      have kf : k = .free := by
        rw [e] at hk'
        have hk2 : relK X.env x k = .cell∨relK X.env x k = .free := by
          rcases hk' with z | z
          · exact .inl (Option.some.inj z)
          · exact .inr (Option.some.inj z)
        unfold relK at hk2
        split at hk2
        · rename_i hc
          simp only [Bool.and_eq_true,beq_iff_eq] at hc
          exact hc.1.1
        · rcases hk2 with z | z
          · exact absurd z (sc.nocell _ hm)
          · exact z
      subst kf
      exact h2 x hm
  cab := fun x c h => by cases h
  hd := I.ok.hd
  frames := I.ok.frames
  stk := .inl rfl
  exf := fun b hb => ⟨Nat.ne_of_lt (Nat.lt_of_lt_of_le (hf b hb).2 hC),fun x c e => (hf b hb).1.2.2.2.2.1 x c (h1 x c e)⟩
  bs := I.bs
  bsz := Nat.le_trans I.ok.bsz I.sz
  noex := fun b o e hb => by
    obtain ⟨_,_,_,hx,_⟩ := (hf b hb).1
    rcases hx with z | z
    · exact I.ok.noex b o e z
    · exact absurd (Nat.lt_of_lt_of_le (Heap.lt_size e) (Nat.le_trans I.ok.bsz z)) (Nat.lt_irrefl _)
  exfs := fun b hb hfs => by
    obtain ⟨_,q1,q2,_⟩ := (hf b hb).1
    rcases List.mem_cons.mp (I.stkSub b hfs) with z | z
    · exact q1 z
    · exact q2 z
  funs := I.stack
  frf := I.stkFree
end
noncomputable def zet (ft : FT) (q : FQ) (fe : FE) (r0 : Rho) : List D→Res (List D)
  | [] => .ok []
  | d::ds => (opt (ft d r0)).bind fun r1 => (q r1).bind fun c => if c = true then (fe r1).bind fun v => (zet ft q fe r0 ds).bind fun vs => .ok (v::vs) else zet ft q fe r0 ds
noncomputable def capR (nl : Nat) (cap : List Nat) (r : Rho) : Rho := List.replicate nl none++cap.map fun i => r.getD i none
noncomputable def capM (nl : Nat) (cap : List Nat) (m : List Md) : List Md := List.replicate nl Md.sh++cap.map fun i => if m.getD i Md.sh = Md.sh then Md.sh else Md.bw
noncomputable def capS (nl : Nat) (cap : List Nat) (st : L2.St) : L2.St := List.replicate nl none++cap.map fun i => st.getD i none
theorem zgk {α : Type} {nl : Nat} {cap : List Nat} {u : α} {h : Nat→α} {i : Nat} (hi : nl≤i) : (List.replicate nl u++cap.map h)[i]? = (cap[i - nl]?).map h := by
  rw [List.getElem?_append_right (by simpa using hi),List.length_replicate,List.getElem?_map]
section
variable {X : Cx} {pins : List (Addr × Obj)} {σ : L2.St} {H H' : Hp} {s : Shared} {scope : Scope} {N' : List Str} {nl : Nat} {cap : List Nat} {cl : List (Str × Addr)} {C : Addr} {fp : List Addr} {g : GE} {G G' : GH} {m : List Md} {r : Rho}
theorem zta (si : SI X g m r G σ H) (w : Grow X.K G H G' H') : SI (cxC X s H N' scope cl C fp) ⟨G,H,fun _ => none⟩ (capM nl cap m) (capR nl cap r) G' (capS nl cap σ) H' := by
  have lens : (capM nl cap m).length = nl + cap.length := by simp [capM]
  have lens2 : (capR nl cap r).length = nl + cap.length := by simp [capR]
  have lens3 : (capS nl cap σ).length = nl + cap.length := by simp [capS]
  have rget : ∀ (i : Nat) d,(capR nl cap r)[i]? = some (some d)→nl≤i∧∃ j,cap[i - nl]? = some j∧r[j]? = some (some d) := fun i d h => by
    by_cases hi : i < nl
    · unfold capR at h
      rw [List.getElem?_append_left (by simpa using hi),List.getElem?_replicate] at h
      split at h <;> cases h
    · refine ⟨by omega,?_⟩
      unfold capR at h
      rw [zgk (by omega)] at h
      cases e : cap[i - nl]? with
      | none => rw [e] at h; cases h
      | some j =>
        rw [e] at h
        refine ⟨j,rfl,?_⟩
        have h' : r.getD j none = some d := Option.some.inj h
        rw [List.getD_eq_getElem?_getD] at h'
        cases e2 : r[j]? with
        | none => rw [e2] at h'; cases h'
        | some o => rw [e2] at h'; rw [show o = some d from h']
  have mget : ∀ (i j : Nat) md,nl≤i→cap[i - nl]? = some j→(capM nl cap m)[i]? = some md→md = if m.getD j Md.sh = Md.sh then Md.sh else Md.bw := fun i j md hi hj h => by
    unfold capM at h
    rw [zgk hi,hj] at h
    exact (Option.some.inj h).symm
  have sget : ∀ (i j : Nat) v,nl≤i→cap[i - nl]? = some j→σ[j]? = some (some v)→(capS nl cap σ)[i]? = some (some v) := fun i j v hi hj h => by
    unfold capS
    rw [zgk hi,hj]
    show some (σ.getD j none) = _
    rw [List.getD_eq_getElem?_getD,h]
    rfl
  have mj : ∀ (j : Nat) d,r[j]? = some (some d)→m[j]? = some (m.getD j Md.sh) := fun j d h => by
    have hl : j < m.length := by
      have := (List.getElem?_eq_some_iff.mp h).1
      rw [si.lr,← si.lm] at this; exact this
    rw [List.getD_eq_getElem?_getD,List.getElem?_eq_getElem hl]
    rfl
  refine ⟨w.ok,w.he,w.ge,w.gf,by rw [lens,lens3],by rw [lens2,lens3],fun i d h hm => ?_,fun i d h hm => ?_,fun i d h hm => ?_,fun i j a d e _ h _ hm => ?_,fun i o h => nomatch h⟩
  · obtain ⟨hi,j,hj,hr⟩ := rget i d h
    have e := mget i j _ hi hj hm
    have hsh : m.getD j Md.sh = Md.sh := by
      by_cases z : m.getD j Md.sh = Md.sh
      · exact z
      · rw [if_neg z] at e; cases e
    obtain ⟨v,h1,h2⟩ := si.sh j d hr (by rw [mj j d hr,hsh])
    exact ⟨v,sget i j v hi hj h1,h2.mono w.ge⟩
  · obtain ⟨hi,j,hj,hr⟩ := rget i d h
    have e := mget i j _ hi hj hm
    split at e <;> cases e
  · obtain ⟨hi,j,hj,hr⟩ := rget i d h
    have e := mget i j _ hi hj hm
    have hsh : m.getD j Md.sh≠Md.sh := by
      intro z
      rw [if_pos z] at e; cases e
    have hmj := mj j d hr
    cases q : m.getD j Md.sh with
    | sh => exact absurd q hsh
    | ow =>
      rw [q] at hmj
      obtain ⟨a,h1,h2,_⟩ := si.ow j d hr hmj
      exact ⟨_,sget i j _ hi hj h1,.inr ⟨a,rfl,h2.mono w,h2.ob.isS⟩⟩
    | bw =>
      rw [q] at hmj
      obtain ⟨v,h1,h2⟩ := si.bw j d hr hmj
      refine ⟨v,sget i j _ hi hj h1,?_⟩
      rcases h2 with h2 | ⟨a,rfl,h2,_⟩
      · exact .inl (h2.mono w.ge)
      · exact .inr ⟨a,rfl,h2.mono w,h2.ob.isS⟩
  · obtain ⟨hi,j',hj,hr⟩ := rget i d h
    have e := mget i j' _ hi hj hm
    split at e <;> cases e
theorem zr5 (I : Inv X pins σ H s) (ok : (cxC X s H N' scope cl C fp).Ok) (sc : CompSc X scope N' nl cap) (h1 : ∀ x c,cl.lookup x = some c→X.env.cells.lookup x = some c) (h2 : ∀ x,(x,NameKind.free)∈scope.names→∃ c,cl.lookup x = some c)
    (hN : X.N.Nodup) {s4 : Shared} {H4 : Hp} {mc : Str→Option Value} (hos : s4.os = s.os) (hb : AllBare s4.gens) (kp : ∀ b o,s.heap.get? b = some o→s4.heap.get? b = some o) (hns : s4.heap.Ns C mc) (hC : s.heap.objs.size≤C) (hHC : H4 C = none)
    (hH : ∀ b,H b = none→b < s.heap.objs.size→H4 b = none) (un : Un (frs X.stack) fp H H4 s.heap s4.heap) (hok : HOk X.prog X.w H4 s4.heap) : Inv (cxC X s H N' scope cl C fp) [] (capS nl cap σ) H4 s4 := by
  refine ⟨ok,hos,hb,un,⟨mc,hns,fun i x v e1 e2 e3 => ?_⟩,fun x c e => ?_,hHC,fun x c e => ?_,fun p hp => absurd (show p∈([] : List (Addr × Obj)) from hp) (by simp),hok,?_⟩
  · have hi : nl≤i := by
      by_cases z : i < nl
      · unfold capS at e2
        rw [List.getElem?_append_left (by simpa using z),List.getElem?_replicate] at e2
        split at e2 <;> cases e2
      · omega
    unfold capS at e2
    rw [zgk hi] at e2
    cases ej : cap[i - nl]? with
    | none => rw [ej] at e2; cases e2
    | some j =>
      rw [ej] at e2
      have hj : i - nl < cap.length := (List.getElem?_eq_some_iff.mp ej).1
      obtain ⟨x',q1,q2,q3⟩ := sc.capN (i - nl) hj
      have ed : cap.getD (i - nl) 0 = j := by rw [List.getD_eq_getElem?_getD,ej]; rfl
      rw [ed] at q2
      have ei : nl + (i - nl) = i := by omega
      rw [ei] at q1
      have e1' : N'[i]? = some x := e1
      rw [q1] at e1'
      have ex : x' = x := Option.some.inj e1'
      subst ex
      have hv : σ[j]? = some (some v) := by
        have z : σ.getD j none = some v := Option.some.inj e2
        rw [List.getD_eq_getElem?_getD] at z
        cases q : σ[j]? with
        | none => rw [q] at z; cases z
        | some o => rw [q] at z; rw [show o = some v from z]
      have hfree := PySem.mem_of_lookup q3
      have kX := sc.freeK _ hfree rfl
      obtain ⟨mx,hnx,hl⟩ := I.loc
      obtain ⟨u,ru,lk⟩ := hl j x' v q2 hv (.inr kX)
      refine ⟨u,ru,.inr ?_⟩
      obtain ⟨c,ec⟩ := h2 x' hfree
      have hkk : Env.kindOf (cxC X s H N' scope cl C fp).env x' = some .cell∨Env.kindOf (cxC X s H N' scope cl C fp).env x' = some .free := by
        have z : (relabel scope X.env).names.lookup x' = some (relK X.env x' .free) := by rw [zec,q3]; rfl
        show (relabel scope X.env).names.lookup x' = _∨(relabel scope X.env).names.lookup x' = _
        rw [z]
        unfold relK
        split
        · exact .inl rfl
        · exact .inr rfl
      refine ⟨hkk,c,ec,?_⟩
      rcases lk with ⟨k,_⟩ | ⟨_,c',ec',hcell⟩
      · rcases kX with z | z <;> rw [k] at z <;> cases z
      · rw [h1 x' c ec] at ec'
        cases ec'
        obtain ⟨o,ho,hd⟩ := hcell
        exact ⟨o,kp c o ho,hd⟩
  · obtain ⟨v,o,ho,hd⟩ := I.cell x c (h1 x c e)
    exact ⟨v,o,kp c o ho,hd⟩
  · obtain ⟨v,o,ho,hd⟩ := I.cell x c (h1 x c e)
    exact hH c (I.freeC x c (h1 x c e)) (Heap.lt_size ho)
  · show (capS nl cap σ).length = N'.length
    rw [sc.len]
    simp [capS]
end
end DL
end
section
namespace DL
open PySem PySem.Spec PyProof.Rows L2
section
variable {prog : Program} {w : World} {A : Around} {R : Result → Shared → Prop} {s : Shared}
theorem zpO {elt target iter : Expr} {ifs : List Expr} {scope : Scope} {pos : Pos} {it acc : Value} {env : Env} (I : Nat→Shared→Prop)
    (turn : ∀ n s,I n s→wpAny (model prog w) A (pyNext it) (fun r s1 => match r with
      | none => R (.ok .next) s1
      | some v => wpAny (model prog w) A (letOwnedTupleGo target it v) (fun _ s1' => wpAny (model prog w) A (assign target env v) (fun _ s2 =>
          wpAny (model prog w) A (forIn ifs true fun c r => if r = true then do let ok ← isTrue c env (eval c env); pure (ForInStep.yield ok) else pure (ForInStep.yield r)) (fun ok s3 =>
            if ok = true then wpAny (model prog w) A (eval elt env) (fun x s4 =>
              wpAny (model prog w) A (call (.builtin "list.append") [acc,x]) (fun _ s5 => ∃ m,m < n∧I m s5) (notedBy (model prog w) A env fun e s' => R (.error e) s') s4) (notedBy (model prog w) A env fun e s' => R (.error e) s') s3
            else ∃ m,m < n∧I m s3) (notedBy (model prog w) A env fun e s' => R (.error e) s') s2) (notedBy (model prog w) A env fun e s' => R (.error e) s') s1')
          (notedBy (model prog w) A env fun e s' => R (.error e) s') s1) (notedBy (model prog w) A env fun e s' => R (.error e) s') s)
    (n : Nat) (h : I n s) : codeAny (model prog w) A (.compLoop (.ListComp elt [⟨target,iter,ifs,0⟩] scope pos) 0 it acc env) R s := by
  refine codeAny_loop rfl I (fun n s hI => ?_) n h
  show wpAny _ A ((compTurn (.ListComp elt [⟨target,iter,ifs,0⟩] scope pos) 0 it acc env).onRaise (fun x => do noteFrame x env; theTreesLotGoes x)) _ _ s
  refine wpAny_noted ?_
  rw [compTurn_list]
  refine wpAny_bind (wpAny_standAt (wpAny_bind (wpAny_mono (turn n s hI) (fun r s1 h1 => ?_) fun _ _ h' => h')))
  cases r with
  | none => exact wpAny_pure h1
  | some v =>
    refine wpAny_bind (wpAny_mono h1 (fun _ s1' h1' => ?_) fun _ _ h' => h')
    refine wpAny_bind (wpAny_mono h1' (fun _ s2 h2 => wpAny_bind (wpAny_mono h2 (fun ok s3 h3 => ?_) fun _ _ h' => h')) fun _ _ h' => h')
    cases ok with
    | false => exact wpAny_pure ⟨rfl,h3⟩
    | true =>
      exact wpAny_bind (wpAny_bind (wpAny_mono h3 (fun x s4 h4 => wpAny_bind (wpAny_mono h4 (fun _ s5 h5 => wpAny_pure (wpAny_pure ⟨rfl,h5⟩)) fun _ _ h' => h')) fun _ _ h' => h'))
end
noncomputable def SQs (X : Cx) (g : GE) (m : List Md) (ifs : List Expr) (f : FQ) : Prop := ∀ (pins : List (Addr × Obj)) (s : Shared) (σ : L2.St) (H : Hp) (Q : Bool→Hp→Prop),Inv X pins σ H s→tQ X g m f σ H Q →
  wpAny (model X.prog X.w) X.A (forIn ifs true fun c r => if r = true then do let ok ← isTrue c X.env (eval c X.env); pure (ForInStep.yield ok) else pure (ForInStep.yield r)) (TP X pins σ Q) X.xe s
section
variable {X : Cx} {g : GE} {m : List Md} {c : Expr} {p : FQ}
theorem zeK : SQs X g m [] fun _ => .ok true := fun pins s σ H Q I ⟨r,G,si,q⟩ => wpAny_tests_nil ⟨H,I,q G H (Grow.refl si.gok)⟩
theorem zjA (h : SQ X g m c p) : SQs X g m [c] p := fun pins s σ H Q I q => wpAny_tests_one (h pins s σ H Q I q)
end
noncomputable def FtOk (ft : FT) (nl : Nat) : Prop := ∀ d r r1,ft d r = some r1→r1.length = r.length∧∀ i,nl≤i→r1[i]? = r[i]?
theorem zc2 {i nl : Nat} (h : i < nl) : FtOk (ftN i) nl := fun d r r1 e => by
  cases e
  exact ⟨by simp,fun j hj => by rw [List.getElem?_set_ne (by omega)]⟩
section
variable {X : Cx} {pins : List (Addr × Obj)} {σ : L2.St} {H2 : Hp} {s2 : Shared} {scope : Scope} {N' : List Str} {nl : Nat} {cap : List Nat} {cl : List (Str × Addr)} {fp : List Addr} {g : GE} {G2 : GH} {m : List Md} {r : Rho} {elt tg iter : Expr} {ifs : List Expr} {pos : Pos}
  {J : It} {it : Addr} {tn : Nat→Heap→Prop} {ds vs : List D} {ft : FT} {q : FQ} {fe : FE} {E : Value→Shared→Prop}
theorem zpS (i : Nat) : (capM nl cap m)[i]?≠some Md.ow := fun h => by
  by_cases hi : i < nl
  · unfold capM at h
    rw [List.getElem?_append_left (by simpa using hi),List.getElem?_replicate] at h
    split at h <;> cases h
  · unfold capM at h
    rw [zgk (by omega)] at h
    cases e : cap[i - nl]? with
    | none => rw [e] at h; cases h
    | some j =>
      rw [e] at h
      have h' : (if m.getD j Md.sh = Md.sh then Md.sh else Md.bw) = Md.ow := Option.some.inj h
      split at h' <;> cases h'
theorem zmy {i : Nat} (hi : i < nl) (d : D) : (capR nl cap r)[i]?≠some (some d) := fun h => by
  unfold capR at h
  rw [List.getElem?_append_left (by simpa using hi),List.getElem?_replicate] at h
  split at h <;> cases h
theorem zim (hN : X.N.Nodup) (hcalm : X.calm = true) (sc : CompSc X scope N' nl cap) (h1 : ∀ x c,cl.lookup x = some c→X.env.cells.lookup x = some c) (h2 : ∀ x,(x,NameKind.free)∈scope.names→∃ c,cl.lookup x = some c)
    (I2 : Inv X pins σ H2 s2) (si : SI X g m r G2 σ H2) (T : Turn X.prog X.w X.K tg J fp it tn) (st : tn 0 s2.heap) (hf : ∀ b∈fp,FpOk X pins H2 b) (Y : YieldsC X.K J ds G2 H2) (hsz : ds.length≤sizeLine)
    (hg : ∀ C,SG (cxC X s2 H2 N' scope cl C fp) ⟨G2,H2,fun _ => none⟩ (capM nl cap m) tg ft (capM nl cap m)) (hft : FtOk ft nl) (hq : ∀ C,SQs (cxC X s2 H2 N' scope cl C fp) ⟨G2,H2,fun _ => none⟩ (capM nl cap m) ifs q) (he : ∀ C,SE (cxC X s2 H2 N' scope cl C fp) ⟨G2,H2,fun _ => none⟩ (capM nl cap m) elt fe)
    (hres : zet ft q fe (capR nl cap r) ds = .ok vs) {RR : Value→Addr→Result→Shared→Prop}
    (hRR : ∀ (p C : Addr) (s' : Shared) (H' : Hp) (G' : GH),Inv X pins σ H' s'→(∃ mm,s'.heap.Ns C mm)→H' C = none→C≠X.env.locals→X.s₀.heap.objs.size≤C→(∀ x c,X.env.cells.lookup x = some c→c≠C)→(∀ z∈X.pn++pins,z.1≠C) →
      Grow X.K G2 H2 G' H'→H2 p = none→Own X.K G' H' p (.lst vs)→RR (.ref p) C (.ok .next) s') :
    wpAny (model X.prog X.w) X.A (newList []) (fun acc s3 => wpAny (model X.prog X.w) X.A (newFunctionEnv scope X.env.globals cl [] X.env.qual none .none (some X.env)) (fun cenv s4 =>
      codeAny (model X.prog X.w) X.A (.compStart (.ListComp elt [⟨tg,iter,ifs,0⟩] scope pos) 0 (.ref it) acc { cenv with scope := relabel scope X.env }) (RR acc cenv.locals) s4) E s3) E s2 := by
  refine wpAny_newObj_type (wpAny_newFunctionEnv sc.nocell (by intro y hy; simp at hy) (fun h₁ hns₁ hsb₁ => ?_) sc.kind)
  dsimp only at hns₁ hsb₁ ⊢
  generalize hH2 : s2.heap.push { cls := .type "list",dict := none,data := .seq ([] : List Value).toArray } = HH at hns₁ hsb₁ ⊢
  have hC : HH.objs.size = s2.heap.objs.size + 1 := by rw [← hH2,Heap.size_push]
  have hDC : s2.heap.objs.size≠HH.objs.size := by rw [hC]; exact Nat.ne_of_lt (Nat.lt_succ_self _)
  have hCle : s2.heap.objs.size≤HH.objs.size := by rw [hC]; exact Nat.le_succ _
  have below : ∀ b,b < s2.heap.objs.size→b≠HH.objs.size∧b≠s2.heap.objs.size := fun b hb => ⟨by rw [hC]; exact Nat.ne_of_lt (Nat.lt_succ_of_lt hb),Nat.ne_of_lt hb⟩
  have old : ∀ b o,s2.heap.get? b = some o→h₁.get? b = some o := fun b o e => hsb₁.extBut b o (below b (Heap.lt_size e)).1 (Heap.get?_push_of_some _ (hH2 ▸ Heap.get?_push_of_some _ e))
  have hacc : h₁.get? s2.heap.objs.size = some { cls := .type "list",dict := none,data := .seq ([] : List Value).toArray } := hsb₁.extBut _ _ hDC (Heap.get?_push_of_some _ (hH2 ▸ Heap.get?_push_size _ rfl))
  have hp2 : H2 s2.heap.objs.size = none := I2.hok.fresh (Nat.le_refl _)
  have hflt : ∀ b∈fp,FpOk X pins H2 b∧b < s2.heap.objs.size := fun b hb => ⟨hf b hb,by
    obtain ⟨o,e,_⟩ := T.obj 0 s2.heap st b hb
    exact Heap.lt_size e⟩
  have ok := zr3 (fp := fp) I2 sc h1 h2 hflt hCle
  generalize hXX : cxC X s2 H2 N' scope cl HH.objs.size fp = XX at ok
  have hG2p : G2 s2.heap.objs.size = none := si.gok.isN hp2
  have w0 : Grow X.K G2 H2 G2 (upd H2 s2.heap.objs.size (.lst [])) := Grow.new si.gok hp2 _
  have hok4 : HOk X.prog X.w (upd H2 s2.heap.objs.size (.lst [])) h₁ := I2.hok.laid old (Nat.le_refl _) ⟨Nat.zero_le _,[],0,.nil,hacc⟩
  have IC : Inv XX [] (capS nl cap σ) (upd H2 s2.heap.objs.size (.lst [])) { s2 with heap := h₁,toks := s2.toks + ([] : List (Str × Value)).length } := by
    subst hXX
    refine zr5 I2 ok sc h1 h2 hN rfl I2.bare old hns₁ hCle ?_ (fun b hb hlt => ?_) (Un.laid old (Nat.le_refl _) hp2) hok4
    · rw [zay (Ne.symm hDC)]; exact I2.hok.fresh hCle
    · rw [zay (below b hlt).2]; exact hb
  have SC : SI XX ⟨G2,H2,fun _ => none⟩ (capM nl cap m) (capR nl cap r) G2 (capS nl cap σ) (upd H2 s2.heap.objs.size (.lst [])) := by
    subst hXX
    exact zta si w0
  have hst₁ : tn 0 h₁ := T.keep _ _ _ st fun b _ o e => old b o e
  have hfX : ∀ (H' : Hp),(∀ b∈fp,H' b = none)→∀ b∈fp,FpOk XX [] H' b := fun H' hn b hb => by
    clear IC SC
    subst hXX
    obtain ⟨z0,z1,z2,z3,z4,z5⟩ := hf b hb
    refine ⟨hn b hb,?_,?_,?_,?_,?_⟩
    · exact (below b (hflt b hb).2).1
    · intro hfs
      rcases List.mem_cons.mp (I2.stkSub b hfs) with z | z
      · exact z1 z
      · exact z2 z
    · exact .inl hb
    · exact fun x c e => z4 x c (h1 x c e)
    · intro p hp; exact absurd (show p∈([] : List (Addr × Obj)) from hp) (by simp)
  have eA : XX.A = X.A := Eq.rec (motive := fun z _ => z.A = X.A) rfl hXX
  have eP : XX.prog = X.prog := Eq.rec (motive := fun z _ => z.prog = X.prog) rfl hXX
  have eW : XX.w = X.w := Eq.rec (motive := fun z _ => z.w = X.w) rfl hXX
  have eK : XX.K = X.K := Eq.rec (motive := fun z _ => z.K = X.K) rfl hXX
  have eX : XX.xe = fun _ _ => False := Eq.rec (motive := fun z _ => z.xe = fun _ _ => False) rfl hXX
  have eE : XX.env = compEnvC scope cl HH.objs.size X.env := Eq.rec (motive := fun z _ => z.env = compEnvC scope cl HH.objs.size X.env) rfl hXX
  have eC : XX.calm = true := Eq.rec (motive := fun z _ => z.calm = true) hcalm hXX
  have eH : XX.H₀ = H2 := Eq.rec (motive := fun z _ => z.H₀ = H2) rfl hXX
  have hg' : PG XX tg (tG XX ⟨G2,H2,fun _ => none⟩ (capM nl cap m) (capM nl cap m) ft) := Eq.rec (motive := fun z _ => PG z tg (tG z ⟨G2,H2,fun _ => none⟩ (capM nl cap m) (capM nl cap m) ft)) (hg _).2 hXX
  have hq' : SQs XX ⟨G2,H2,fun _ => none⟩ (capM nl cap m) ifs q := Eq.rec (motive := fun z _ => SQs z ⟨G2,H2,fun _ => none⟩ (capM nl cap m) ifs q) (hq _) hXX
  have he' : SE XX ⟨G2,H2,fun _ => none⟩ (capM nl cap m) elt fe := Eq.rec (motive := fun z _ => SE z ⟨G2,H2,fun _ => none⟩ (capM nl cap m) elt fe) (he _) hXX
  have fin' : ∀ {H' : Hp} {s' : Shared} {σ' : L2.St} {G' : GH} {ws : List V},Inv XX [] σ' H' s'→Grow X.K G2 H2 G' H'→H' s2.heap.objs.size = some (.lst ws)→G' s2.heap.objs.size = none→RGs X.K G' ws vs→RR (.ref s2.heap.objs.size) HH.objs.size (.ok .next) s' := fun {H' s' σ' G' ws} J1 wg hpp hgp rs => by
    clear IC SC hfX hg' hq' he' eA eP eW eK eX eE eC eH
    subst hXX
    have un := J1.base
    refine hRR _ _ s' H' G' ?_ (let ⟨mm,hn,_⟩ := J1.loc; ⟨mm,hn⟩) J1.free (Nat.ne_of_gt (Nat.lt_of_lt_of_le I2.lt hCle)) (Nat.le_trans I2.sz hCle) (fun x c e z => ?_) (fun z hz e => ?_) wg hp2 ⟨hgp,.lst hpp rs⟩
    · refine I2.call' J1.os un J1.hok J1.bare fun b hb => ?_
      obtain ⟨z0,z1,z2,z3,z4,z5⟩ := hf b hb
      exact ⟨z3,z1,z4,z5⟩
    · obtain ⟨v,o,ho,_⟩ := I2.cell x c e
      exact absurd (Nat.lt_of_lt_of_le (Heap.lt_size ho) hCle) (by rw [z]; exact Nat.lt_irrefl _)
    · have := (I2.pin z hz).1
      exact absurd (Nat.lt_of_lt_of_le (Heap.lt_size this) hCle) (by rw [e]; exact Nat.lt_irrefl _)
  have loop : codeAny (model X.prog X.w) X.A (.compLoop (.ListComp elt [⟨tg,iter,ifs,0⟩] scope pos) 0 (.ref it) (.ref s2.heap.objs.size) (compEnvC scope cl HH.objs.size X.env)) (RR (.ref s2.heap.objs.size) HH.objs.size)
      { s2 with heap := h₁,toks := s2.toks + ([] : List (Str × Value)).length } := by
    refine zpO (fun n s' => ∃ (i : Nat) (σ' : L2.St) (H' : Hp) (G' : GH) (ws : List V) (done rest : List D),Inv XX [] σ' H' s'∧SI XX ⟨G2,H2,fun _ => none⟩ (capM nl cap m) (capR nl cap r) G' σ' H'∧tn i s'.heap∧(∀ b∈fp,H' b = none)∧Grow X.K G2 H2 G' H' ∧
        H' s2.heap.objs.size = some (.lst ws)∧G' s2.heap.objs.size = none∧RGs X.K G' ws done∧zet ft q fe (capR nl cap r) (ds.drop i) = .ok rest∧vs = done++rest∧done.length≤i∧i≤ds.length∧n = ds.length - i) ?_ ds.length
      ⟨0,_,_,G2,[],[],vs,IC,SC,hst₁,fun b hb => ?_,w0,zam,hG2p,.nil,hres,rfl,Nat.le_refl _,Nat.zero_le _,rfl⟩
    rotate_left
    · rw [zay (below b (hflt b hb).2).2]; exact (hf b hb).1
    rintro n s3 ⟨i,σ3,H3,G3,ws,done,rest,I3,S3,st3,fr3,w3,hp3,hg3,rs3,hr3,hv3,hd3,hi3,rfl⟩
    have weaken : ∀ {α : Type} {t : Sem α} {Q : α→Shared→Prop} {s' : Shared} {E' : Value→Shared→Prop},wpAny (model XX.prog XX.w) XX.A t Q XX.xe s'→wpAny (model X.prog X.w) X.A t Q E' s' := fun h => by
      rw [eP,eW,eA,eX] at h
      exact wpAny_mono h (fun _ _ z => z) fun _ _ z => z.elim
    by_cases hlt : i < ds.length
    · have hd : ds.drop i = ds[i]::ds.drop (i + 1) := List.drop_eq_getElem_cons hlt
      rw [hd] at hr3
      unfold zet at hr3
      have it3 := T.item XX eP eW eK eC i [] s3 σ3 H3 (notedBy (model X.prog X.w) X.A (compEnvC scope cl HH.objs.size X.env) fun e s' => RR (.ref s2.heap.objs.size) HH.objs.size (.error e) s') I3 (hfX H3 fr3) st3 (Y.go G3 H3 i w3 hlt)
      rw [eA] at it3
      refine thn it3 fun rr s4 ⟨u,hr,h4⟩ => ?_
      subst hr
      refine thn h4 fun _ s5 ⟨x,H5,I5,r5,y5,st5,fr5⟩ => ?_
      obtain ⟨G5,w5,rv5⟩ := Y.yld G3 H3 i x H5 ds[i] w3 y5 (List.getElem?_eq_getElem hlt)
      have w25 := w3.trans w5
      cases eft : ft ds[i] (capR nl cap r) with
      | none => rw [eft] at hr3; cases hr3
      | some r1 =>
        rw [eft] at hr3
        simp only [opt_some,bind_ok] at hr3
        have I5' := I5.pinned (hfX H5 fr5) (T.obj _ _ st5)
        have S5 : SI XX ⟨G2,H2,fun _ => none⟩ (capM nl cap m) (capR nl cap r) G5 σ3 H5 := S3.grow (by rw [eK]; exact w5)
        have rv5' : RG XX.K G5 x ds[i] := by rw [eK]; exact rv5
        have as5 := hg' _ s5 σ3 H5 x u (fun σ6 H6 => H6 = H5∧SI XX ⟨G2,H2,fun _ => none⟩ (capM nl cap m) r1 G5 σ6 H5) I5' r5 ⟨capR nl cap r,G5,ds[i],S5,rv5',r1,eft,fun σ6 si6 => ⟨rfl,si6⟩⟩
        rw [eE] at as5
        refine thn (weaken as5) fun _ s6 ⟨σ6,H6,I6,e6,S6⟩ => ?_
        subst e6
        obtain ⟨fl1,fl2⟩ := hft _ _ _ eft
        cases eq1 : q r1 with
        | stuck => rw [eq1] at hr3; cases hr3
        | exc xx => rw [eq1] at hr3; cases hr3
        | ok b1 =>
          rw [eq1] at hr3
          simp only [bind_ok] at hr3
          have te6 := hq' _ s6 σ6 H6 (fun b H7 => b = b1∧∃ G7,Grow X.K G5 H6 G7 H7) I6 ⟨r1,G5,S6,by rw [eq1]; exact fun G7 H7 w7 => ⟨rfl,G7,by rw [eK] at w7; exact w7⟩⟩
          rw [eE] at te6
          refine thn (weaken te6) fun b s7 ⟨H7,I7,eb,G7,w7⟩ => ?_
          subst eb
          have S7 : SI XX ⟨G2,H2,fun _ => none⟩ (capM nl cap m) r1 G7 σ6 H7 := S6.grow (by rw [eK]; exact w7)
          have w27 := w25.trans w7
          have hp7 : H7 s2.heap.objs.size = some (.lst ws) := w7.he _ _ (w5.he _ _ hp3)
          have hg7 : G7 s2.heap.objs.size = none := by
            rw [w7.gf _ (by rw [w5.he _ _ hp3]; simp),w5.gf _ (by rw [hp3]; simp)]; exact hg3
          have back : ∀ {σ8 : L2.St} {H8 : Hp} {G8 : GH} {s8 : Shared},Inv XX ([]++zh1 fp s5.heap) σ8 H8 s8→Inv XX [] σ8 H8 s8∧tn (i + 1) s8.heap∧∀ b∈fp,H8 b = none := fun {σ8 H8 G8 s8} I8 => by
            refine ⟨I8.unpinned,T.keep _ _ _ st5 fun b hb o e => (I8.pin (b,o) (List.mem_append_right _ (List.mem_append_right _ (zdQ hb e)))).1,fun b hb => ?_⟩
            obtain ⟨o,e,_⟩ := T.obj _ _ st5 b hb
            exact (I8.pin (b,o) (List.mem_append_right _ (List.mem_append_right _ (zdQ hb e)))).2.1
          have less : ∀ {σ8 : L2.St} {H8 : Hp} {G8 : GH},SI XX ⟨G2,H2,fun _ => none⟩ (capM nl cap m) r1 G8 σ8 H8→SI XX ⟨G2,H2,fun _ => none⟩ (capM nl cap m) (capR nl cap r) G8 σ8 H8 := fun h => h.less fl1.symm fun j d hj => by
            by_cases hjn : j < nl
            · exact absurd hj (zmy hjn d)
            · rw [fl2 j (by omega)]; exact hj
          cases b with
          | false =>
            rw [if_neg Bool.false_ne_true] at hr3 ⊢
            obtain ⟨I7',t7,f7⟩ := back (G8 := G7) I7
            exact ⟨ds.length - (i + 1),by omega,i + 1,σ6,H7,G7,ws,done,rest,I7',less S7,t7,f7,w27,hp7,hg7,rs3.mono (Gle.trans w5.ge w7.ge),hr3,hv3,by omega,hlt,rfl⟩
          | true =>
            rw [if_pos rfl] at hr3 ⊢
            cases ee1 : fe r1 with
            | stuck => rw [ee1] at hr3; cases hr3
            | exc xx => rw [ee1] at hr3; cases hr3
            | ok d1 =>
              rw [ee1] at hr3
              simp only [bind_ok] at hr3
              cases er : zet ft q fe (capR nl cap r) (ds.drop (i + 1)) with
              | stuck => rw [er] at hr3; cases hr3
              | exc xx => rw [er] at hr3; cases hr3
              | ok rest' =>
                rw [er] at hr3
                simp only [bind_ok] at hr3
                cases hr3
                have el7 := he' _ s7 σ6 H7 (fun v H8 => ∃ G8,Grow X.K G7 H7 G8 H8∧RG X.K G8 v d1) I7 ⟨r1,G7,S7,by rw [ee1]; exact fun v G8 H8 w8 rv => ⟨G8,by rw [eK] at w8; exact w8,by rw [eK] at rv; exact rv⟩⟩
                rw [eE] at el7
                refine thn (weaken el7) fun u8 s8 ⟨v8,H8,I8,r8,G8,w8,rv8⟩ => ?_
                have hp8 : H8 s2.heap.objs.size = some (.lst ws) := w8.he _ _ hp7
                have hg8 : G8 s2.heap.objs.size = none := by rw [w8.gf _ (by rw [hp7]; simp)]; exact hg7
                have S8 : SI XX ⟨G2,H2,fun _ => none⟩ (capM nl cap m) r1 G8 σ6 H8 := S7.grow (by rw [eK]; exact w8)
                have hlen := Paired.length rs3
                have ap8 := zc1 (X := XX) _ s8 σ6 H8 (.ref s2.heap.objs.size) [v8] (.ref s2.heap.objs.size) [u8] (fun v H9 => H9 = upd H8 s2.heap.objs.size (.lst (ws++[v8]))) I8 rfl (.cons r8 .nil) ⟨_,ws,v8,rfl,rfl,hp8,by omega,rfl⟩
                refine thn (weaken ap8) fun u9 s9 ⟨v9,H9,I9,r9,e9⟩ => ?_
                subst e9
                obtain ⟨I9',t9,f9⟩ := back (G8 := G8) I9
                have rsn : RGs X.K G8 (ws++[v8]) (done++[d1]) := Paired.snoc (rs3.mono (Gle.trans (Gle.trans w5.ge w7.ge) w8.ge)) rv8
                have w28 := w27.trans w8
                refine ⟨ds.length - (i + 1),by omega,i + 1,σ6,_,G8,ws++[v8],done++[d1],rest',I9',less (S8.other hg8 hp2 zpS _),t9,f9,?_,zam,hg8,rsn,er,by rw [hv3,List.append_assoc]; rfl,by rw [List.length_append,List.length_singleton]; omega,hlt,rfl⟩
                refine ⟨fun b e hb => (w28.ok b e hb).mono (fun _ _ z => z) fun o z => ?_,fun b o hb => ?_,w28.ge,w28.gf⟩
                · rw [zay (by rintro rfl; rw [hg8] at hb; cases hb)]; exact z
                · rw [zay (by rintro rfl; rw [hp2] at hb; cases hb)]; exact w28.he b o hb
    · have e : i = ds.length := by omega
      subst e
      rw [List.drop_length] at hr3
      cases hr3
      rw [List.append_nil] at hv3
      subst hv3
      have dn := T.done XX eP eW eK eC ds.length [] s3 σ3 H3 (notedBy (model X.prog X.w) X.A (compEnvC scope cl HH.objs.size X.env) fun e s' => RR (.ref s2.heap.objs.size) HH.objs.size (.error e) s') I3 (hfX H3 fr3) st3 (Y.stop G3 H3 w3)
      rw [eA] at dn
      refine thn dn fun rr s4 ⟨hr,I4⟩ => ?_
      subst hr
      exact fin' I4 w3 hp3 hg3 rs3
  exact codeAny_compStart_list loop (T.self X.A 0 _ _ _ hst₁ loop)
end
end DL
end
section
namespace DL
open PySem PySem.Spec PyProof.Rows L2
noncomputable def noXL : Res (List D)→Res (List D)
  | .ok d => .ok d
  | _ => .stuck
@[simp] theorem noXL_ok (d : List D) : noXL (.ok d) = .ok d := rfl
noncomputable def zcV (nl : Nat) (cap : List Nat) (fi : FI) (ft : FT) (q : FQ) (fe : FE) : FE := fun r => (fi r).bind fun ds => (opt (sz ds)).bind fun ds => (noXL (zet ft q fe (capR nl cap r) ds)).bind fun vs => .ok (.lst vs)
section
variable {X : Cx} {g : GE} {m mb : List Md} {scope : Scope} {N' : List Str} {nl : Nat} {cap : List Nat} {elt tg iter : Expr} {ifs : List Expr} {pos pos' spos : Pos} {fi : FI} {ft : FT} {q : FQ} {fe : FE} {ro : Bool}
theorem zii {r : Rho} {P : D→Prop} {x : D→Prop} (h : fin (zcV nl cap fi ft q fe r) P x) : fin (fi r) (fun ds => ∃ vs,ds.length≤sizeLine∧zet ft q fe (capR nl cap r) ds = .ok vs∧P (.lst vs)) x := by
  unfold zcV at h
  refine zah (zag h) fun ds h1 => ?_
  obtain ⟨ds',e2,h2⟩ := zav (zag h1)
  obtain ⟨rfl,hl⟩ := zoN e2
  cases e3 : zet ft q fe (capR nl cap r) ds' with
  | ok vs => rw [e3] at h2; exact ⟨vs,hl,rfl,h2⟩
  | exc x => rw [e3] at h2; exact h2.elim
  | stuck => rw [e3] at h2; exact h2.elim
theorem CompSc.clo {pins : List (Addr × Obj)} {σ : L2.St} {H : Hp} {s : Shared} (sc : CompSc X scope N' nl cap) (ok : X.Ok) : ∃ cl,closureFor scope X.env = pure cl∧(∀ x c,cl.lookup x = some c→X.env.cells.lookup x = some c)∧(∀ x,(x,NameKind.free)∈scope.names→∃ c,cl.lookup x = some c) :=
  zkI fun y hy hf => ok.has y.1 (sc.freeK y hy hf)
theorem zfl (hN : X.N.Nodup) (hcalm : X.calm = true) (sc : CompSc X scope N' nl cap) (hi : SItC X g m tg iter fi) (hg : ∀ s0 H0 cl C fp g',SG (cxC X s0 H0 N' scope cl C fp) g' (capM nl cap m) tg ft (capM nl cap m)) (hft : FtOk ft nl)
    (hq : ∀ s0 H0 cl C fp g',SQs (cxC X s0 H0 N' scope cl C fp) g' (capM nl cap m) ifs q) (he : ∀ s0 H0 cl C fp g',SE (cxC X s0 H0 N' scope cl C fp) g' (capM nl cap m) elt fe)
    (hs : ∀ x,foldedSetIterable iter X.env x = pure x := by intro _; rfl) : SO X g m (.ListComp elt [⟨tg,iter,ifs,0⟩] scope pos) (zcV nl cap fi ft q fe) := by
  intro pins s σ H Q I h
  obtain ⟨r,G,si,k⟩ := h
  obtain ⟨cl,hcl,h1,h2⟩ := sc.clo (pins := pins) (σ := σ) (H := H) (s := s) I.ok
  have k1 := zii k
  rw [eval_ListComp]
  refine wpAny_comprehension_free (use := none) rfl hs hcl sc.kind sc.names (thn (hi pins s σ H (fun J H' => ∃ G' ds vs,Grow X.K G H G' H'∧YieldsC X.K J ds G' H'∧ds.length≤sizeLine∧zet ft q fe (capR nl cap r) ds = .ok vs ∧
    (∀ a G' H',Grow X.K G H G' H'→H a = none→Own X.K G' H' a (.lst vs)→Q (.ref a) H')) I ⟨r,G,si,zah k1 fun ds ⟨vs,z1,z2,z3⟩ J G' H' w y => ⟨G',ds,vs,w,y,z1,z2,z3⟩⟩) fun v s1 hv => thn hv fun itv s2 hv2 => ?_)
  obtain ⟨it,fp,tn,J,H2,rfl,I2,T,st,hf,G2,ds,vs,w2,Y,hsz,hres,hQ⟩ := hv2
  refine zim (RR := fun acc C => compPost (model X.prog X.w) X.A X.xe none (EP X pins σ Q) acc C) hN hcalm sc h1 h2 I2 (si.grow w2) T st hf Y hsz (fun C => hg _ _ _ _ _ _) hft (fun C => hq _ _ _ _ _ _) (fun C => he _ _ _ _ _ _) hres ?_
  intro p C s' H' G' I' hns hC1 hC2 hC3 hC4 hC5 w' hp ho
  obtain ⟨mm,hn⟩ := hns
  refine ⟨mm,hn,fun h' hsb => ⟨.ref p,H',?_,rfl,hQ p G' H' (w2.trans w') (w2.back hp) ho⟩⟩
  exact I'.turned (it := C) (t' := s'.toks) (fun b o hb e => hsb.extBut b o hb e) hC1 hC2.symm.symm (.inr hC3) hC4 hC5
theorem zdF (i : Nat) {y : Str} (hN : X.N.Nodup) (hcalm : X.calm = true) (hy : X.N[i]? = some y) (hyl : X.env.scope.names.lookup y = some .local) (sc : CompSc X scope N' nl cap) (hi : SItC X g m tg iter fi) (hg : ∀ s0 H0 cl C fp g',SG (cxC X s0 H0 N' scope cl C fp) g' (capM nl cap m) tg ft (capM nl cap m)) (hft : FtOk ft nl)
    (hq : ∀ s0 H0 cl C fp g',SQs (cxC X s0 H0 N' scope cl C fp) g' (capM nl cap m) ifs q) (he : ∀ s0 H0 cl C fp g',SE (cxC X s0 H0 N' scope cl C fp) g' (capM nl cap m) elt fe)
    (hsw : swapsWith (.ListComp elt [⟨tg,iter,ifs,0⟩] scope pos) (some (.Name y pos')) spos.line X.env = pure true := by rfl) (hs : ∀ x,foldedSetIterable iter X.env x = pure x := by intro _; rfl) :
    SS X g ro mb m (.Assign [.Name y pos'] (.ListComp elt [⟨tg,iter,ifs,0⟩] scope pos) spos) (setF m i (zcV nl cap fi ft q fe)) (m.set i .ow) := by
  refine ⟨by simp,?_⟩
  intro pins s σ H D0 I h
  obtain ⟨r,G,si,k⟩ := h
  obtain ⟨cl,hcl,h1,h2⟩ := sc.clo (pins := pins) (σ := σ) (H := H) (s := s) I.ok
  have k1 := zii (zbU si (m' := m.set i .ow) (by simp) k)
  rw [exec_Assign_Name_used _ _ _ _ hsw]
  refine wpAny_bind (wpAny_standAt (wpAny_bind ?_))
  show wpAny _ X.A (do let _ ← comprehension (.ListComp elt [⟨tg,iter,ifs,0⟩] scope pos) scope X.env _ (newList []) false (eval iter X.env) (some (assign (.Name y pos') X.env))) _ _ s
  refine wpAny_bind (wpAny_mono (wpAny_comprehension_free (use := some (assign (.Name y pos') X.env)) (Q := fun _ s' => SP X pins D0 .next s') rfl hs hcl sc.kind sc.names (thn (hi pins s σ H (fun J H' => ∃ G' ds vs,Grow X.K G H G' H'∧YieldsC X.K J ds G' H'∧ds.length≤sizeLine∧zet ft q fe (capR nl cap r) ds = .ok vs ∧
    (∀ σ' G' H',Gle G G'→SI X g (m.set i .ow) (r.set i (some (.lst vs))) G' σ' H'→D0.nx σ' H')) I ⟨r,G,si,zah k1 fun ds ⟨vs,z1,z2,z3⟩ J G' H' w y => ⟨G',ds,vs,w,y,z1,z2,z3⟩⟩) fun v s1 hv => thn hv fun itv s2 hv2 => ?_)) (fun _ s' hq => wpAny_pure (wpAny_pure hq)) fun _ _ e => e)
  obtain ⟨it,fp,tn,J,H2,rfl,I2,T,st,hf,G2,ds,vs,w2,Y,hsz,hres,hQ⟩ := hv2
  refine zim (RR := fun acc C => compPost (model X.prog X.w) X.A X.xe (some (assign (.Name y pos') X.env)) (fun _ s' => SP X pins D0 .next s') acc C) hN hcalm sc h1 h2 I2 (si.grow w2) T st hf Y hsz (fun C => hg _ _ _ _ _ _) hft (fun C => hq _ _ _ _ _ _) (fun C => he _ _ _ _ _ _) hres ?_
  intro p C s' H' G' I' hns hC1 hC2 hC3 hC4 hC5 w' hp ho
  obtain ⟨mm,hn⟩ := hns
  show wpAny _ X.A (assign (.Name y pos') X.env (.ref p)) _ _ s'
  refine wpAny_assign_Name (zhA I' hN hy (.inl hyl) (v := .ref p) rfl (fun s'' I'' ⟨a,hsb,ha⟩ => ?_) (.inr hyl))
  have hCa : C≠a := by
    rcases ha with z | z
    · rw [z]; exact hC2
    · exact (hC4 y a z).symm
  refine ⟨mm,hn.sameBut hsb hCa,fun h' hsb' => ?_⟩
  refine ⟨_,H',I''.turned (it := C) (t' := s''.toks) (fun b o hb e => hsb'.extBut b o hb e) hC1 hC2 (.inr hC3) hC4 hC5,?_⟩
  exact hQ _ G' H' (w2.trans w').ge (si.setN (w2.trans w') i (w2.back hp) ho)
end
end DL
end
section
namespace DL
open PySem PySem.Spec PyProof.Rows L2
noncomputable def MutD (K : PySem.W.Frag) (r : V→List V→Hp→VK→Prop) (mk : D→List D→Option D) : Prop := ∀ (G : GH) (H : Hp) (a : Addr) (d : D) (vs : List V) (ds : List D) (d' : D) (Q : VK),GOk K G H→Own K G H a d→RGs K G vs ds→mk d ds = some d' →
  (∀ o',OwnO K G (upd H a o') a d'→Q .non (upd H a o'))→r (.ref a) vs H Q
noncomputable def tyB (T : String) : D→Bool
  | .lst _ => T == "list"
  | .dic _ => T == "dict"
  | _ => false
noncomputable def mutF (T : String) (m : List Md) (i : Nat) (fl : Rho→Res (List D)) (mk : D→List D→Option D) : FS := fun r => match r[i]? with
  | some (some d) => if tyB T d = true then onE m r (fl r) fun ds => (match mk d ds with
    | some d' => .nx (r.set i (some d'))
    | none => .stuck) else .stuck
  | _ => .stuck
theorem zp6 {K : PySem.W.Frag} {G : GH} {H : Hp} {a : Addr} {d : D} {T : String} (o : Own K G H a d) (t : tyB T d = true) : tyV K T (.ref a) H := by
  cases o.ob with
  | lst r s => exact .inl ⟨eq_of_beq t,_,SqL.of r⟩
  | dic r s => exact .inr (.inr (.inl ⟨eq_of_beq t,.inl ⟨_,.inl r⟩⟩))
section
variable {X : Cx} {g : GE} {m mb : List Md} {e a b o : Expr} {es : List Expr} {f fa fb : FE} {fl : Rho → Res (List D)} {pos pos' apos cpos : Pos} {ro : Bool} {x name : Str} {T id : String} {R : V → List V → Hp → VK → Prop} {mk : D → List D → Option D}
theorem znv (i : Nat) (hm : m[i]? = some .ow) (hk : MutD X.K R mk) {D0 : Ends} {σ : L2.St} {H : Hp} (h : tS X g ro m m mb (mutF T m i fl mk) D0 σ H) :
    ∃ v,σ[i]? = some (some v)∧tyV X.K T v H∧tL X g m fl σ H fun xs H2 => R v xs H2 fun _ H1 => D0.nx σ H1 := by
  obtain ⟨r,G,si,k⟩ := h
  unfold mutF at k
  cases er : r[i]? with
  | none => simp only [er] at k; exact (show False from k).elim
  | some oo =>
    cases oo with
    | none => simp only [er] at k; exact (show False from k).elim
    | some d =>
      simp only [er] at k
      by_cases ht : tyB T d = true
      · rw [if_pos ht] at k
        obtain ⟨a,h1,h2,h3⟩ := si.mut hm er
        refine ⟨_,h1,zp6 h2 ht,r,G,si,zah (zbU si rfl k) fun ds k2 vs G' H' w rs => ?_⟩
        cases em : mk d ds with
        | none => simp only [em] at k2; exact (show False from k2).elim
        | some d' =>
          simp only [em] at k2
          obtain ⟨a',h1',h2',h3'⟩ := (si.grow w).mut hm er
          rw [h1] at h1'; cases h1'
          exact hk G' H' a d vs ds d' _ w.ok h2' rs em fun o' ob => k2 σ G' _ w.ge (h3' o' d' ob)
      · rw [if_neg ht] at k; exact (show False from k).elim
theorem zhe (i : Nat) (hm : m[i]? = some .ow) (pa : PlainAttrs T) (slot : Slot T name id) (hty : typeOf (.builtin id) = pure (.type "method_descriptor")) (hmt : MtR X id R) (hk : MutD X.K R mk) (hN : X.N[i]? = some x) (hv : Vis X.env.scope x) (ha : SA X g m (e::es) fl)
    (hd : (x == ("__debug__" : Str)) = false := by decide) (hcd : (x == ("__classdict__" : Str)) = false := by decide)
    (hbase : attributeBase (.Name x pos') name X.env (eval (.Name x pos') X.env) = eval (.Name x pos') X.env := by rfl)
    (hfew : ((backTo cpos (starEach (e::es) X.env)).all (fun x => ! x.1) && (backToKw cpos (keywordEach [] X.env)).all (fun x => x.1.isSome) && decide ((e::es).length + ([] : List Keyword).length + (if ([] : List Keyword).isEmpty then 0 else 1) < 30)) = true := by rfl)
    (hline : (apos.endLine == cpos.line) = true := by rfl) (hst : starEach (e::es) X.env = (false,eval e X.env)::starEach es X.env := by rfl) (hplain : (backTo cpos (starEach es X.env)).any (·.1) = false := by rfl) :
    SS X g ro mb m (.Expr (.Call (.Attribute (.Name x pos') name apos) (e::es) [] cpos) pos) (mutF T m i fl mk) m :=
  ⟨rfl,PS.imp (zlm (zq5 pa slot hty hmt (zh3 hN hv hd hcd) ha hbase hfew hline hst hplain)) fun D0 σ H h => znv i hm hk h⟩
noncomputable def appD : D→List D→Option D
  | .lst ds,[d] => if ds.length < sizeLine then some (.lst (ds++[d])) else none
  | _,_ => none
theorem zix {K : PySem.W.Frag} : MutD K zlj appD := by
  intro G H a d vs ds d' Q gk ow rs e q
  unfold appD at e
  split at e
  · split at e
    · rename_i hl
      cases e
      cases ow.ob with
      | lst r s =>
        cases rs with
        | cons r1 t =>
          cases t
          have := Paired.length s
          exact ⟨a,_,_,rfl,rfl,r,by omega,q _ (.lst zam (Paired.snoc s r1))⟩
    · cases e
  · cases e
noncomputable def zpF (x : Int) (n : Nat) : Nat := if x < 0 then (x + (n : Int)).toNat else min x.toNat n
noncomputable def insL {α : Type} (xs : List α) (x : Int) (y : α) : List α := xs.take (zpF x xs.length)++y::xs.drop (zpF x xs.length)
noncomputable def zlh : V→List V→Hp→VK→Prop := fun x vs H Q => ∃ l xs i y,x = .ref l∧vs = [.int i,y]∧H l = some (.lst xs)∧-(2 ^ 63)≤i∧i < 2 ^ 63∧xs.length < sizeLine∧Q .non (upd H l (.lst (insL xs i y)))
theorem zlJ : MtR X "list.insert" zlh := by
  intro pins s σ H x vs v us Q I rx rv h
  obtain ⟨l,xs,i,y,rfl,rfl,hH,h1,h2,hz,q⟩ := h
  cases rx
  obtain ⟨u,w',rfl,⟨t,rfl⟩,ry⟩ := zp4 rv
  obtain ⟨z,its,n,r,hl,e⟩ := I.lstM hH
  have hfit : ¬(! Builtin.List.listFitsIndex i) = true := by rw [fitsIndex_both h1 h2]; exact Bool.false_ne_true
  refine call_meets PySem.F.slot_list_insert ⟨_,e,rfl⟩ PySem.F.entry_list_insert (PySem.F.args_list_insert_3 _ _ _) (AutoListH.list_insert_list_int_val_1 l its.toArray n i t w' hfit (by rw [List.size_toArray]; omega)) ⟨e,?_⟩
  refine ⟨.non,_,I.lset (its' := insL its i w') hH e ?_ ?_ ?_,rfl,q⟩
  · show ((its.toArray.extract 0 (if i < 0 then (i + ((its.toArray.size : Nat) : Int)).toNat else min i.toNat its.toArray.size)).push w'++its.toArray.extract (if i < 0 then (i + ((its.toArray.size : Nat) : Int)).toNat else min i.toNat its.toArray.size)) = (insL its i w').toArray
    rw [List.size_toArray]
    unfold insL zpF
    generalize (if i < 0 then (i + ((its.length : Nat) : Int)).toNat else min i.toNat its.length) = k
    apply Array.ext'
    simp
    exact List.take_of_length_le (by rw [List.length_drop]; exact Nat.le_refl _)
  · unfold insL
    rw [hl]
    exact Vals.append (r.take _) (.cons ry (r.drop _))
  · unfold insL
    rw [List.length_append,List.length_cons,List.length_take,List.length_drop]
    omega
noncomputable def insD : D→List D→Option D
  | .lst ds,[.int i,d] => if ds.length < sizeLine∧-(2 ^ 63)≤i∧i < 2 ^ 63 then some (.lst (insL ds i d)) else none
  | _,_ => none
theorem zrI {α β : Type} {F : α→β→Prop} {l : List α} {r : List β} {x : α} {y : β} (h : Paired F l r) (i : Int) (hxy : F x y) : Paired F (insL l i x) (insL r i y) := by
  unfold insL
  rw [Paired.length h]
  exact Paired.app (Paired.tk _ h) (.cons hxy (Paired.dr _ h))
theorem zrH {K : PySem.W.Frag} : MutD K zlh insD := by
  intro G H a d vs ds d' Q gk ow rs e q
  unfold insD at e
  split at e
  · split at e
    · rename_i hl
      cases e
      cases ow.ob with
      | lst r s =>
        cases rs with
        | cons r1 t =>
          cases t with
          | cons r2 t =>
            cases t
            have := Paired.length s
            exact ⟨a,_,_,_,rfl,by rw [r1.int gk],r,hl.2.1,hl.2.2,by omega,q _ (.lst zam (zrI s _ r2))⟩
    · cases e
  · cases e
end
noncomputable def zb3 : D→Bool
  | .non => true
  | .bl _ => true
  | .int _ => true
  | .str _ => true
  | _ => false
noncomputable def toV : D→V
  | .non => .non
  | .bl b => .bl b
  | .int i => .int i
  | .str x => .str x
  | _ => .non
noncomputable def eqs (a b : D) : Bool := eqV (toV a) (toV b)
@[simp] theorem eqs_int (a b : Int) : eqs (.int a) (.int b) = (a == b) := rfl
@[simp] theorem eqs_str (a b : Str) : eqs (.str a) (.str b) = (a == b) := rfl
@[simp] theorem eqs_non_int (b : Int) : eqs .non (.int b) = false := rfl
@[simp] theorem eqs_int_non (b : Int) : eqs (.int b) .non = false := rfl
section
variable {K : PySem.W.Frag} {G : GH} {H : Hp} {v : V} {d : D}
theorem RB.flat (h : RB K G H v d) (gk : GOk K G H) (hf : zb3 d = true) : v = toV d∧zer v = true := by
  cases d with
  | non => rw [h.non gk]; exact ⟨rfl,rfl⟩
  | bl b => rw [h.bl gk]; exact ⟨rfl,rfl⟩
  | int i => rw [h.int gk]; exact ⟨rfl,rfl⟩
  | str x => rw [h.str gk]; exact ⟨rfl,rfl⟩
  | _ => cases hf
theorem zrS {xs : List V} {ds : List D} (h : RGs K G xs ds) (gk : GOk K G H) (hf : ds.all zb3 = true) : xs = ds.map toV∧xs.all zer = true := by
  induction h with
  | nil => exact ⟨rfl,rfl⟩
  | cons r t ih =>
    rw [List.all_cons,Bool.and_eq_true] at hf
    obtain ⟨e1,e2⟩ := RB.flat (H := H) r.rb gk hf.1
    obtain ⟨e3,e4⟩ := ih hf.2
    exact ⟨by rw [List.map_cons,← e3,← e1],by rw [List.all_cons,e2,e4]; rfl⟩
end
noncomputable def keyD : D→Option Key
  | .int i => some (.inl i)
  | .str x => some (.inr x)
  | _ => none
noncomputable def hasK (kvs : List (Key × D)) (k : Key) : Bool := kvs.any fun kv => decide (kv.1 = k)
noncomputable def getK (kvs : List (Key × D)) (k : Key) : Option D := (kvs.find? fun kv => decide (kv.1 = k)).map (·.2)
noncomputable def inB (x c : D) : Option Bool := match c with
  | .lst ds => if zb3 x = true∧ds.all zb3 = true then some (ds.any fun y => eqs y x) else none
  | .tup ds => if zb3 x = true∧ds.all zb3 = true then some (ds.any fun y => eqs y x) else none
  | .dic kvs => (keyD x).map (hasK kvs)
  | .str y => match x with
    | .str z => some (!(Builtin.Str.occurrences y z 0 y.length 1).isEmpty)
    | _ => none
  | _ => none
noncomputable def inD (x c : D) : Option D := (inB x c).map .bl
noncomputable def ninD (x c : D) : Option D := (inB x c).map fun b => .bl (! b)
theorem zoz {K : PySem.W.Frag} {G : GH} {k : Key} {ps : List (Key × V)} {kvs : List (Key × D)} (h : RKs K G ps kvs) (d : D) (e : getK kvs k = some d) : ∃ v,valV ps k = some v∧RG K G v d := by
  induction h with
  | nil => cases e
  | @cons p q ps kvs r t ih =>
    obtain ⟨k1,v1⟩ := p
    obtain ⟨k2,d2⟩ := q
    obtain ⟨e1,r1⟩ := r
    have e1' : k1 = k2 := e1
    subst e1'
    by_cases hk : k1 = k
    · subst hk
      have : d2 = d := by simpa [getK,List.find?_cons] using e
      subst this
      exact ⟨v1,zfF rfl,r1⟩
    · have e' : getK kvs k = some d := by simpa [getK,List.find?_cons,hk] using e
      obtain ⟨v,h1,h2⟩ := ih e'
      exact ⟨v,by rw [zez hk]; exact h1,h2⟩
theorem zmc {K : PySem.W.Frag} {G : GH} {k : Key} {ps : List (Key × V)} {kvs : List (Key × D)} (h : RKs K G ps kvs) (e : getK kvs k = none) : valV ps k = none := by
  induction h with
  | nil => rfl
  | @cons p q ps kvs r t ih =>
    obtain ⟨k1,v1⟩ := p
    obtain ⟨k2,d2⟩ := q
    obtain ⟨e1,r1⟩ := r
    have e1' : k1 = k2 := e1
    subst e1'
    by_cases hk : k1 = k
    · subst hk; simp [getK,List.find?_cons] at e
    · have e' : getK kvs k = none := by simpa [getK,List.find?_cons,hk] using e
      rw [zez hk]; exact ih e'
theorem zrK (kvs : List (Key × D)) (k : Key) : hasK kvs k = (getK kvs k).isSome := by
  induction kvs with
  | nil => rfl
  | cons p r ih =>
    by_cases e : p.1 = k
    · simp [hasK,getK,List.find?_cons,e]
    · have h1 : hasK (p::r) k = hasK r k := by simp [hasK,e]
      have h2 : getK (p::r) k = getK r k := by simp [getK,List.find?_cons,e]
      rw [h1,h2,ih]
theorem zlU {K : PySem.W.Frag} {G : GH} {H : Hp} {v : V} {d : D} {k : Key} (gk : GOk K G H) (h : RB K G H v d) (e : keyD d = some k) : v = kV k := by
  cases d with
  | int i => cases e; exact h.int gk
  | str x => cases e; exact h.str gk
  | _ => cases e
section
variable {X : Cx} {g : GE} {m mb : List Md} {e a b o c : Expr} {f fa fb fc : FE} {pos pos' : Pos}
noncomputable def rInD (neg : Bool) : R2 := fun y x H Q => ∃ a o,x = .ref a∧DGet H a y o∧Q (.bl (if neg then ! o.isSome else o.isSome)) H
theorem zrd (hu : X.A.units + 1 < cLine) : OpR X (compareOp .In) (rInD false) := by
  intro pins s σ H y x u v Q I ry rx h
  obtain ⟨a,oo,rfl,hg,q⟩ := h
  cases rx
  exact d_in hu I hg ry fun s' I' => ⟨.bl _,H,I',rfl,q⟩
theorem zpg (hu : X.A.units + 1 < cLine) : OpR X (compareOp .NotIn) (rInD true) := by
  intro pins s σ H y x u v Q I ry rx h
  obtain ⟨a,oo,rfl,hg,q⟩ := h
  cases rx
  exact zpM hu I hg ry fun s' I' => ⟨.bl _,H,I',rfl,q⟩
noncomputable def rInA (K : PySem.W.Frag) (neg : Bool) : R2 := fun x y H Q => rIn K neg x y H Q∨rInD neg x y H Q∨∃ i j,x = .str i∧y = .str j∧Q (.bl (if neg then !(!(Builtin.Str.occurrences j i 0 j.length 1).isEmpty) else !(Builtin.Str.occurrences j i 0 j.length 1).isEmpty)) H
theorem zre (hu : X.A.units + 1 < cLine) : OpR X (compareOp .In) (rInA X.K false) := OpR.or zlC (OpR.or (zrd hu) zlB)
theorem zph (hu : X.A.units + 1 < cLine) : OpR X (compareOp .NotIn) (rInA X.K true) := OpR.or zh5 (OpR.or (zpg hu) zh4)
theorem zl3 {K : PySem.W.Frag} (neg : Bool) : OpD K (rInA K neg) (fun x c => (inB x c).map fun b => .bl (if neg then ! b else b)) := by
  intro G H v1 v2 d1 d2 d Q gk r1 r2 e q
  have seq : ∀ {xs : List V} {ds : List D} {p : Addr},RGs K G xs ds→v2 = .ref p→(SqL K H p xs∨SqT K H p xs)→zb3 d1 = true→ds.all zb3 = true→d = .bl (if neg then !(ds.any fun y => eqs y d1) else ds.any fun y => eqs y d1)→rInA K neg v1 v2 H Q := fun {xs ds p} rs e2 hs hf hfs ed => by
    obtain ⟨e1,f1⟩ := RB.flat r1 gk hf
    obtain ⟨e3,f3⟩ := zrS rs gk hfs
    refine .inl ⟨p,xs,e2,hs,f1,f3,q _ G H (Grow.refl gk) ?_⟩
    have : inV v1 xs = ds.any fun y => eqs y d1 := by
      unfold inV
      rw [e3,List.any_map,e1]
      rfl
    rw [this,ed]
    exact .scl (.bl _)
  cases d2 with
  | lst ds =>
    by_cases hc : zb3 d1 = true∧ds.all zb3 = true
    · simp only [inB,if_pos hc,Option.map_some] at e
      obtain ⟨p,xs,e2,hs,rs⟩ := r2.lst gk
      exact seq rs e2 (.inl hs) hc.1 hc.2 (Option.some.inj e).symm
    · simp only [inB,if_neg hc,Option.map_none] at e
      cases e
  | tup ds =>
    by_cases hc : zb3 d1 = true∧ds.all zb3 = true
    · simp only [inB,if_pos hc,Option.map_some] at e
      obtain ⟨p,xs,e2,hs,rs⟩ := r2.tup gk
      exact seq rs e2 (.inr hs) hc.1 hc.2 (Option.some.inj e).symm
    · simp only [inB,if_neg hc,Option.map_none] at e
      cases e
  | dic kvs =>
    simp only [inB] at e
    cases ek : keyD d1 with
    | none => rw [ek] at e; cases e
    | some k =>
      rw [ek] at e
      cases e
      obtain ⟨p,ps,rfl,hs,rs⟩ := r2.dic gk
      refine .inr (.inl ⟨p,valV ps k,rfl,by rw [zlU gk r1 ek]; exact .inl ⟨ps,k,hs,rfl,rfl⟩,q _ G H (Grow.refl gk) ?_⟩)
      have : (valV ps k).isSome = hasK kvs k := by
        rw [zrK]
        cases eg : getK kvs k with
        | none => rw [zmc rs eg]; rfl
        | some d => obtain ⟨v,h1,_⟩ := zoz rs d eg; rw [h1]; rfl
      rw [this]
      exact .scl (.bl _)
  | str y =>
    cases d1 with
    | str z => cases e; exact .inr (.inr ⟨z,y,r1.str gk,r2.str gk,q _ G H (Grow.refl gk) (.scl (.bl _))⟩)
    | _ => cases e
  | _ => cases e
theorem zsX {K : PySem.W.Frag} : OpD K (rInA K false) inD := by
  have h := zl3 (K := K) false
  have e : (fun x c => (inB x c).map fun b => D.bl (if false = true then ! b else b)) = inD := by
    funext x c; unfold inD; cases inB x c <;> rfl
  rw [e] at h; exact h
theorem zrn {K : PySem.W.Frag} : OpD K (rInA K true) ninD := by
  have h := zl3 (K := K) true
  have e : (fun x c => (inB x c).map fun b => D.bl (if true = true then ! b else b)) = ninD := by
    funext x c; unfold ninD; cases inB x c <;> rfl
  rw [e] at h; exact h
theorem q_in (hu : X.A.units + 1 < cLine) (ha : SB X g m a fa) (hb : SB X g m b fb) (hm : behindInMarks .In b = false := by rfl) : SQ X g m (.Compare a [.In] [b] pos) (zaL (f2 fa fb inD)) := zh0 (zre hu) zsX ha hb hm
theorem zqM (hu : X.A.units + 1 < cLine) (ha : SB X g m a fa) (hb : SB X g m b fb) (hm : behindInMarks .NotIn b = false := by rfl) : SQ X g m (.Compare a [.NotIn] [b] pos) (zaL (f2 fa fb ninD)) := zh0 (zph hu) zrn ha hb hm
noncomputable def isD : D→D→Option D
  | .non,.non => some (.bl true)
  | _,.non => some (.bl false)
  | _,_ => none
noncomputable def isnD : D→D→Option D
  | .non,.non => some (.bl false)
  | _,.non => some (.bl true)
  | _,_ => none
theorem RB.isnon {K : PySem.W.Frag} {G : GH} {H : Hp} {v : V} {d : D} (gk : GOk K G H) (h : RB K G H v d) : (v = .non↔d = .non) := by
  constructor
  · intro e
    subst e
    rcases h with h | ⟨a,e,_⟩
    · cases h with
      | scl s => cases s; rfl
    · cases e
  · intro e
    subst e
    exact h.non gk
theorem zsV {K : PySem.W.Frag} : OpD K (fun x y H Q => y = .non∧Q (.bl (decide (x = .non))) H) isD := by
  intro G H v1 v2 d1 d2 d Q gk r1 r2 e q
  have hn := r1.isnon gk
  cases d2 with
  | non =>
    refine ⟨r2.non gk,q _ G H (Grow.refl gk) ?_⟩
    cases d1 with
    | non => cases e; rw [decide_eq_true (hn.mpr rfl)]; exact .scl (.bl _)
    | _ => cases e; rw [decide_eq_false (fun z => by have := hn.mp z; cases this)]; exact .scl (.bl _)
  | _ => cases d1 <;> cases e
theorem zrF {K : PySem.W.Frag} : OpD K (fun x y H Q => y = .non∧Q (.bl (! decide (x = .non))) H) isnD := by
  intro G H v1 v2 d1 d2 d Q gk r1 r2 e q
  have hn := r1.isnon gk
  cases d2 with
  | non =>
    refine ⟨r2.non gk,q _ G H (Grow.refl gk) ?_⟩
    cases d1 with
    | non => cases e; rw [decide_eq_true (hn.mpr rfl)]; exact .scl (.bl _)
    | _ => cases e; rw [decide_eq_false (fun z => by have := hn.mp z; cases this)]; exact .scl (.bl _)
  | _ => cases d1 <;> cases e
theorem q_is (ha : SB X g m a fa) (hb : SB X g m b fb) : SQ X g m (.Compare a [.Is] [b] pos) (zaL (f2 fa fb isD)) := zh0 zrc zsV ha hb (zfm _)
theorem zsB (ha : SB X g m a fa) (hb : SB X g m b fb) : SQ X g m (.Compare a [.IsNot] [b] pos) (zaL (f2 fa fb isnD)) := zh0 zpf zrF ha hb (zfm _)
end
end DL
end
section
namespace DL
open PySem PySem.Spec PyProof.Rows L2
section
variable {X : Cx} {g : GE} {m mb : List Md} {e a b o c : Expr} {f fa fb fc : FE} {pos pos' p1 p2 : Pos} {ro : Bool} {x : Str}
noncomputable def rIxD : R2 := fun x y H Q => ∃ a v,x = .ref a∧DGet H a y (some v)∧Q v H
theorem zrC (hu : X.A.units + 1 < cLine) : IxR X rIxD := by
  intro value slice pins s σ H x y v u Q I rx ry h hs
  obtain ⟨a,w,rfl,hg,q⟩ := h
  cases rx
  exact tail_any (zi6 I hg) PySem.F.slot_dict_getitem.lookup (zmq hu I hg ry fun w' s' I' rw' => ⟨w,H,I',rw',q⟩) hs
noncomputable def ixA : D→D→Option D
  | .dic kvs,k => (keyD k).bind (getK kvs)
  | c,k => ixD c k
theorem zrD {K : PySem.W.Frag} : OpD K (fun x y H Q => rIxD x y H Q∨rIx K x y H Q) ixA := by
  intro G H v1 v2 d1 d2 d Q gk r1 r2 e q
  cases d1 with
  | dic kvs =>
    obtain ⟨a,ps,rfl,hs,rs⟩ := r1.dic gk
    have e' : (keyD d2).bind (getK kvs) = some d := e
    cases ek : keyD d2 with
    | none => rw [ek] at e'; cases e'
    | some k =>
      rw [ek] at e'
      obtain ⟨v,h1,h2⟩ := zoz rs d e'
      refine .inl ⟨a,v,rfl,?_,q v G H (Grow.refl gk) h2⟩
      rw [zlU gk r2 ek,← h1]
      exact .inl ⟨ps,k,hs,rfl,rfl⟩
  | lst ds => exact .inr (zpC G H v1 v2 _ d2 d Q gk r1 r2 e q)
  | tup ds => exact .inr (zpC G H v1 v2 _ d2 d Q gk r1 r2 e q)
  | str ds => exact .inr (zpC G H v1 v2 _ d2 d Q gk r1 r2 e q)
  | _ => cases e
theorem zbE (hu : X.A.units + 1 < cLine) (ha : SB X g m a fa) (hb : SB X g m b fb) (hs : zmJ b := by intro _ _; rfl) : SE X g m (.Subscript a b pos) (f2 fa fb ixA) := zoR zrD (zsG (IxR.or (zrC hu) zrB) ha hb hs)
theorem zf6 : SO X g m (.Dict [] [] pos) fun _ => .ok (.dic []) :=
  PE.imp znl fun σ H Q ⟨r,G,si,q⟩ p hp => q p G _ (Grow.new si.gok hp _) hp ⟨si.gok.isN hp,.dic zam .nil⟩
noncomputable def putD (kvs : List (Key × D)) (k : Key) (d : D) : List (Key × D) := if (kvs.any fun kv => decide (kv.1 = k)) = true then kvs.map fun kv => if kv.1 = k then (kv.1,d) else kv else kvs++[(k,d)]
theorem znV {K : PySem.W.Frag} {G : GH} {k : Key} {ps : List (Key × V)} {kvs : List (Key × D)} (h : RKs K G ps kvs) : (ps.any fun kv => decide (kv.1 = k)) = kvs.any fun kv => decide (kv.1 = k) := by
  induction h with
  | nil => rfl
  | cons r t ih => rw [List.any_cons,List.any_cons,ih,r.1]
theorem zqQ {K : PySem.W.Frag} {G : GH} {ps : List (Key × V)} {kvs : List (Key × D)} {k : Key} {v : V} {d : D} (r : RKs K G ps kvs) (h : RG K G v d) : RKs K G (putK ps k v) (putD kvs k d) := by
  unfold putK putD
  rw [znV r]
  by_cases hc : (kvs.any fun kv => decide (kv.1 = k)) = true
  · rw [if_pos hc,if_pos hc]
    clear hc
    induction r with
    | nil => exact .nil
    | @cons p q ps kvs r t ih =>
      refine .cons ?_ ih
      obtain ⟨p1,p2⟩ := p
      obtain ⟨q1,q2⟩ := q
      have e : p1 = q1 := r.1
      subst e
      by_cases hk : p1 = k
      · simp only [hk,if_true,true_and]; exact h
      · simp only [hk,if_false,true_and]; exact r.2
  · rw [if_neg hc,if_neg hc]
    exact Paired.snoc r ⟨rfl,h⟩
noncomputable def stoD : D→D→D→Option D
  | .lst ds,.int k,v => (ixN ds.length k).map fun j => .lst (ds.set j v)
  | .dic kvs,k,v => (keyD k).bind fun k => if kvs.length < sizeLine then some (.dic (putD kvs k v)) else none
  | _,_,_ => none
noncomputable def zqJ : V→V→V→Hp→(Hp→Prop)→Prop := fun o i v H Q => ∃ p H',o = .ref p∧DPut H p i v H'∧Q H'
theorem zoQ (hu : X.A.units + 1 < cLine) : PSet X zqJ := by
  intro pins s σ H o i v ov iv u Q I ro ri rv h
  obtain ⟨p,H',rfl,hp,q⟩ := h
  cases ro
  exact zmp hu I hp ri rv fun s' I' => ⟨H',I',q⟩
theorem PSet.or {t t' : TSet} (h : PSet X t) (h' : PSet X t') : PSet X (fun o i v H Q => t o i v H Q∨t' o i v H Q) := by
  intro pins s σ H o i v ov iv u Q I ro ri rv q
  rcases q with q | q
  · exact h pins s σ H o i v ov iv u Q I ro ri rv q
  · exact h' pins s σ H o i v ov iv u Q I ro ri rv q
theorem zqg {K : PySem.W.Frag} {G : GH} {H : Hp} {a : Addr} {d k v d' : D} {kv vv : V} {Q : Hp→Prop} (gk : GOk K G H) (ow : Own K G H a d) (rk : RB K G H kv k) (rv : RG K G vv v) (e : stoD d k v = some d') (q : ∀ o',OwnO K G (upd H a o') a d'→Q (upd H a o')) :
    zqI (.ref a) kv vv H Q∨zqJ (.ref a) kv vv H Q := by
  cases ow.ob with
  | @lst xs ds r s =>
    cases k with
    | int k =>
      have e' : (ixN ds.length k).map (fun j => D.lst (ds.set j v)) = some d' := e
      cases ej : ixN ds.length k with
      | none => rw [ej] at e'; cases e'
      | some j =>
        rw [ej] at e'
        cases e'
        exact .inl ⟨a,xs,k,j,rfl,rk.int gk,r,by rw [Paired.length s]; exact ej,q _ (.lst zam (Paired.st rv j s))⟩
    | _ => cases e
  | @dic ps kvs r s =>
    have e' : (keyD k).bind (fun k => if kvs.length < sizeLine then some (D.dic (putD kvs k v)) else none) = some d' := e
    cases ek : keyD k with
    | none => rw [ek] at e'; cases e'
    | some k' =>
      rw [ek] at e'
      have e2 : (if kvs.length < sizeLine then some (D.dic (putD kvs k' v)) else none) = some d' := e'
      by_cases hl : kvs.length < sizeLine
      · rw [if_pos hl] at e2
        cases e2
        have := Paired.length s
        refine .inr ⟨a,_,rfl,?_,q _ (.dic zam (zqQ s rv))⟩
        rw [zlU gk rk ek]
        exact DPut.k r (by omega)
      · rw [if_neg hl] at e2; cases e2
noncomputable def putF (m : List Md) (i : Nat) (fk fv : FE) : FS := fun r => onE m r (fv r) fun v => match r[i]? with
  | some (some d) => onE m r (fk r) fun k => (match stoD d k v with
    | some d' => .nx (r.set i (some d'))
    | none => .stuck)
  | _ => .stuck
theorem zkg (i : Nat) (hu : X.A.units + 1 < cLine) (hm : m[i]? = some .ow) (hN : X.N[i]? = some x) (hv : Vis X.env.scope x) (hk : SB X g m b fb) (he : SE X g m e f)
    (hd : (x == ("__debug__" : Str)) = false := by decide) (hcd : (x == ("__classdict__" : Str)) = false := by decide)
    (ha : ∀ v,assign (.Subscript (.Name x p1) b p2) X.env v = (do
      let ov ← holding [v] (eval (.Name x p1) X.env)
      let iv ← holding [v,ov] (eval b X.env)
      standAt p2
      holding [v,ov,iv] (setItem ov iv v)
      release [v,ov,iv] []) := by intro _; rfl)
    (hs : swapsWithSole [.Subscript (.Name x p1) b p2] e pos.line X.env = pure false := by rfl) (hw : swappedStores [.Subscript (.Name x p1) b p2] e X.env = pure none := by rfl)
    (h1 : (assignEach [.Subscript (.Name x p1) b p2] X.env).map (·.2) = [assign (.Subscript (.Name x p1) b p2) X.env] := by rfl) :
    SS X g ro mb m (.Assign [.Subscript (.Name x p1) b p2] e pos) (putF m i fb f) m := by
  refine ⟨rfl,PS.imp (zqT he (zqW (zh3 hN hv hd hcd) hk (PSet.or zmZ (zoQ hu)) ha) hs hw h1) fun D0 σ H ⟨r,G,si,k⟩ => ⟨r,G,si,?_⟩⟩
  refine zah (zbU si rfl k) fun v k1 vv G1 H1 w1 rv => ?_
  cases er : r[i]? with
  | none => simp only [er] at k1; exact (show False from k1).elim
  | some oo =>
    cases oo with
    | none => simp only [er] at k1; exact (show False from k1).elim
    | some d =>
      simp only [er] at k1
      obtain ⟨a,h1,h2,h3⟩ := (si.grow w1).mut hm er
      refine ⟨_,h1,r,G1,si.grow w1,?_⟩
      refine zah (zbU (m := m) (si.grow w1) rfl (oTo.gle k1 w1.ge)) fun kk k2 kv G2 H2 w2 rk => ?_
      cases es : stoD d kk v with
      | none => simp only [es] at k2; exact (show False from k2).elim
      | some d' =>
        simp only [es] at k2
        obtain ⟨a',h1',h2',h3'⟩ := ((si.grow w1).grow w2).mut hm er
        rw [h1] at h1'; cases h1'
        exact zqg w2.ok h2' rk (rv.mono w2.ge) es fun o' ob => k2 σ G2 _ w2.ge (h3' o' d' ob)
end
mutual
noncomputable def toPy : D→PyData
  | .non => .none
  | .bl b => .bool b
  | .int i => .int i
  | .str x => .str x
  | .tup ds => .tuple (zdD ds)
  | .lst ds => .list (zdD ds)
  | .dic _ => .none
  | .obj _ _ => .none
noncomputable def zdD : List D→List PyData
  | [] => []
  | d::ds => toPy d::zdD ds
end
noncomputable def Shp : Nat→D→Prop
  | _,.non => True
  | _,.bl _ => True
  | _,.int _ => True
  | _,.str x => PyData.strOk x = true
  | 0,.tup _ => False
  | 0,.lst _ => False
  | k + 1,.tup ds => ∀ d∈ds,Shp k d
  | k + 1,.lst ds => ∀ d∈ds,Shp k d
  | _,.dic _ => False
  | _,.obj _ _ => False
theorem zkX {k : Nat} {ds : List D} : Shp (k + 1) (.lst ds)↔∀ d∈ds,Shp k d := by simp only [Shp]
theorem zeY {k : Nat} {ds : List D} : Shp (k + 1) (.tup ds)↔∀ d∈ds,Shp k d := by simp only [Shp]
noncomputable def eqb (a b : D) : Bool := PyData.eqv (toPy a) (toPy b)
section
variable {X : Cx} {pins : List (Addr × Obj)} {σ : L2.St} {H : Hp} {s : Shared} {G : GH}
theorem zhY {k : Nat} (ih : ∀ (d : D) (v : V) (u : Value),Shp k d→RG X.K G v d→L2.RelV v u→∃ as,Reads s.heap u (toPy d) as) (ds : List D) (vs : List V) (us : List Value) (h : ∀ d∈ds,Shp k d) (r : RGs X.K G vs ds) (q : Vals vs us) : ∃ as,ReadsAll s.heap us (zdD ds) as := by
  induction r generalizing us with
  | nil => cases q; exact ⟨[],.nil⟩
  | cons r t ih' =>
    cases q with
    | cons r' t' =>
      obtain ⟨a1,h1⟩ := ih _ _ _ (h _ List.mem_cons_self) r r'
      obtain ⟨a2,h2⟩ := ih' _ (fun x hx => h x (List.mem_cons_of_mem _ hx)) t'
      exact ⟨a1++a2,.cons h1 h2⟩
theorem zfG (I : Inv X pins σ H s) (gk : GOk X.K G H) : ∀ (k : Nat) (d : D) (v : V) (u : Value),Shp k d→RB X.K G H v d→L2.RelV v u→∃ as,Reads s.heap u (toPy d) as := by
  intro k
  induction k with
  | zero =>
    intro d v u hs r ru
    cases d with
    | non => rw [r.non gk] at ru; cases ru; exact ⟨_,.none⟩
    | bl b => rw [r.bl gk] at ru; cases ru; exact ⟨_,.bool b⟩
    | int i => rw [r.int gk] at ru; obtain ⟨t,rfl⟩ := ru; exact ⟨_,.int i t⟩
    | str x => rw [r.str gk] at ru; obtain ⟨t,rfl⟩ := ru; exact ⟨_,.str x t⟩
    | tup _ => unfold Shp at hs; exact hs.elim
    | lst _ => unfold Shp at hs; exact hs.elim
    | dic _ => unfold Shp at hs; exact hs.elim
    | obj _ _ => unfold Shp at hs; exact hs.elim
  | succ k ih =>
    intro d v u hs r ru
    cases d with
    | non => rw [r.non gk] at ru; cases ru; exact ⟨_,.none⟩
    | bl b => rw [r.bl gk] at ru; cases ru; exact ⟨_,.bool b⟩
    | int i => rw [r.int gk] at ru; obtain ⟨t,rfl⟩ := ru; exact ⟨_,.int i t⟩
    | str x => rw [r.str gk] at ru; obtain ⟨t,rfl⟩ := ru; exact ⟨_,.str x t⟩
    | tup ds =>
      obtain ⟨a,xs,rfl,sq,rs⟩ := r.tup gk
      cases ru
      obtain ⟨its,rv,pl,_⟩ := I.tuple sq
      obtain ⟨o,ho,hc,n,hd⟩ := pl
      obtain ⟨as,h⟩ := zhY (k := k) (fun d v u h1 h2 h3 => ih d v u h1 h2.rb h3) ds xs its (zeY.mp hs) rs rv
      refine ⟨as,?_⟩
      unfold toPy
      exact .tuple ho hc hd (by simpa using h)
    | lst ds =>
      obtain ⟨a,xs,rfl,sq,rs⟩ := r.lst gk
      cases ru
      obtain ⟨its,rv,pl,_⟩ := I.list sq
      obtain ⟨o,ho,hc,n,hd⟩ := pl.isList
      obtain ⟨as,h⟩ := zhY (k := k) (fun d v u h1 h2 h3 => ih d v u h1 h2.rb h3) ds xs its (zkX.mp hs) rs rv
      refine ⟨a::as,?_⟩
      unfold toPy
      exact .list ho hc hd (by simpa using h)
    | dic _ => unfold Shp at hs; exact hs.elim
    | obj _ _ => unfold Shp at hs; exact hs.elim
theorem ziG {k : Nat} (ih : ∀ d,Shp k d→PyData.canLay0 (toPy d) = true∧PyData.depth (toPy d)≤k) : ∀ ds : List D,(∀ d∈ds,Shp k d)→PyData.canLayAll0 (zdD ds) = true∧PyData.depthAll (zdD ds)≤k
  | [],_ => by unfold zdD PyData.canLayAll0 PyData.depthAll; exact ⟨rfl,Nat.zero_le _⟩
  | d::ds,h => by
    obtain ⟨a1,a2⟩ := ih d (h d List.mem_cons_self)
    obtain ⟨b1,b2⟩ := ziG ih ds fun x hx => h x (List.mem_cons_of_mem _ hx)
    unfold zdD PyData.canLayAll0 PyData.depthAll
    rw [a1,b1]
    exact ⟨rfl,Nat.max_le.mpr ⟨a2,b2⟩⟩
theorem zqm : ∀ (k : Nat) (d : D),Shp k d→PyData.canLay0 (toPy d) = true∧PyData.depth (toPy d)≤k := by
  intro k
  induction k with
  | zero =>
    intro d hs
    cases d with
    | non => unfold toPy PyData.canLay0 PyData.depth; exact ⟨rfl,Nat.zero_le _⟩
    | bl b => unfold toPy PyData.canLay0 PyData.depth; exact ⟨rfl,Nat.zero_le _⟩
    | int i => unfold toPy PyData.canLay0 PyData.depth; exact ⟨rfl,Nat.zero_le _⟩
    | str x => unfold Shp at hs; unfold toPy PyData.canLay0 PyData.depth; exact ⟨hs,Nat.zero_le _⟩
    | tup _ => unfold Shp at hs; exact hs.elim
    | lst _ => unfold Shp at hs; exact hs.elim
    | dic _ => unfold Shp at hs; exact hs.elim
    | obj _ _ => unfold Shp at hs; exact hs.elim
  | succ k ih =>
    intro d hs
    cases d with
    | non => unfold toPy PyData.canLay0 PyData.depth; exact ⟨rfl,Nat.zero_le _⟩
    | bl b => unfold toPy PyData.canLay0 PyData.depth; exact ⟨rfl,Nat.zero_le _⟩
    | int i => unfold toPy PyData.canLay0 PyData.depth; exact ⟨rfl,Nat.zero_le _⟩
    | str x => unfold Shp at hs; unfold toPy PyData.canLay0 PyData.depth; exact ⟨hs,Nat.zero_le _⟩
    | tup ds =>
      obtain ⟨b1,b2⟩ := ziG ih ds (zeY.mp hs)
      unfold toPy PyData.canLay0 PyData.depth
      exact ⟨b1,Nat.succ_le_succ b2⟩
    | lst ds =>
      obtain ⟨b1,b2⟩ := ziG ih ds (zkX.mp hs)
      unfold toPy PyData.canLay0 PyData.depth
      exact ⟨b1,Nat.succ_le_succ b2⟩
    | dic _ => unfold Shp at hs; exact hs.elim
    | obj _ _ => unfold Shp at hs; exact hs.elim
theorem zeE {d : D} (h : Shp 60 d) : SeqAt.shaped (toPy d) = true := by
  obtain ⟨a,b⟩ := zqm 60 d h
  unfold SeqAt.shaped
  rw [a,decide_eq_true (Nat.le_trans b (by decide))]
  rfl
end
section
variable {X : Cx} {g : GE} {m mb : List Md} {e a b o c : Expr} {f fa fb fc : FE} {pos pos' : Pos}
noncomputable def zkd (a b : D) : Bool := zb3 a && zb3 b && scal (toV a) (toV b)
open Classical in
noncomputable def eqB (a b : D) : Option Bool := if zkd a b = true then some (eqs a b) else if Shp 60 a∧Shp 60 b then some (eqb a b) else none
noncomputable def eqD (a b : D) : Option D := (eqB a b).map .bl
noncomputable def neD (a b : D) : Option D := (eqB a b).map fun c => .bl (! c)
theorem zjY {a b : D} (h : zkd a b = false) (h1 : Shp 60 a) (h2 : Shp 60 b) : eqB a b = some (eqb a b) := by
  unfold eqB
  rw [if_neg (by rw [h]; exact Bool.false_ne_true),if_pos ⟨h1,h2⟩]
theorem zjX {a b : D} (h : zkd a b = true) : eqB a b = some (eqs a b) := by
  unfold eqB
  rw [if_pos h]
@[simp] theorem eqB_int (a b : Int) : eqB (.int a) (.int b) = some (a == b) := zjX rfl
@[simp] theorem eqB_non_int (b : Int) : eqB .non (.int b) = some false := zjX rfl
theorem zjt {a b : D} (h : scal (toV a) (toV b) = true) (fa : zb3 a = true) (fb : zb3 b = true) : decide (toV a = toV b) = eqs a b := by
  cases a <;> cases b <;> first
    | exact absurd (show false = true from fa) Bool.false_ne_true
    | exact absurd (show false = true from fb) Bool.false_ne_true
    | exact absurd (show false = true from h) Bool.false_ne_true
    | exact zi8
    | exact zmn
    | exact zi7
    | rfl
    | simp [toV,eqs,eqV]
noncomputable def zhi (K : PySem.W.Frag) (neg : Bool) : R2 := fun x y H Q => ∃ (G : GH) (d1 d2 : D),GOk K G H∧RB K G H x d1∧RB K G H y d2∧Shp 60 d1∧Shp 60 d2∧Q (.bl (if neg then ! eqb d1 d2 else eqb d1 d2)) H
theorem zh6 (hu : X.A.units + 64 < cLine) : OpR X (compareOp .Eq) (zhi X.K false) := by
  intro pins s σ H x y v u Q I rx ry h
  obtain ⟨G,d1,d2,gk,r1,r2,s1,s2,q⟩ := h
  obtain ⟨as,h1⟩ := zfG I gk 60 d1 x v s1 r1 rx
  obtain ⟨bs,h2⟩ := zfG I gk 60 d2 y u s2 r2 ry
  exact SeqAt.compareEq_shaped h1 h2 (zeE s1) (zeE s2) hu ⟨.bl _,H,I,rfl,q⟩
theorem zlA (hu : X.A.units + 64 < cLine) : OpR X (compareOp .NotEq) (zhi X.K true) := by
  intro pins s σ H x y v u Q I rx ry h
  obtain ⟨G,d1,d2,gk,r1,r2,s1,s2,q⟩ := h
  obtain ⟨as,h1⟩ := zfG I gk 60 d1 x v s1 r1 rx
  obtain ⟨bs,h2⟩ := zfG I gk 60 d2 y u s2 r2 ry
  exact SeqAt.compareNe_shaped h1 h2 (zeE s1) (zeE s2) hu ⟨.bl _,H,I,rfl,q⟩
theorem eq_cases {a b : D} {c : Bool} (h : eqB a b = some c) : (zkd a b = true∧c = eqs a b)∨(Shp 60 a∧Shp 60 b∧c = eqb a b) := by
  unfold eqB at h
  split at h
  · rename_i hs; cases h; exact .inl ⟨hs,rfl⟩
  · split at h
    · rename_i hs; cases h; exact .inr ⟨hs.1,hs.2,rfl⟩
    · cases h
theorem zrY {K : PySem.W.Frag} : OpD K (fun x y H Q => rEq x y H Q∨zhi K false x y H Q) eqD := by
  intro G H v1 v2 d1 d2 d Q gk r1 r2 e q
  unfold eqD at e
  cases ec : eqB d1 d2 with
  | none => rw [ec] at e; cases e
  | some c =>
    rw [ec] at e
    cases e
    rcases eq_cases ec with ⟨hs,rfl⟩ | ⟨s1,s2,rfl⟩
    · unfold zkd at hs
      rw [Bool.and_eq_true,Bool.and_eq_true] at hs
      obtain ⟨e1,_⟩ := RB.flat r1 gk hs.1.1
      obtain ⟨e2,_⟩ := RB.flat r2 gk hs.1.2
      refine .inl ⟨by rw [e1,e2]; exact hs.2,?_⟩
      rw [e1,e2,zjt hs.2 hs.1.1 hs.1.2]
      exact q _ G H (Grow.refl gk) (.scl (.bl _))
    · exact .inr ⟨G,d1,d2,gk,r1,r2,s1,s2,q _ G H (Grow.refl gk) (.scl (.bl _))⟩
theorem zsQ {K : PySem.W.Frag} : OpD K (fun x y H Q => rNe x y H Q∨zhi K true x y H Q) neD := by
  intro G H v1 v2 d1 d2 d Q gk r1 r2 e q
  unfold neD at e
  cases ec : eqB d1 d2 with
  | none => rw [ec] at e; cases e
  | some c =>
    rw [ec] at e
    cases e
    rcases eq_cases ec with ⟨hs,rfl⟩ | ⟨s1,s2,rfl⟩
    · unfold zkd at hs
      rw [Bool.and_eq_true,Bool.and_eq_true] at hs
      obtain ⟨e1,_⟩ := RB.flat r1 gk hs.1.1
      obtain ⟨e2,_⟩ := RB.flat r2 gk hs.1.2
      refine .inl ⟨by rw [e1,e2]; exact hs.2,?_⟩
      rw [e1,e2,zjt hs.2 hs.1.1 hs.1.2]
      exact q _ G H (Grow.refl gk) (.scl (.bl _))
    · exact .inr ⟨G,d1,d2,gk,r1,r2,s1,s2,q _ G H (Grow.refl gk) (.scl (.bl _))⟩
theorem s_eq (hu : X.A.units + 64 < cLine) (ha : SB X g m a fa) (hb : SB X g m b fb) : SE X g m (.Compare a [.Eq] [b] pos) (f2 fa fb eqD) := zqv (OpR.or zrg (zh6 hu)) zrY ha hb (zfm _)
theorem q_eq (hu : X.A.units + 64 < cLine) (ha : SB X g m a fa) (hb : SB X g m b fb) : SQ X g m (.Compare a [.Eq] [b] pos) (zaL (f2 fa fb eqD)) := zh0 (OpR.or zrg (zh6 hu)) zrY ha hb (zfm _)
theorem q_ne (hu : X.A.units + 64 < cLine) (ha : SB X g m a fa) (hb : SB X g m b fb) : SQ X g m (.Compare a [.NotEq] [b] pos) (zaL (f2 fa fb neD)) := zh0 (OpR.or zsJ (zlA hu)) zsQ ha hb (zfm _)
noncomputable def zij (fa fb fc : FE) (k k' : D→D→Option D) : FE := fun r => (fa r).bind fun x => (fb r).bind fun y => (opt (k x y)).bind fun z => (opt (asB z)).bind fun c => if c = true then (fc r).bind fun w => opt (k' y w) else .ok (.bl false)
noncomputable def zm9 (K : PySem.W.Frag) : R2 := fun x y H Q => ∃ l b xs zs,x = .ref l∧y = .ref b∧SqL K H l xs∧SqL K H b zs∧xs.length + zs.length≤sizeLine∧∀ p,H p = none→Q (.ref p) (upd H p (.lst (xs++zs)))
theorem ziN : OpR X (binaryOp .Add) (zm9 X.K) := by
  intro pins s σ H x y v u Q I rx ry h
  obtain ⟨l,b,xs,zs,rfl,rfl,hH,hB,hz,q⟩ := h
  cases rx
  cases ry
  obtain ⟨its,r,pl,_⟩ := I.list hH
  obtain ⟨its2,r2,pl2,_⟩ := I.list hB
  have l1 := r.length
  have l2 := r2.length
  obtain ⟨⟨cls,dd,data,sl⟩,ho,hc,n,hd⟩ := pl.isList
  obtain ⟨⟨cls2,dd2,data2,sl2⟩,ho2,hc2,n2,hd2⟩ := pl2.isList
  simp only at hc hd hc2 hd2
  subst hc hd hc2 hd2
  have e : its.toArray++its2.toArray = (its++its2).toArray := by simp
  refine concat_meets ⟨_,ho,rfl⟩ ⟨_,ho2,rfl⟩ noFill_list_add seq_list_add PySem.F.slot_list_add PySem.F.entry_list_add (PySem.F.args_list_add_2 _ _) (list_addW _ _ its.toArray its2.toArray n n2 dd dd2 sl sl2 (by simp; omega)) ⟨ho,ho2,?_⟩
  rw [e]
  exact ⟨.ref _,_,I.lnew (t' := s.toks) (r.append r2) (by rw [List.length_append]; omega),rfl,q _ I.fresh⟩
noncomputable def catL : D→D→Option D
  | .lst a,.lst b => if a.length + b.length≤sizeLine then some (.lst (a++b)) else none
  | _,_ => none
theorem zpR {K : PySem.W.Frag} : OpO K (zm9 K) catL := by
  intro G H v1 v2 d1 d2 d Q gk r1 r2 e q
  unfold catL at e
  split at e
  · split at e
    · rename_i hl
      cases e
      obtain ⟨a,xs,rfl,s1,t1⟩ := r1.lst gk
      obtain ⟨b,ys,rfl,s2,t2⟩ := r2.lst gk
      have l1 := Paired.length t1
      have l2 := Paired.length t2
      exact ⟨a,b,xs,ys,rfl,rfl,s1,s2,by omega,fun p hp => q p G _ (Grow.new gk hp _) hp ⟨gk.isN hp,.lst zam (Paired.app t1 t2)⟩⟩
    · cases e
  · cases e
theorem zsN (ha : SB X g m a fa) (hb : SB X g m b fb) : SO X g m (.BinOp a .Add b pos) (f2 fa fb catL) := zqy ziN zpR ha hb
noncomputable def addA : D→D→Option D
  | .int a,.int b => some (.int (a + b))
  | .str a,.str b => if a.length + b.length≤sizeLine then some (.str (a++b)) else none
  | .lst a,.lst b => if a.length + b.length≤sizeLine then some (.lst (a++b)) else none
  | .tup (x::a),.tup b => if (x::a).length + b.length≤sizeLine then some (.tup (x::a++b)) else none
  | _,_ => none
theorem zmI {K : PySem.W.Frag} : OpD K (fun x y H Q => (∃ i j,x = .int i∧y = .int j∧Q (.int (i + j)) H)∨(∃ i j,x = .str i∧y = .str j∧i.length + j.length≤sizeLine∧Q (.str (i++j)) H)∨zm9 K x y H Q∨zo1 K x y H Q) addA := by
  intro G H v1 v2 d1 d2 d Q gk r1 r2 e q
  unfold addA at e
  split at e
  · cases e
    exact .inl ⟨_,_,r1.int gk,r2.int gk,q _ G H (Grow.refl gk) (.scl (.int _))⟩
  · split at e
    · rename_i hl
      cases e
      exact .inr (.inl ⟨_,_,r1.str gk,r2.str gk,hl,q _ G H (Grow.refl gk) (.scl (.str _))⟩)
    · cases e
  · split at e
    · rename_i hl
      cases e
      obtain ⟨a,xs,rfl,s1,t1⟩ := r1.lst gk
      obtain ⟨b,ys,rfl,s2,t2⟩ := r2.lst gk
      have l1 := Paired.length t1
      have l2 := Paired.length t2
      exact .inr (.inr (.inl ⟨a,b,xs,ys,rfl,rfl,s1,s2,by omega,fun p hp => q _ _ _ (Grow.newF gk hp (.lst (.inl zam) (Paired.app t1 t2))) (.ref zaR)⟩))
    · cases e
  · split at e
    · rename_i x0 a0 b0 hl
      cases e
      rcases r1 with r1 | ⟨a',_,oo⟩
      · obtain ⟨a,xs,rfl,s1,t1⟩ := r1.tup gk
        obtain ⟨b,ys,rfl,s2,t2⟩ := r2.tup gk
        have l1 := Paired.length t1
        have l2 := Paired.length t2
        refine .inr (.inr (.inr ⟨a,b,xs,ys,rfl,rfl,s1,s2,?_,by omega,fun hy => ?_,fun _ p hp => q _ _ _ (Grow.newF gk hp (.tup (.inl zam) (Paired.app t1 t2))) (.ref zaR)⟩))
        · rintro rfl
          cases t1
        · subst hy
          cases t2
          refine q _ G H (Grow.refl gk) ?_
          rw [List.append_nil]
          exact r1
      · cases oo.ob
    · cases e
  · cases e
theorem zcY (ha : SB X g m a fa) (hb : SB X g m b fb) : SE X g m (.BinOp a .Add b pos) (f2 fa fb addA) := zhL (OpR.or zoi (OpR.or zgL (OpR.or ziN zlD))) zmI ha hb
end
end DL
end
section
namespace DL
open PySem PySem.Spec PyProof.Rows L2
structure DefAt (K : PySem.W.Frag) (mg : Str→Option Value) (x : Str) (st : Stmt) : Prop where
  ex : ∃ f fd,mg x = some (.ref f)∧Fun K x x st f fd
structure Callee (P : Program) (w : World) (K : PySem.W.Frag) (mg : Str→Option Value) (base : Heap) (x : Str) (ps : List Str) (ds : List Value) (k : Nat) (ro : Bool) (ms : List Md) (F : List D→Res D) : Prop where
  ex : ∃ f fd,mg x = some (.ref f)∧PySem.W.keepIn K (.ref f) = true∧zjg K fd ps ds∧FnOk P w K mg base CX0 k f fd ps (spM K ro ms F)
section
variable {P : Program} {w : World} {K : PySem.W.Frag} {mg : Str → Option Value} {base : Heap}
theorem zaM {x : Str} {st : Stmt} {N ps : List Str} {k : Nat} {ro : Bool} {ms : List Md} {fs : FS} {m' : List Md} (A : DefAt K mg x st) (S : FnScope N ps (zab st)) (hms : ms.length = ps.length)
    (hb : ∀ (kV doc pm : Value) (an : Option Addr) (cdv ct : Value) (us : List Value),us.length = ps.length→bindArgs (PySem.W.fnOf x x (zcs st) (zbw st) (zab st) .none kV doc pm an cdv ct) ⟨us,[]⟩ = pure (ps.zip us))
    (hbody : ∀ (f : Addr) (cdv : Value) (A : Around) (outer : List Env) (s : Shared) (H : Hp) (g : GE) (E : XK),Room k (A.deeper (envOfC x (zab st) s.heap.objs.size f cdv)) →
      SSs (cxOf CX0 P w K mg base N x (zab st) f cdv A outer s H E).nox g ro [] (zfc N.length ms) (zbw st) fs m') :
    Callee P w K mg base x ps [] (k + 1) ro ms fun ds => outR ro (fs (zao N.length ds)) := by
  obtain ⟨f,fd,h1,F⟩ := A.ex
  exact ⟨f,fd,h1,F.kp,F.binds hb,zoy F S hms (hbody f)⟩
structure DefAtD (K : PySem.W.Frag) (mg : Str→Option Value) (x : Str) (st : Stmt) (dds : List Value) : Prop where
  ex : ∃ (f T : Addr) (o : Obj) (n : Nat) (oc : Value) (od : Option Addr) (kV doc pm : Value) (an : Option Addr) (cdv ct : Value) (osl : Array (Option Value)),
    mg x = some (.ref f)∧K.lookup T = some o∧o.data = .seq dds.toArray n∧K.lookup f = some ⟨oc,od,.func (PySem.W.fnOf x x (zcs st) (zbw st) (zab st) (.ref T) kV doc pm an cdv ct),osl⟩∧PySem.W.codeIn K cdv x = true∧PySem.W.keepIn K (.ref f) = true
theorem zf7 {x : Str} {st : Stmt} {N ps : List Str} {k : Nat} {ro : Bool} {ms : List Md} {fs : FS} {m' : List Md} {dds ds : List Value} (A : DefAtD K mg x st dds) (S : FnScope N ps (zab st)) (hms : ms.length = ps.length) (nn : Nat) (hn : nn + ds.length = ps.length)
    (hb : ∀ (T : Addr) (kV doc pm : Value) (an : Option Addr) (cdv ct : Value) (us : List Value),us.length = nn→∃ kk : Option (Array Value)→Sem (List (Str × Value)),bindArgs (PySem.W.fnOf x x (zcs st) (zbw st) (zab st) (.ref T) kV doc pm an cdv ct) ⟨us,[]⟩ = seqItems? (.ref T) >>= kk∧kk (some dds.toArray) = pure (ps.zip (us++ds)))
    (hbody : ∀ (f : Addr) (cdv : Value) (A : Around) (outer : List Env) (s : Shared) (H : Hp) (g : GE) (E : XK),Room k (A.deeper (envOfC x (zab st) s.heap.objs.size f cdv)) →
      SSs (cxOf CX0 P w K mg base N x (zab st) f cdv A outer s H E).nox g ro [] (zfc N.length ms) (zbw st) fs m') :
    Callee P w K mg base x ps ds (k + 1) ro ms fun zs => outR ro (fs (zao N.length zs)) := by
  obtain ⟨f,T,o,n,oc,od,kV,doc,pm,an,cdv,ct,osl,h1,hT,hd,lk,hcd,kp⟩ := A.ex
  refine ⟨f,PySem.W.fnOf x x (zcs st) (zbw st) (zab st) (.ref T) kV doc pm an cdv ct,h1,kp,fun s us KX hl => ?_,?_⟩
  · obtain ⟨kk,e1,e2⟩ := hb T kV doc pm an cdv ct us (by rw [List.length_append] at hl; omega)
    exact BindsTo.of_defaults rfl (KX _ _ hT) hd e1 e2
  · have hpl : ps.length≤N.length := by have := congrArg List.length S.pre; rw [List.length_take] at this; omega
    refine zrR lk hcd S (fun vs H Q E ⟨G,ds,gk,rs,q⟩ => rs.len.1.trans hms) fun A outer s H vs Q E hr ⟨G,ds,gk,rs,q⟩ => ?_
    exact ⟨_,(hbody f cdv A outer s H ⟨G,H,fun _ => none⟩ E hr).2.nox,zao N.length ds,G,zjp gk rs (by omega),zj1 q⟩
end
section
variable {X : Cx} {g : GE} {m : List Md} {e : Expr} {es : List Expr} {fl : Rho → Res (List D)} {k : Nat} {ps : List Str} {F : List D → Res D} {dvs : List V} {ds : List Value} {dds : List D} {x : Str} {p pos : Pos} {i : Nat} {ms ms' : List Md}
theorem zan (c : Callee X.prog X.w X.K X.mg X.base x ps ds k false ms' F) (hr : Room k X.A) (ha : SAM X g m (e::es) ms fl) (hms : ms' = ms++List.replicate dds.length .sh := by rfl) (hg : Gl X x := by rfl) (hd : Vals dvs ds := by exact .nil) (hsc : Paired Scl dvs dds := by exact .nil)
    (hdb : (x == ("__debug__" : Str)) = false := by decide) (he : starEach (e::es) X.env = (false,eval e X.env)::starEach es X.env := by rfl) (hpl : (backTo pos (starEach es X.env)).any (·.1) = false := by rfl) :
    SE X g m (.Call (.Name x p) (e::es) [] pos) (zat fl dds F) := by
  subst hms
  obtain ⟨f,fd,h1,h2,h3,h4⟩ := c.ex
  exact zqx h4 hr hg h1 h2 h3 hd hsc ha hdb he hpl
theorem v_ (i : Nat) (hm : m[i]? = some .sh := by rfl) (hN : X.N[i]? = some x := by rfl) (hv : Vis X.env.scope x := by first | exact Or.inl rfl | exact Or.inr (Or.inl rfl) | exact Or.inr (Or.inr rfl)) (hd : (x == ("__debug__" : Str)) = false := by decide) (hcd : (x == ("__classdict__" : Str)) = false := by decide) :
    SE X g m (.Name x p) fun r => getV r i := zsu i hm hN hv hd hcd
theorem vb_ (i : Nat) (hm : i < m.length := by decide) (hN : X.N[i]? = some x := by rfl) (hv : Vis X.env.scope x := by first | exact Or.inl rfl | exact Or.inr (Or.inl rfl) | exact Or.inr (Or.inr rfl)) (hd : (x == ("__debug__" : Str)) = false := by decide) (hcd : (x == ("__classdict__" : Str)) = false := by decide) :
    SB X g m (.Name x p) fun r => getV r i := zqo i hm hN hv hd hcd
end
end DL
end
section
namespace DL
open PySem PySem.Spec PyProof.Rows L2
noncomputable def zmu (osc : Scope) (ON : List Str) (sc : Scope) (N' : List Str) (nl : Nat) (cap : List Nat) : Bool :=
  decide (sc.kind = .function) && sc.names.all (fun y => decide (y.2≠.cell)) && sc.names.all (fun y => decide (y.2≠.local) || decide (sc.names.lookup y.1 = some .local)) &&
  sc.names.all (fun y => decide (y.2≠.free) || (decide (osc.names.lookup y.1 = some .cell) || decide (osc.names.lookup y.1 = some .free))) && decide (N'.length = nl + cap.length) &&
  (List.range cap.length).all fun j => match N'[nl + j]?,ON[cap.getD j 0]? with
    | some x,some y => decide (x = y) && decide (sc.names.lookup x = some .free)
    | _,_ => false
theorem zaS {X : Cx} {osc : Scope} {ON : List Str} {sc : Scope} {N' : List Str} {nl : Nat} {cap : List Nat} (h1 : X.env.scope = osc) (h2 : X.N = ON) (h : zmu osc ON sc N' nl cap = true) : CompSc X sc N' nl cap := by
  subst h1 h2
  unfold zmu at h
  simp only [Bool.and_eq_true,List.all_eq_true,decide_eq_true_eq,Bool.or_eq_true] at h
  obtain ⟨⟨⟨⟨⟨a1,a2⟩,a3⟩,a4⟩,a5⟩,a6⟩ := h
  refine ⟨a1,a2,fun y hy hl => (a3 y hy).resolve_left fun z => z hl,fun y hy hf => (a4 y hy).resolve_left fun z => z hf,a5,fun j hj => ?_⟩
  have h6 := a6 j (List.mem_range.mpr hj)
  cases e1 : N'[nl + j]? with
  | none => rw [e1] at h6; cases h6
  | some x =>
    cases e2 : X.N[cap.getD j 0]? with
    | none => rw [e1,e2] at h6; cases h6
    | some y =>
      rw [e1,e2] at h6
      simp only [Bool.and_eq_true,decide_eq_true_eq] at h6
      exact ⟨x,rfl,by rw [h6.1],h6.2⟩
section
variable {X : Cx} {g : GE} {m mb : List Md} {e a b c : Expr} {f fa fb fc : FE} {pos pos' : Pos}
theorem zkJ {R R' : R2} {k k' : D→D→Option D} (ho : OpD X.K R k) (ho' : OpD X.K R' k') {σ : L2.St} {H : Hp} {Q : VK} (h : tE X g m (zij fa fb fc k k') σ H Q) : zn3 R R' (tB X g m fa) (tB X g m fb) (tB X g m fc) σ H Q := by
  obtain ⟨r,G,si,q⟩ := h
  refine seq2 si q fun d1 d2 v1 v2 G2 H2 w r1 r2 q2 => ?_
  obtain ⟨z,ez,q3⟩ := zav (zag q2)
  obtain ⟨cc,ec,q4⟩ := zav (zag q3)
  refine ho G2 H2 v1 v2 d1 d2 z _ w.ok r1 r2 ez fun v G3 H3 w3 rv => ?_
  cases z with
  | bl b' =>
    cases ec
    refine ⟨_,rv.bl w3.ok,?_⟩
    cases cc with
    | false => rw [if_neg Bool.false_ne_true] at q4 ⊢; exact q4 _ G3 H3 (w.trans w3) (.scl (.bl _))
    | true =>
      rw [if_pos rfl] at q4 ⊢
      refine ⟨r,G3,(si.grow w).grow w3,zaB (zag q4) (w.trans w3) fun d3 q5 v3 G4 H4 w4 r3 => ?_⟩
      obtain ⟨d,e,q6⟩ := zav q5
      exact ho' G4 H4 v2 v3 d2 d3 d Q w4.ok ((r2.mono w3).mono w4) r3 e fun v G' H' w' z => q6 v G' H' (((w.trans w3).trans w4).trans w') z
  | _ => cases ec
theorem zm1 {op op' : CmpOp} {R R' : R2} {k k' : D→D→Option D} (hr : OpR X (compareOp op) R) (hr' : OpR X (compareOp op') R') (ho : OpD X.K R k) (ho' : OpD X.K R' k') (ha : SB X g m a fa) (hb : SB X g m b fb) (hc : SB X g m c fc)
    (hm : lastMarks [op,op'] [b,c] = false := by with_unfolding_all rfl) : SE X g m (.Compare a [op,op'] [b,c] pos) (zij fa fb fc k k') := PE.imp (znm hr hr' ha hb hc hm) fun σ H Q h => zkJ ho ho' h
theorem zsL {K : PySem.W.Frag} : OpD K (rI0 fun i j => V.bl (decide (i < j))) ltI := zf4 fun _ _ => .bl _
theorem zsM {K : PySem.W.Frag} : OpD K (rI0 fun i j => V.bl (decide (i≤j))) leI := zf4 fun _ _ => .bl _
end
end DL
end
section
namespace DL
open PySem PySem.Spec PyProof.Rows L2
theorem ztg {K : PySem.W.Frag} {h : Heap} {mg : Str→Option Value} {x : Str} {st : Stmt} (KX : K.In h) (G : h.Ns mainGlobals mg) {f : Addr} {oc : Value} {od an : Option Addr} {osl : Array (Option Value)} {kV doc pm cdv ct : Value} (a : PySem.W.nsIn K mainGlobals x = some (some (.ref f)))
    (l : K.lookup f = some ⟨oc,od,.func (PySem.W.fnOf x x (zcs st) (zbw st) (zab st) .none kV doc pm an cdv ct),osl⟩) (c : PySem.W.codeIn K cdv x = true) (k : PySem.W.keepIn K (.ref f) = true) : DefAt K mg x st :=
  ⟨f,_,PySem.W.mg_of KX G a,zrP l c k⟩
theorem zs6 {K : PySem.W.Frag} {h : Heap} {mg : Str→Option Value} {x : Str} {st : Stmt} {dds : List Value} (KX : K.In h) (G : h.Ns mainGlobals mg) {f T : Addr} {oc tc : Value} {od an td : Option Addr} {osl tsl : Array (Option Value)} {n : Nat} {kV doc pm cdv ct : Value} (a : PySem.W.nsIn K mainGlobals x = some (some (.ref f)))
    (l : K.lookup f = some ⟨oc,od,.func (PySem.W.fnOf x x (zcs st) (zbw st) (zab st) (.ref T) kV doc pm an cdv ct),osl⟩) (t : K.lookup T = some ⟨tc,td,.seq dds.toArray n,tsl⟩) (c : PySem.W.codeIn K cdv x = true) (k : PySem.W.keepIn K (.ref f) = true) : DefAtD K mg x st dds :=
  ⟨f,T,_,n,oc,od,kV,doc,pm,an,cdv,ct,osl,PySem.W.mg_of KX G a,t,rfl,l,c,k⟩
theorem zte {P : Program} {w : World} {K : PySem.W.Frag} {mg : Str→Option Value} {x p : Str} {st : Stmt} {k : Nat} {F : List D→Res D} {fa : Addr} (hfa : mg x = some (.ref fa)) (A : DefAt K mg x st)
    (hb : ∀ (kV doc pm : Value) (an : Option Addr) (cdv ct : Value) (us : List Value),us.length = [p].length→bindArgs (PySem.W.fnOf x x (zcs st) (zbw st) (zab st) .none kV doc pm an cdv ct) ⟨us,[]⟩ = pure ([p].zip us))
    (C : ∀ (f : Addr) (fd : FuncData),Fun K x x st f fd→∀ base : Heap,FnOk P w K mg base CX0 k f fd [p] (spM K false [.sh] F)) :
    ∃ fd : FuncData,(∀ (s : Shared) (u : Value),BindsTo s fd ⟨[u],[]⟩ [(p,u)])∧∀ base : Heap,K.In base→base.Ns mainGlobals mg→FnOk P w K mg base CX0 k fa fd [p] (spM K false [.sh] F) := by
  obtain ⟨f,fd,h1,Fn⟩ := A.ex
  rw [hfa] at h1
  cases h1
  refine ⟨fd,fun s u => ?_,fun base _ _ => C fa fd Fn base⟩
  obtain ⟨oc,od,kV,doc,pm,an,cdv,ct,osl,rfl,lk,hcd⟩ := Fn.ex
  exact .of_eq (hb kV doc pm an cdv ct [u] rfl)
theorem zth {l : PySem.W.OpenLaw} {k : Nat} {q : Program} {loose : List Str} {XP : (Str→Option Value)→Heap→Prop} {YP : World→Heap→Prop} {d : DefRec} {K : Params→PySem.W.Frag} {x : Str} {F : List D→Res D} (hn : l.most = some 63) (hdf : d.params.defaults = []) (hr : Room k callerA)
    (hY : ∀ (w : World) (h : Heap),YP w h→(K w.params).In h) (hF : ∀ ns : List Int,ns.length≤63→F [.lst (ns.map .int)] = .ok (.bl true))
    (C : ∀ (w : World) (mg : Str→Option Value) (fa : Addr) (h : Heap),(K w.params).In h→h.Ns mainGlobals mg→mg d.name = some (.ref fa) →
      ∃ fd : FuncData,(∀ (s : Shared) (u : Value),BindsTo s fd ⟨[u],[]⟩ [(x,u)])∧∀ base : Heap,(K w.params).In base→base.Ns mainGlobals mg→FnOk l.prog w (K w.params) mg base CX0 k fa fd [x] (spM (K w.params) false [.sh] F)) :
    PySem.W.WalkO q loose XP YP l.row.toRowW d [] (fun f vs => PySem.call f vs) := by
  refine L2.walk_of (n := 63) (k := k) (x := x) (CX := fun _ => CX0) (sp := fun w => spM (K w.params) false [.sh] F) hn (by decide) hdf hr hY C (fun w H a ns hl hO hS => ?_) fun _ _ _ _ _ z => z
  have intsP : ∀ (l : List Int),Paired Scl (l.map V.int) (l.map D.int) := fun l => by
    induction l with
    | nil => exact .nil
    | cons i l ih => exact .cons (.int i) ih
  rcases hS with hS | hS
  · refine ⟨fun b => if b = a then some (.lst (ns.map D.int)) else none,[.lst (ns.map .int)],fun b d' hb => ?_,.sh (.ref (if_pos rfl)) .nil,?_⟩
    · by_cases e : b = a
      · subst e
        have hb' : some (D.lst (ns.map D.int)) = some d' := (if_pos rfl).symm.trans hb
        cases hb'
        exact .lst hS (Paired.mono (fun _ _ z => .scl z) (intsP ns))
      · have hb' : (none : Option D) = some d' := (if_neg e).symm.trans hb
        cases hb'
    · rw [hF ns hl]
      intro v G' H' w' rv
      exact rv.bl w'.ok
  · refine ⟨fun _ => none,[.lst (ns.map .int)],fun b d' hb => (by cases hb),.sh (.kc (.lst (.inr hS) (intsP ns))) .nil,?_⟩
    rw [hF ns hl]
    intro v G' H' w' rv
    exact rv.bl w'.ok
end DL
end
section
namespace DL
open PySem PySem.Spec PyProof.Rows L2
open AutoSeq1 (wpAny_loadPart')
section
variable {prog : Program} {w : World} {A : Around} {E : Value → Shared → Prop} {s : Shared}
theorem ze1 {it t : Addr} {i : Nat} {items} {x : Value} {Q : Value→Shared→Prop} (hit : s.heap.IsTupleIter it t i) (ht : s.heap.IsTuple t items) (hx : items[i]? = some x)
    (hQ : ∀ h',h'.IsTupleIter it t (i + 1)→Heap.SameBut it s.heap h'→Q x { s with heap := h' }) : wpAny (model prog w) A (Builtin.SmallTypes.nextOf (.ref it)) Q E s := by
  obtain ⟨o,ho,hc,hd⟩ := id hit
  obtain ⟨ol,hol,_,nl,hdl⟩ := ht
  unfold Builtin.SmallTypes.nextOf
  refine wpAny_bind (wpAny_callSpecial?_slot (name := Str.ofString "__next__") hit.typeIs F.slot_tuple_iterator_next
    (wpAny_call_entry F.slot_tuple_iterator_next hit.typeIs F.entry_tuple_iterator_next ?_ (F.args_tuple_iterator_next_1 _)))
  show wpAny _ _ (field (.ref it) 0 >>= _) _ _ s
  refine wpAny_bind (wpAny_field ho hd (x := .ref t) rfl ?_)
  show wpAny _ _ (if (Value.ref t == Value.none) = true then _ else _) _ _ s
  rw [if_neg (show ¬ ((Value.ref t == Value.none) = true) from Bool.false_ne_true)]
  show wpAny _ _ (field (.ref it) 1 >>= _) _ _ s
  refine wpAny_bind (wpAny_field ho hd (x := .int i 0) rfl ?_)
  show wpAny _ _ (seqItems? (.ref t) >>= _) _ _ s
  refine wpAny_bind (wpAny_seqItems hol hdl ?_)
  simp only [Int.toNat_natCast,hx]
  refine wpAny_bind (wpAny_setField ho hd (by simp) (wpAny_pure ⟨x,rfl,wpAny_pure (hQ _ ?_ (Heap.SameBut.update ..))⟩))
  exact ⟨_,Heap.get?_update_self _ ho (Obj.isFreed_of_fields (Obj.data_mapFields hd _)),(Obj.cls_mapFields ..).trans hc,by
    rw [Obj.data_mapFields hd]; simp [rawInt]⟩
theorem zfD {it t : Addr} {i : Nat} {items} {Q : Value→Shared→Prop} (hh : A.handled = none) (hit : s.heap.IsTupleIter it t i) (ht : s.heap.IsTuple t items) (hx : items[i]? = none)
    (hE : ∀ h' e,Heap.ExtBut it s.heap h'→(∃ o,h'.get? e = some o∧o.cls = .type "StopIteration")→E (.ref e) { s with heap := h' }) : wpAny (model prog w) A (Builtin.SmallTypes.nextOf (.ref it)) Q E s := by
  obtain ⟨o,ho,hc,hd⟩ := id hit
  obtain ⟨ol,hol,_,nl,hdl⟩ := ht
  unfold Builtin.SmallTypes.nextOf
  refine wpAny_bind (wpAny_callSpecial?_slot (name := Str.ofString "__next__") hit.typeIs F.slot_tuple_iterator_next
    (wpAny_call_entry F.slot_tuple_iterator_next hit.typeIs F.entry_tuple_iterator_next ?_ (F.args_tuple_iterator_next_1 _)))
  show wpAny _ _ (field (.ref it) 0 >>= _) _ _ s
  refine wpAny_bind (wpAny_field ho hd (x := .ref t) rfl ?_)
  show wpAny _ _ (if (Value.ref t == Value.none) = true then _ else _) _ _ s
  rw [if_neg (show ¬ ((Value.ref t == Value.none) = true) from Bool.false_ne_true)]
  show wpAny _ _ (field (.ref it) 1 >>= _) _ _ s
  refine wpAny_bind (wpAny_field ho hd (x := .int i 0) rfl ?_)
  show wpAny _ _ (seqItems? (.ref t) >>= _) _ _ s
  refine wpAny_bind (wpAny_seqItems hol hdl ?_)
  simp only [Int.toNat_natCast,hx]
  refine wpAny_bind (wpAny_rule (wpAny_bind (wpAny_setField ho hd (by simp) ?_)))
  show wpAny _ _ (newExc (.type "StopIteration") [] >>= _) _ _ _
  refine wpAny_bind ?_
  simp only [newExc,newTuple]
  refine wpAny_bind (wpAny_newObj_type ?_ (by size_fits))
  refine wpAny_bind (m := firstArgMember _ _) (wpAny_of_eq (a := Value.none) (by first | rfl | (simp only [firstArgMember]; rfl)) ?_)
  refine wpAny_newObj_type ?_ (by size_fits)
  simp only [raiseNew]
  refine wpAny_bind (wpAny_handled ?_)
  first | rw [show A.in1.handled = none from hh] | rw [hh]
  refine wpAny_bind (wpAny_pure (wpAny_throw ?_))
  exact hE _ _ (((Heap.SameBut.update ..).extBut.push _).push _) ⟨_,Heap.get?_push_size _ rfl,rfl⟩
end
theorem zoA {prog : Program} {w : World} {A : Around} (hh : A.handled = none) (it l : Addr) (hne : l≠it) (items : Array Value) :
    Draws prog w A it [it,l] items.size (fun i v => items[i]? = some v) (fun i h => h.IsTupleIter it l i∧h.IsTuple l items) where
  live := fun _ _ st => let ⟨o,ho,_⟩ := st.1; ⟨o,ho⟩
  frame := fun _ _ _ st hk => ⟨let ⟨o,ho,r⟩ := st.1; ⟨o,hk it (by simp) o ho,r⟩,let ⟨o,ho,r⟩ := st.2; ⟨o,hk l (by simp) o ho,r⟩⟩
  item := fun i s Q E hi st hQ => by
    refine ze1 st.1 st.2 (x := items[i]) (by simp [hi]) fun h' hit' hs' => ?_
    exact hQ _ h' s.toks (by simp [hi]) ⟨hit',st.2.extBut hs'.extBut hne⟩ hs'
  done := fun s Q E st hE => zfD hh st.1 st.2 (by simp) hE
theorem zga (l : Addr) (items : Array Value) (n : Nat) (dct : Option Addr) (sl : Array (Option Value)) :
    Meets (Builtin.«enumerate.__new__» ⟨[.type "enumerate",.ref l],[]⟩) (fun _ R s => s.heap.get? l = some { cls := .type "tuple",dict := dct,data := .seq items n,slots := sl } ∧
      R (.ok (.ret (.ref (s.heap.push { cls := .type "tuple_iterator",data := .fields #[.ref l,.int 0 0] }).objs.size)))
        { s with heap := (s.heap.push { cls := .type "tuple_iterator",data := .fields #[.ref l,.int 0 0] }).push { cls := .type "enumerate",data := .fields #[.none,.bool false,.ref s.heap.objs.size,rawInt 0,.none,.none] } }) :=
  .of_wp fun prog w A R s h => by
    obtain ⟨hp,g,d,tk,os⟩ := s; obtain ⟨hl,h⟩ := h
    have hsub := sub_enumerate
    have hL : Heap.IsTuple (Shared.heap ⟨hp,g,d,tk,os⟩) l items := ⟨_,hl,rfl,n,rfl⟩
    wp_walk using wpAny_loadPart' hl
    refine wpAny_stack_any fun st => wpAny_pure ?_
    split
    · rename_i c _ _ _ _ _
      cases (c == Value.type "enumerate")
      · wp_walk using wpAny_loadPart' hl,wpAny_pyIter_tuple hL
        exact ⟨_,rfl,h⟩
      · wp_walk using wpAny_loadPart' hl,wpAny_pyIter_tuple hL
        exact ⟨_,rfl,h⟩
    · wp_walk using wpAny_loadPart' hl,wpAny_pyIter_tuple hL
      exact ⟨_,rfl,h⟩
section
variable {prog : Program} {w : World} {A : Around} {E : Value → Shared → Prop} {s : Shared}
theorem zgl {l : Addr} {items : Array Value} {Q : Value→Shared→Prop} (hL : s.heap.IsTuple l items)
    (h : ∀ h',IsEnum h' (s.heap.objs.size + 1) s.heap.objs.size 0 .none→h'.IsTupleIter s.heap.objs.size l 0→h'.objs.size = s.heap.objs.size + 2 →
      (∀ b o,s.heap.get? b = some o→h'.get? b = some o)→Q (.ref (s.heap.objs.size + 1)) { s with heap := h' }) :
    wpAny (model prog w) A (call (.type "enumerate") [.ref l]) Q E s := by
  obtain ⟨⟨c,dct,dt,sl⟩,hl,hc,n,hd⟩ := hL
  replace hc : c = .type "tuple" := hc
  replace hd : dt = .seq items n := hd
  subst hc hd
  refine callType_new F.called_enumerate (by decide) (F.typeCall_enumerate_1 _) (F.newCall_enumerate_1 _) (fun obj => F.args_object_init_2 obj _) F.entry_enumerate_new
    (zga l items n dct sl) ⟨hl,?_⟩
  have hz : (s.heap.push { cls := .type "tuple_iterator",data := .fields #[.ref l,.int 0 0] }).objs.size = s.heap.objs.size + 1 := Heap.size_push ..
  show _∧_
  rw [hz]
  have he : IsEnum ((s.heap.push { cls := .type "tuple_iterator",data := .fields #[.ref l,.int 0 0] }).push
      { cls := .type "enumerate",data := .fields #[.none,.bool false,.ref s.heap.objs.size,rawInt 0,.none,.none] }) (s.heap.objs.size + 1) s.heap.objs.size 0 .none := by
    have := Heap.get?_push_size (s.heap.push { cls := .type "tuple_iterator",data := .fields #[.ref l,.int 0 0] })
      (o := { cls := .type "enumerate",data := .fields #[.none,.bool false,.ref s.heap.objs.size,rawInt 0,.none,.none] }) rfl
    rw [hz] at this; exact this
  refine ⟨⟨_,he,rfl⟩,h _ he ⟨_,Heap.get?_push_of_some _ (Heap.get?_push_size _ rfl),rfl,rfl⟩ (by rw [Heap.size_push,hz]) fun b o x => Heap.get?_push_of_some _ (Heap.get?_push_of_some _ x)⟩
end
theorem zjS {X : Cx} {pins : List (Addr × Obj)} {σ : L2.St} {H : Hp} {s : Shared} {h' : Heap} {ch : List Addr} {T : Addr} {o : HO} {t' : Nat} (I : Inv X pins σ H s)
    (hch : ∀ b∈ch,FpOk X pins H b) (k : ∀ b ob,b∉ch→s.heap.get? b = some ob→h'.get? b = some ob) (hT : s.heap.objs.size≤T) (new : zaU X.prog X.w (upd H T o) h' T o) : Inv X pins σ (upd H T o) { s with heap := h',toks := t' } := by
  have hTn : H T = none := I.hok.fresh hT
  have trk : ∀ b u,H b = some u→b∉ch := fun b u e hb => by rw [(hch b hb).1] at e; cases e
  have neT : ∀ b ob,s.heap.get? b = some ob→b≠T := fun b ob e => Nat.ne_of_lt (Nat.lt_of_lt_of_le (Heap.lt_size e) hT)
  have keepU : ∀ b u,H b = some u→upd H T o b = some u := fun b u e => by rw [zay (zbB e hTn)]; exact e
  refine I.step (g' := s.gens) (d' := s.drawn) (ch := ch) (fun b hb => ?_) (fun b ob _ _ hc e _ => k b ob hc e) (fun b ob _ _ hc e _ => ⟨ob.slots,k b ob hc e⟩) (fun b ob hc e n => by rw [zay (neT b ob e)]; exact n)
    (fun b ob hc e => ⟨ob,k b ob hc e⟩) (fun b xs e => keepU b _ e) (fun b ob u e => keepU b _ e) (fun b ps e => ⟨#[],by rw [keepU b _ e]; simp⟩) (fun m hm => ?_) (fun b u e => ?_) I.bare
  · obtain ⟨z0,z1,z2,z3,z4,z5⟩ := hch b hb
    exact ⟨z3,z1,z4,z5⟩
  · obtain ⟨ob,es,ep,ho,r⟩ := hm
    exact ⟨ob,es,ep,k _ ob (fun hb => (hch _ hb).2.1 rfl) ho,r⟩
  · by_cases hb : b = T
    · subst hb
      rw [zam] at e
      cases e
      exact new
    · rw [zay hb] at e
      refine (I.hok b u e).stay (fun c v hc q => k c v ?_ q) (fun c q => keepU c _ q) fun c xs q => keepU c _ q
      rcases hc with z | z
      · rw [z]; exact trk b u e
      · exact trk c _ z
noncomputable def Ien (sq : Hp→List V→Prop) : It :=
  ⟨fun i H => ∃ xs x,sq H xs∧xs[i]? = some x,fun i H x H' => ∃ p v,H p = none∧x = .ref p∧H' = upd H p (.tup [.int i,v])∧∀ xs,sq H xs→xs[i]? = some v,fun i H => ∃ xs,sq H xs∧xs.length = i⟩
theorem zlw {P : Program} {w : World} {H : Hp} {h : Heap} {T : Addr} {i : Nat} {tk : Tok} {x : Value} {v : V} (hT : h.get? T = some { cls := .type "tuple",data := .seq #[.int i tk,x] }) (r : L2.RelV v x) : zaU P w H h T (.tup [.int i,v]) :=
  ⟨by show 2≤sizeLine; decide,[.int i tk,x],.cons ⟨tk,rfl⟩ (.cons r .nil),⟨_,hT,rfl,0,rfl⟩,_,hT,rfl⟩
theorem zka {P : Program} {w : World} {K : PySem.W.Frag} {elts : List Expr} {k : Nat} {pos : Pos} (a it e : Addr) (hei : e≠it) : Turn P w K (.Tuple elts k pos) (Ien fun H xs => SqL K H a xs) [e,it] e (fun i h => (∃ old,IsEnum h e it i old)∧h.IsListIter it a i) where
  mem := by simp
  obj := fun i h st b hb => by
    obtain ⟨⟨old,he⟩,o,ho,hc,hd⟩ := st
    rcases List.mem_cons.mp hb with rfl | hb
    · exact ⟨_,he,fun v z => by have z' : Data.fields _ = Data.cell v := z; cases z'⟩
    · rw [List.mem_singleton.mp hb]
      exact ⟨o,ho,fun v z => by rw [hd] at z; cases z⟩
  keep := fun i h h' st kk => by
    obtain ⟨⟨old,he⟩,hi⟩ := st
    exact ⟨⟨old,kk e (by simp) _ he⟩,hi.at fun o q => kk it (by simp) o q⟩
  item := by
    intro X hP hw hK hc i pins s σ H E I hf st hg
    subst hP hw hK
    obtain ⟨xs,x,hq,hx⟩ := hg
    obtain ⟨its,rv,p,hz⟩ := I.list hq
    obtain ⟨⟨old,he⟩,hi⟩ := st
    obtain ⟨o1,ho1,hc1,hd1⟩ := id hi
    obtain ⟨o2,ho2,hc2,_⟩ := id p.isList
    have hai : a≠it := by rintro rfl; rw [ho1] at ho2; cases ho2; rw [hc1] at hc2; exact absurd hc2 (by decide)
    have hea : e≠a := by rintro rfl; rw [he] at ho2; cases ho2; exact absurd (show Value.type "enumerate" = _ from hc2) (by decide)
    have hlt : i < its.toArray.size := by
      have := (List.getElem?_eq_some_iff.mp hx).1
      rw [List.size_toArray,← rv.length]; exact this
    refine wpAny_pyNext_enum_itemD (Draws.list (A := X.A.in1) (show X.A.in1.handled = none from I.ok.hd hc) it a hai its.toArray) he ⟨hi,p.isList⟩ hlt hei (by simp [hei,hea]) fun y h' tk hP ho hs' hT hsz hk => ?_
    refine ⟨_,rfl,wpAny_letOwnedTupleGo_enum ho fun h'' he'' hs'' => ?_⟩
    obtain ⟨u,hu,ru⟩ := rv.get hx
    have hy : y = u := by
      have : its[i]? = some y := by simpa using hP
      rw [hu] at this; exact (Option.some.inj this).symm
    subst hy
    have hTe : s.heap.objs.size≠e := Nat.ne_of_gt (Heap.lt_size he)
    have hT'' : h''.get? s.heap.objs.size = some { cls := .type "tuple",data := .seq #[.int i tk,y] } := (hs''.2 _ hTe).trans hT
    refine ⟨.ref s.heap.objs.size,upd H s.heap.objs.size (.tup [.int i,x]),zjS (s := s) (h' := h'') (t' := tk + 1) (ch := [e,it]) I hf (fun b ob hb q => ?_) (Nat.le_refl _) (zlw hT'' ru),rfl,⟨_,x,I.hok.fresh (Nat.le_refl _),rfl,rfl,fun ys hy => by rw [I.list_inj hy hq]; exact hx⟩,⟨⟨_,by simpa using he''⟩,hs'.1.extBut hs''.extBut (Ne.symm hei)⟩,fun b hb => ?_⟩
    · have hbe : b≠e := fun z => hb (by simp [z])
      exact (hs''.2 b hbe).trans (hk b ob hbe (fun z => hb (by simp [z])) q)
    · rw [zay ?_]
      · exact (hf b hb).1
      · rcases List.mem_cons.mp hb with rfl | hb
        · exact Nat.ne_of_lt (Heap.lt_size he)
        · rw [List.mem_singleton.mp hb]; exact Nat.ne_of_lt (Heap.lt_size ho1)
  done := by
    intro X hP hw hK hc i pins s σ H E I hf st hg
    subst hP hw hK
    obtain ⟨xs,hq,hx⟩ := hg
    obtain ⟨its,rv,p,hz⟩ := I.list hq
    obtain ⟨⟨old,he⟩,hi⟩ := st
    obtain ⟨o1,ho1,hc1,hd1⟩ := id hi
    obtain ⟨o2,ho2,hc2,_⟩ := id p.isList
    have hai : a≠it := by rintro rfl; rw [ho1] at ho2; cases ho2; rw [hc1] at hc2; exact absurd hc2 (by decide)
    obtain ⟨f0,f1,f2,f3,f4,f5⟩ := hf it (by simp)
    have hn : its.toArray.size = i := by rw [List.size_toArray,← rv.length]; exact hx
    refine wpAny_pyNext_enum_endD (Draws.list (A := X.A.in1) (show X.A.in1.handled = none from I.ok.hd hc) it a hai its.toArray) he ⟨by rw [hn]; exact hi,p.isList⟩ fun h' eb => ⟨rfl,I.turned (t' := s.toks) (fun b o hb q => eb b o hb q) f0 f1 f3 f4 f5⟩
  self := fun _ _ _ _ _ st h => let ⟨⟨_,he⟩,_⟩ := st; wpAny_pyIter_enum he h
theorem IsTupleIter.at' {h h' : Heap} {a t : Addr} {i : Nat} (x : h.IsTupleIter a t i) (hs : ∀ o,h.get? a = some o→h'.get? a = some o) : h'.IsTupleIter a t i := let ⟨o,ho,r⟩ := x; ⟨o,hs o ho,r⟩
theorem zj9 {P : Program} {w : World} {K : PySem.W.Frag} {elts : List Expr} {k : Nat} {pos : Pos} (a it e : Addr) (hei : e≠it) : Turn P w K (.Tuple elts k pos) (Ien fun H xs => SqT K H a xs) [e,it] e (fun i h => (∃ old,IsEnum h e it i old)∧h.IsTupleIter it a i) where
  mem := by simp
  obj := fun i h st b hb => by
    obtain ⟨⟨old,he⟩,o,ho,hc,hd⟩ := st
    rcases List.mem_cons.mp hb with rfl | hb
    · exact ⟨_,he,fun v z => by have z' : Data.fields _ = Data.cell v := z; cases z'⟩
    · rw [List.mem_singleton.mp hb]
      exact ⟨o,ho,fun v z => by rw [hd] at z; cases z⟩
  keep := fun i h h' st kk => by
    obtain ⟨⟨old,he⟩,hi⟩ := st
    exact ⟨⟨old,kk e (by simp) _ he⟩,IsTupleIter.at' hi fun o q => kk it (by simp) o q⟩
  item := by
    intro X hP hw hK hc i pins s σ H E I hf st hg
    subst hP hw hK
    obtain ⟨xs,x,hq,hx⟩ := hg
    obtain ⟨its,rv,p,hz⟩ := I.tuple hq
    obtain ⟨⟨old,he⟩,hi⟩ := st
    obtain ⟨o1,ho1,hc1,hd1⟩ := id hi
    obtain ⟨o2,ho2,hc2,_⟩ := id p
    have hai : a≠it := by rintro rfl; rw [ho1] at ho2; cases ho2; rw [hc1] at hc2; exact absurd hc2 (by decide)
    have hea : e≠a := by rintro rfl; rw [he] at ho2; cases ho2; exact absurd (show Value.type "enumerate" = _ from hc2) (by decide)
    have hlt : i < its.toArray.size := by
      have := (List.getElem?_eq_some_iff.mp hx).1
      rw [List.size_toArray,← rv.length]; exact this
    refine wpAny_pyNext_enum_itemD (zoA (A := X.A.in1) (show X.A.in1.handled = none from I.ok.hd hc) it a hai its.toArray) he ⟨hi,p⟩ hlt hei (by simp [hei,hea]) fun y h' tk hP ho hs' hT hsz hk => ?_
    refine ⟨_,rfl,wpAny_letOwnedTupleGo_enum ho fun h'' he'' hs'' => ?_⟩
    obtain ⟨u,hu,ru⟩ := rv.get hx
    have hy : y = u := by
      have : its[i]? = some y := by simpa using hP
      rw [hu] at this; exact (Option.some.inj this).symm
    subst hy
    have hTe : s.heap.objs.size≠e := Nat.ne_of_gt (Heap.lt_size he)
    have hT'' : h''.get? s.heap.objs.size = some { cls := .type "tuple",data := .seq #[.int i tk,y] } := (hs''.2 _ hTe).trans hT
    refine ⟨.ref s.heap.objs.size,upd H s.heap.objs.size (.tup [.int i,x]),zjS (s := s) (h' := h'') (t' := tk + 1) (ch := [e,it]) I hf (fun b ob hb q => ?_) (Nat.le_refl _) (zlw hT'' ru),rfl,⟨_,x,I.hok.fresh (Nat.le_refl _),rfl,rfl,fun ys hy => by rw [I.tuple_inj hy hq]; exact hx⟩,⟨⟨_,by simpa using he''⟩,hs'.1.extBut hs''.extBut (Ne.symm hei)⟩,fun b hb => ?_⟩
    · have hbe : b≠e := fun z => hb (by simp [z])
      exact (hs''.2 b hbe).trans (hk b ob hbe (fun z => hb (by simp [z])) q)
    · rw [zay ?_]
      · exact (hf b hb).1
      · rcases List.mem_cons.mp hb with rfl | hb
        · exact Nat.ne_of_lt (Heap.lt_size he)
        · rw [List.mem_singleton.mp hb]; exact Nat.ne_of_lt (Heap.lt_size ho1)
  done := by
    intro X hP hw hK hc i pins s σ H E I hf st hg
    subst hP hw hK
    obtain ⟨xs,hq,hx⟩ := hg
    obtain ⟨its,rv,p,hz⟩ := I.tuple hq
    obtain ⟨⟨old,he⟩,hi⟩ := st
    obtain ⟨o1,ho1,hc1,hd1⟩ := id hi
    obtain ⟨o2,ho2,hc2,_⟩ := id p
    have hai : a≠it := by rintro rfl; rw [ho1] at ho2; cases ho2; rw [hc1] at hc2; exact absurd hc2 (by decide)
    obtain ⟨f0,f1,f2,f3,f4,f5⟩ := hf it (by simp)
    have hn : its.toArray.size = i := by rw [List.size_toArray,← rv.length]; exact hx
    refine wpAny_pyNext_enum_endD (zoA (A := X.A.in1) (show X.A.in1.handled = none from I.ok.hd hc) it a hai its.toArray) he ⟨by rw [hn]; exact hi,p⟩ fun h' eb => ⟨rfl,I.turned (t' := s.toks) (fun b o hb q => eb b o hb q) f0 f1 f3 f4 f5⟩
  self := fun _ _ _ _ _ st h => let ⟨⟨_,he⟩,_⟩ := st; wpAny_pyIter_enum he h
end DL
end
section
namespace DL
open PySem PySem.Spec PyProof.Rows L2
noncomputable def tyN : D→Option String
  | .non => some "NoneType"
  | .bl _ => some "bool"
  | .int _ => some "int"
  | .str _ => some "str"
  | .tup _ => some "tuple"
  | .lst _ => some "list"
  | .dic _ => some "dict"
  | .obj _ _ => none
noncomputable def subT (t T : String) : Bool := t == T || (t == "bool" && T == "int")
noncomputable def isiD (T : String) (d : D) : Option D := (tyN d).map fun t => .bl (subT t T)
noncomputable def TyD (K : PySem.W.Frag) (x : V) (H : Hp) (t : String) : Prop := match x with
  | .non => t = "NoneType"
  | .bl _ => t = "bool"
  | .int _ => t = "int"
  | .str _ => t = "str"
  | .ref p => (t = "list"∧∃ xs,SqL K H p xs)∨(t = "tuple"∧∃ xs,SqT K H p xs)∨(t = "dict"∧∃ kvs,Rd H p (.dK kvs))
  | _ => False
theorem zp8 {K : PySem.W.Frag} {G : GH} {H : Hp} {v : V} {d : D} {t : String} (gk : GOk K G H) (h : RB K G H v d) (e : tyN d = some t) : TyD K v H t := by
  cases d with
  | non => cases e; rw [h.non gk]; rfl
  | bl b => cases e; rw [h.bl gk]; rfl
  | int i => cases e; rw [h.int gk]; rfl
  | str x => cases e; rw [h.str gk]; rfl
  | tup ds => cases e; obtain ⟨a,xs,rfl,s,r⟩ := h.tup gk; exact .inr (.inl ⟨rfl,xs,s⟩)
  | lst ds => cases e; obtain ⟨a,xs,rfl,s,r⟩ := h.lst gk; exact .inl ⟨rfl,xs,s⟩
  | dic ds => cases e; obtain ⟨a,xs,rfl,s,r⟩ := h.dic gk; exact .inr (.inr ⟨rfl,xs,s⟩)
  | obj _ _ => cases e
section
variable {X : Cx} {g : GE} {m : List Md} {e a : Expr} {f : FE} {pos p p2 : Pos}
theorem znQ : zdC X (.builtin "isinstance") (fun xs H Q => ∃ x t T b,xs = [x,.ty T]∧TyD X.K x H t∧PySem.W.kitOne X.K (.type t) (.type T) = some b∧Q (.bl b) H) := by
  intro pins s σ H xs us Q I r h
  obtain ⟨x,t,T,b,rfl,ty,e,q⟩ := h
  obtain ⟨u,w',rfl,rx,ry⟩ := zp4 r
  cases ry
  have fin : ∀ tk,EP X pins σ Q (.bool b) { s with toks := tk } := fun tk => ⟨.bl b,H,I.tok tk,rfl,q⟩
  cases x with
  | non => cases rx; cases (show t = "NoneType" from ty); exact PySem.W.kia_one PySem.W.kitx_none I.kIn True.intro e (fun z => nomatch z) fin
  | bl y => cases rx; cases (show t = "bool" from ty); exact PySem.W.kia_one PySem.W.kitx_bool I.kIn True.intro e (fun z => nomatch z) fin
  | int i => obtain ⟨t,rfl⟩ := rx; cases ty; exact PySem.W.kia_one PySem.W.kitx_int I.kIn True.intro e (fun z => nomatch z) fin
  | str i => obtain ⟨t,rfl⟩ := rx; cases ty; exact PySem.W.kia_one PySem.W.kitx_str I.kIn True.intro e (fun z => nomatch z) fin
  | ref p =>
    cases rx
    rcases ty with ⟨rfl,xs,hq⟩ | ⟨rfl,xs,hq⟩ | ⟨rfl,kvs,hq⟩
    · obtain ⟨its,_,pl,_⟩ := I.list hq
      obtain ⟨o,ho,hc,_⟩ := pl.isList
      exact PySem.W.kia_one PySem.W.kitx_list I.kIn ⟨o,ho,hc⟩ e (fun z => nomatch z) fin
    · obtain ⟨its,_,pl,_⟩ := I.tuple hq
      obtain ⟨o,ho,hc,_⟩ := pl
      exact PySem.W.kia_one PySem.W.kitx_tuple I.kIn ⟨o,ho,hc⟩ e (fun z => nomatch z) fin
    · obtain ⟨_,_,vs,_,pp⟩ := (show zaU X.prog X.w H s.heap p (.dK kvs) from hq.ok I.hok)
      obtain ⟨o,es,ep,h1,h2,_⟩ := pp
      exact PySem.W.kia_one PySem.W.kitx_dict I.kIn ⟨o,h1,h2.1⟩ e (fun z => nomatch z) fin
  | _ => exact (show False from ty).elim
theorem ziK (x : Str) (T : String) (hv : bootBuiltins x = some (.type T)) (hk : ∀ (d : D) (t : String),tyN d = some t→PySem.W.kitOne X.K (.type t) (.type T) = some (subT t T)) (hg : Gl X "isinstance") (hm : X.mg "isinstance" = none) (hgT : Gl X x) (hmT : X.mg x = none) (he : SB X g m e f)
    (hn : x≠"__name__" := by decide) (hd : (x == ("__debug__" : Str)) = false := by decide) (hs1 : starEach [e,.Name x p2] X.env = (false,eval e X.env)::starEach [.Name x p2] X.env := by rfl) (hs2 : starEach [.Name x p2] X.env = (false,eval (.Name x p2) X.env)::starEach [] X.env := by rfl)
    (hpl : (backTo pos (starEach [.Name x p2] X.env)).any (·.1) = false := by rfl) :
    SE X g m (.Call (.Name "isinstance" p) [e,.Name x p2] [] pos) (f1 f (isiD T)) := by
  refine PE.imp (zeL znQ hg hm (by first | exact PyProof.Rows.boot_isinstance | rfl) (zdh he (zdh (zpe (v := .ty T) hgT hmT hv rfl hn hd) zf3 hs2) hs1) (by decide) (by decide) hs1 hpl) fun σ H Q ⟨r,G,si,q⟩ => ⟨r,G,si,zah (zag q) fun d q1 v G1 H1 w1 r1 => ?_⟩
  obtain ⟨d',e',q2⟩ := zav q1
  unfold isiD at e'
  cases et : tyN d with
  | none => rw [et] at e'; cases e'
  | some t =>
    rw [et] at e'
    cases e'
    exact ⟨v,t,T,_,rfl,zp8 w1.ok r1 et,hk d t et,q2 _ G1 H1 w1 (.scl (.bl _))⟩
end
theorem zfM {d : D} {t : String} (h : tyN d = some t) {P : String→Prop} (h1 : P "NoneType") (h2 : P "bool") (h3 : P "int") (h4 : P "str") (h5 : P "tuple") (h6 : P "list") (h7 : P "dict") : P t := by
  cases d <;> cases h <;> assumption
theorem zlR (K : PySem.W.Frag) (d : D) (t : String) (h : tyN d = some t) : PySem.W.kitOne K (.type t) (.type "int") = some (subT t "int") := zfM (P := fun t => PySem.W.kitOne K (.type t) (.type "int") = some (subT t "int")) h (by kernel_rfl) (by kernel_rfl) (by kernel_rfl) (by kernel_rfl) (by kernel_rfl) (by kernel_rfl) (by kernel_rfl)
theorem zjO (K : PySem.W.Frag) (d : D) (t : String) (h : tyN d = some t) : PySem.W.kitOne K (.type t) (.type "bool") = some (subT t "bool") := zfM (P := fun t => PySem.W.kitOne K (.type t) (.type "bool") = some (subT t "bool")) h (by kernel_rfl) (by kernel_rfl) (by kernel_rfl) (by kernel_rfl) (by kernel_rfl) (by kernel_rfl) (by kernel_rfl)
theorem zgb (K : PySem.W.Frag) (d : D) (t : String) (h : tyN d = some t) : PySem.W.kitOne K (.type t) (.type "tuple") = some (subT t "tuple") := zfM (P := fun t => PySem.W.kitOne K (.type t) (.type "tuple") = some (subT t "tuple")) h (by kernel_rfl) (by kernel_rfl) (by kernel_rfl) (by kernel_rfl) (by kernel_rfl) (by kernel_rfl) (by kernel_rfl)
section
variable {X : Cx} {g : GE} {m : List Md} {e a b : Expr} {f fa : FE} {pos p pos2 p2 : Pos} {es : List Expr} {fl : Rho → Res (List D)}
noncomputable def rngV (lo : Int) (n : Nat) : List V := (List.range n).map fun (i : Nat) => V.int (lo + (i : Int))
theorem zqE {K : PySem.W.Frag} {G : GH} (lo : Int) (n : Nat) : RGs K G (rngV lo n) (rngD lo n) := by
  unfold rngV rngD
  induction (List.range n) with
  | nil => exact .nil
  | cons i l ih => exact .cons (.scl (.int _)) ih
theorem zdc : ∀ {xs : List V} {us : List Value},xs.length = us.length→(∀ (j : Nat) v u,xs[j]? = some v→us[j]? = some u→L2.RelV v u)→Vals xs us
  | [],[],_,_ => .nil
  | v::xs,u::us,hl,h => .cons (h 0 v u rfl rfl) (zdc (by simpa using hl) fun j a b e1 e2 => h (j + 1) a b (by simpa using e1) (by simpa using e2))
  | [],_::_,hl,_ => by simp at hl
  | _::_,[],hl,_ => by simp at hl
theorem zm5 {lo : Int} {n : Nat} {acc : Array Value} (h : ItemsOf (fun i v => ∃ t,v = .int (lo + i * 1) t) acc n) : Vals (rngV lo n) acc.toList := by
  refine zdc (by simp [rngV,h.1]) fun j v u e1 e2 => ?_
  have hj : j < n := by
    have := (List.getElem?_eq_some_iff.mp e1).1
    simpa [rngV] using this
  unfold rngV at e1
  rw [List.getElem?_map,List.getElem?_range hj] at e1
  cases e1
  obtain ⟨t,rfl⟩ := h.2 j u (by rw [← Array.getElem?_toList]; exact e2)
  exact ⟨t,by simp⟩
theorem zmz : zdC X (.type "range") (fun xs H Q => ∃ j,xs = [.int j]∧∀ p,H p = none→Q (.ref p) (upd H p (.rng 0 j))) := by
  intro pins s σ H xs us Q I r h
  obtain ⟨j,rfl,q⟩ := h
  obtain ⟨u,rfl,t,rfl⟩ := zeW r
  refine call_range_1 ⟨.ref s.heap.objs.size,_,I.laid (o := .rng 0 j) (fun b o e => Heap.get?_push_of_some _ e) (Nat.le_refl _) ⟨_,_,_,Heap.get?_push_size _ rfl⟩,rfl,q _ (I.hok.fresh (Nat.le_refl _))⟩
theorem zht (hc : X.calm = true) : zdC X (.type "list") (fun xs H Q => ∃ p lo hi,xs = [.ref p]∧H p = some (.rng lo hi)∧(-(2 ^ 62)≤lo∧lo < 2 ^ 62∧-(2 ^ 62)≤hi∧hi < 2 ^ 62)∧(hi - lo).toNat≤sizeLine∧∀ l,H l = none→Q (.ref l) (upd H l (.lst (rngV lo (hi - lo).toNat)))) := by
  intro pins s σ H xs us Q I r h
  obtain ⟨p,lo,hi,rfl,hp,⟨h1,h2,h3,h4⟩,hz,q⟩ := h
  obtain ⟨u,rfl,rx⟩ := zeW r
  cases rx
  obtain ⟨t,u,v,ho⟩ := (show zaU X.prog X.w H s.heap p (.rng lo hi) from I.hok p _ hp)
  have e2 : Builtin.Range.rangeSize lo hi 1 = (((hi - lo).toNat : Nat) : Int) := by rw [rangeSize_one]; split <;> omega
  refine call_list_range (I.ok.hd hc) (r := p) (a := lo) (b := hi) (c := 1) ho (small_one h1 h2 h3 h4) e2 (by rw [sizeLine_eq] at hz; omega) fun h' tk acc c' kp hS hacc => ?_
  refine ⟨.ref s.heap.objs.size,_,I.laid (t' := tk) kp (Nat.le_refl _) (show zaU X.prog X.w _ h' _ (.lst (rngV lo (hi - lo).toNat)) from ⟨by unfold rngV; rw [List.length_map,List.length_range]; exact hz,acc.toList,c',zm5 hacc,by rw [Array.toArray_toList]; exact hS⟩),rfl,q _ (I.hok.fresh (Nat.le_refl _))⟩
noncomputable def ziW : List D→Option D
  | [.int j] => if -(2 ^ 62)≤j∧j < 2 ^ 62∧j.toNat≤sizeLine then some (.lst (rngD 0 j.toNat)) else none
  | _ => none
theorem zox {H : Hp} {p l : Addr} {o : HO} (h : upd H p o l = none) : H l = none∧l≠p := by
  by_cases e : l = p
  · subst e; rw [zam] at h; cases h
  · rw [zay e] at h; exact ⟨h,e⟩
theorem ziR (hc : X.calm = true) (hgl : Gl X "list") (hml : X.mg "list" = none) (hg : Gl X "range") (hm : X.mg "range" = none) (ha : SAB X g m [a] fl)
    (hs : starEach [a] X.env = (false,eval a X.env)::starEach [] X.env := by rfl)
    (hs2 : starEach [.Call (.Name "range" p2) [a] [] pos2] X.env = (false,eval (.Call (.Name "range" p2) [a] [] pos2) X.env)::starEach [] X.env := by rfl) :
    SO X g m (.Call (.Name "list" p) [.Call (.Name "range" p2) [a] [] pos2] [] pos) (fC fl ziW) := by
  refine PE.imp (zdH (zht hc) hgl hml rfl (zdh (zdH zmz hg hm boot_range ha (by decide) (by decide) hs rfl) zf3 hs2) (by decide) (by decide) hs2 rfl) fun σ H Q ⟨r,G,si,q⟩ => ⟨r,G,si,zah (zag q) fun ds q1 vs G1 H1 w1 rs => ?_⟩
  obtain ⟨d,e,q2⟩ := zav q1
  unfold ziW at e
  split at e
  · split at e
    · rename_i j hj
      cases e
      cases rs with
      | cons r1 t =>
        cases t
        refine ⟨j,by rw [r1.int w1.ok],fun p hp => ⟨p,0,j,rfl,zam,⟨by decide,by decide,hj.1,hj.2.1⟩,by simpa using hj.2.2,fun l hl => ?_⟩⟩
        obtain ⟨hl1,hl2⟩ := zox hl
        have w2 := Grow.new w1.ok hp (.rng 0 j)
        have w3 := Grow.new w2.ok hl (.lst (rngV 0 (j - 0).toNat))
        refine q2 l G1 _ (w1.trans (w2.trans w3)) (w1.back hl1) ⟨w1.ok.isN hl1,.lst zam ?_⟩
        rw [show j - 0 = j by omega]
        exact zqE 0 _
    · cases e
  · cases e
end
end DL
end
section
namespace DL
open PySem PySem.Spec PyProof.Rows L2
noncomputable def MtD (K : PySem.W.Frag) (r : V→List V→Hp→VK→Prop) (k : D→List D→Option D) : Prop := ∀ (G : GH) (H : Hp) (v : V) (d : D) (vs : List V) (ds : List D) (d' : D) (Q : VK),GOk K G H→RB K G H v d→Paired (RB K G H) vs ds→k d ds = some d' →
  (∀ v' G' H',Grow K G H G' H'→RG K G' v' d'→Q v' H')→r v vs H Q
noncomputable def tyM (T : String) : D→Bool
  | .lst _ => T == "list"
  | .tup _ => T == "tuple"
  | .dic _ => T == "dict"
  | .str _ => T == "str"
  | .int _ => T == "int"
  | _ => false
theorem zp7 {K : PySem.W.Frag} {G : GH} {H : Hp} {v : V} {d : D} {T : String} (gk : GOk K G H) (h : RB K G H v d) (t : tyM T d = true) : tyV K T v H := by
  cases d with
  | lst ds => obtain ⟨a,xs,rfl,s,r⟩ := h.lst gk; exact .inl ⟨eq_of_beq t,xs,s⟩
  | tup ds =>
    have e : T = "tuple" := eq_of_beq t
    rcases h with h | ⟨a,rfl,o⟩
    · cases h with
      | scl s => cases s
      | ref q =>
        cases gk _ _ q with
        | tup r s => exact .inr (.inl ⟨e,.inr ⟨_,r⟩⟩)
      | kc k =>
        cases k with
        | tup r s z => exact .inr (.inl ⟨e,.inl z⟩)
    · cases o.ob
  | dic ds => obtain ⟨a,xs,rfl,s,r⟩ := h.dic gk; exact .inr (.inr (.inl ⟨eq_of_beq t,.inl ⟨xs,s⟩⟩))
  | str x => rw [h.str gk]; exact eq_of_beq t
  | int x => rw [h.int gk]; exact eq_of_beq t
  | _ => cases t
noncomputable def fM (T : String) (fo : FE) (fl : Rho→Res (List D)) (k : D→List D→Option D) : FE := fun r => (fo r).bind fun d => if tyM T d = true then (fl r).bind fun ds => opt (k d ds) else .stuck
section
variable {X : Cx} {g : GE} {m mb : List Md} {e a b o : Expr} {es : List Expr} {f fa fb fo : FE} {fl : Rho → Res (List D)} {pos pos' apos cpos : Pos} {ro : Bool} {x name : Str} {T id : String} {R : V → List V → Hp → VK → Prop} {k : D → List D → Option D}
theorem s_bm (pa : PlainAttrs T) (slot : Slot T name id) (hty : typeOf (.builtin id) = pure (.type "method_descriptor")) (hmt : MtR X id R) (hk : MtD X.K R k) (ho : SB X g m o fo) (ha : SAB X g m (e::es) fl)
    (hbase : attributeBase o name X.env (eval o X.env) = eval o X.env := by rfl)
    (hfew : ((backTo cpos (starEach (e::es) X.env)).all (fun x => ! x.1) && (backToKw cpos (keywordEach [] X.env)).all (fun x => x.1.isSome) && decide ((e::es).length + ([] : List Keyword).length + (if ([] : List Keyword).isEmpty then 0 else 1) < 30)) = true := by rfl)
    (hline : (apos.endLine == cpos.line) = true := by rfl) (hst : starEach (e::es) X.env = (false,eval e X.env)::starEach es X.env := by rfl) (hplain : (backTo cpos (starEach es X.env)).any (·.1) = false := by rfl) :
    SE X g m (.Call (.Attribute o name apos) (e::es) [] cpos) (fM T fo fl k) := by
  refine PE.imp (zq5 pa slot hty hmt ho ha hbase hfew hline hst hplain) fun σ H Q ⟨r,G,si,q⟩ => ⟨r,G,si,zah (zag q) fun d q1 v G1 H1 w1 r1 => ?_⟩
  by_cases ht : tyM T d = true
  · rw [if_pos ht] at q1
    refine ⟨zp7 w1.ok r1 ht,r,G1,si.grow w1,zaB (zag q1) w1 fun ds q2 vs G2 H2 w2 rs => ?_⟩
    obtain ⟨d',e',q3⟩ := zav q2
    exact hk G2 H2 v d vs ds d' Q w2.ok (r1.mono w2) rs e' fun v' G' H' w' z => q3 v' G' H' ((w1.trans w2).trans w') z
  · rw [if_neg ht] at q1; exact q1.elim
noncomputable def zi2 (x : V) : List V→Option Nat
  | [] => none
  | y::xs => if eqV y x = true then some 0 else (zi2 x xs).map (· + 1)
noncomputable def zig (x : D) : List D→Option Nat
  | [] => none
  | y::xs => if eqs y x = true then some 0 else (zig x xs).map (· + 1)
theorem zjV (x : D) : ∀ ds : List D,zi2 (toV x) (ds.map toV) = zig x ds
  | [] => rfl
  | y::ds => by
    show (if eqV (toV y) (toV x) = true then some 0 else (zi2 (toV x) (ds.map toV)).map (· + 1)) = if eqs y x = true then some 0 else (zig x ds).map (· + 1)
    rw [zjV x ds]; rfl
theorem znG {x : V} {xs : List V} {us : List Value} {j : Nat} (h0 : Vals xs us) (f : xs.all zer = true) (h : zi2 x xs = some j) : ∃ hj : j < us.length,eqU x us[j] = true∧∀ i (hi : i < us.length),i < j→eqU x us[i] = false := by
  induction h0 generalizing j with
  | nil => cases h
  | @cons y u xs us r t ih =>
    rw [List.all_cons,Bool.and_eq_true] at f
    unfold zi2 at h
    by_cases hy : eqV y x = true
    · rw [if_pos hy] at h
      cases h
      exact ⟨Nat.zero_lt_succ _,by show eqU x u = true; rw [zil r f.1]; exact hy,fun i _ hlt => absurd hlt (Nat.not_lt_zero _)⟩
    · rw [if_neg hy] at h
      cases e : zi2 x xs with
      | none => rw [e] at h; cases h
      | some z =>
        rw [e] at h
        cases h
        obtain ⟨a,b,c⟩ := ih f.2 e
        refine ⟨Nat.succ_lt_succ a,b,fun i hi hlt => ?_⟩
        cases i with
        | zero => show eqU x u = false; rw [zil r f.1]; simpa using hy
        | succ i => exact c i (Nat.lt_of_succ_lt_succ hi) (Nat.lt_of_succ_lt_succ hlt)
noncomputable def zfq (xs : List V) : Bool := xs.all fun x => match x with | .int _ => true | _ => false
theorem zjf {xs : List V} (h : zfq xs = true) : xs.all zer = true := by
  unfold zfq at h
  rw [List.all_eq_true] at h ⊢
  intro x hx
  have := h x hx
  cases x <;> first | rfl | exact absurd this Bool.false_ne_true
theorem zia {k : Int} {t : Tok} : ∀ {xs : List V} {us : List Value},Vals xs us→zfq xs = true→∀ u∈us,MeetsSeq.EqGives u (.int k t) (eqU (.int k) u)
  | _,_,.nil,_ => fun u hu => by cases hu
  | y::xs,u::us,.cons r rt,f => fun u' hu => by
    unfold zfq at f
    rw [List.all_cons,Bool.and_eq_true] at f
    cases y with
    | int i =>
      obtain ⟨t',rfl⟩ := r
      rcases List.mem_cons.mp hu with rfl | hu
      · exact MeetsSeq.EqGives.int i k t' t
      · exact zia rt f.2 u' hu
    | _ => exact absurd f.1 Bool.false_ne_true
noncomputable def zqK : V→List V→Hp→VK→Prop := fun x vs H Q => ∃ l xs k j,x = .ref l∧vs = [.int k]∧H l = some (.lst xs)∧zfq xs = true∧zi2 (.int k) xs = some j∧Q .non (upd H l (.lst (xs.eraseIdx j)))
theorem zlI : MtR X "list.remove" zqK := by
  intro pins s σ H x vs v us Q I rx rv h
  obtain ⟨l,xs,k,j,rfl,rfl,hH,hi,e,q⟩ := h
  cases rx
  obtain ⟨u,rfl,t,rfl⟩ := zeW rv
  obtain ⟨hz,its,n,r,hl,eo⟩ := I.lstM hH
  obtain ⟨a,b,c⟩ := znG r (zjf hi) e
  have geq : ∀ y,y∈its.toArray→MeetsSeq.EqGives y (.int k t) (eqU (.int k) y) := fun y hy => zia r hi y (by simpa using hy)
  have hsz : its.toArray.size≤sizeLine := by rw [List.size_toArray]; omega
  refine call_meets PySem.F.slot_list_remove ⟨_,eo,rfl⟩ PySem.F.entry_list_remove (PySem.F.args_list_remove_2 _ _) (MeetsSeq.list_remove l its.toArray n (.int k t) (eqU (.int k)) geq j (by simpa using a) (by simpa using b) (fun i hi hlt => by simpa using c i (by simpa using hi) hlt) hsz) ⟨eo,?_⟩
  refine ⟨.non,_,I.lset (its' := its.eraseIdx j) hH eo ?_ ?_ ?_,rfl,q⟩
  · apply Array.toList_inj.mp
    simp [Array.toList_eraseIdxIfInBounds]
  · exact Vals.eraseIdx j r
  · have := List.length_eraseIdx_le xs j
    omega
noncomputable def isInt : D→Bool
  | .int _ => true
  | _ => false
theorem zrG {K : PySem.W.Frag} {G : GH} {H : Hp} {xs : List V} {ds : List D} (h : RGs K G xs ds) (gk : GOk K G H) (hf : ds.all isInt = true) : zfq xs = true∧xs = ds.map toV := by
  induction h with
  | nil => exact ⟨rfl,rfl⟩
  | @cons x d xs ds r t ih =>
    rw [List.all_cons,Bool.and_eq_true] at hf
    obtain ⟨h1,h2⟩ := ih hf.2
    cases d with
    | int i =>
      have e := r.int gk
      subst e
      refine ⟨?_,by rw [List.map_cons,← h2]; rfl⟩
      show zfq _ = true
      unfold zfq at h1 ⊢
      rw [List.all_cons,h1]; rfl
    | _ => exact absurd hf.1 Bool.false_ne_true
noncomputable def remD : D→List D→Option D
  | .lst ds,[.int k] => if ds.all isInt = true then (zig (.int k) ds).map fun j => .lst (ds.eraseIdx j) else none
  | _,_ => none
theorem zqF {K : PySem.W.Frag} : MutD K zqK remD := by
  intro G H a d vs ds d' Q gk ow rs e q
  unfold remD at e
  split at e
  · split at e
    · rename_i zs k hall
      cases ef : zig (.int k) zs with
      | none => rw [ef] at e; cases e
      | some j =>
        rw [ef] at e
        cases e
        cases ow.ob with
        | lst r s =>
          cases rs with
          | cons r1 t =>
            cases t
            obtain ⟨h1,h2⟩ := zrG s gk hall
            refine ⟨a,_,k,j,rfl,by rw [r1.int gk],r,h1,?_,q _ (.lst zam (Paired.er j s))⟩
            rw [h2]
            exact (zjV (.int k) zs).trans ef
    · cases e
  · cases e
noncomputable def zh9 (kvs more : List (Key × D)) : List (Key × D) := more.foldl (fun acc kv => putD acc kv.1 kv.2) kvs
theorem zpx {K : PySem.W.Frag} {G : GH} {more : List (Key × V)} {moreD : List (Key × D)} {ps : List (Key × V)} {kvs : List (Key × D)} (hm : RKs K G more moreD) (h : RKs K G ps kvs) : RKs K G (zfo ps more) (zh9 kvs moreD) := by
  induction hm generalizing ps kvs with
  | nil => exact h
  | @cons p q m md r t ih =>
    have e : p.1 = q.1 := r.1
    show RKs K G (zfo (putK ps p.1 p.2) _) (zh9 (putD kvs q.1 q.2) _)
    rw [e]
    exact ih (zqQ h r.2)
noncomputable def zlg : V→List V→Hp→VK→Prop := fun x vs H Q => ∃ d o kvs more,x = .ref d∧vs = [.ref o]∧d≠o∧H d = some (.dK kvs)∧Rd H o (.dK more)∧kvs.length + more.length≤sizeLine∧Q .non (upd H d (.dK (zfo kvs more)))
theorem zh8 : MtR X "dict.update" zlg := by
  intro pins s σ H x vs v us Q I rx rv h
  obtain ⟨d,o,kvs,more,rfl,rfl,hne,hd,ho,hz,q⟩ := h
  cases rx
  obtain ⟨u,rfl,ru⟩ := zeW rv
  cases ru
  obtain ⟨z1,ns1,vs1,r1,dd1⟩ := (show zaU X.prog X.w H s.heap d (.dK kvs) from I.hok d _ hd)
  obtain ⟨z2,ns2,vs2,r2,dd2⟩ := (show zaU X.prog X.w H s.heap o (.dK more) from ho.ok I.hok)
  have l1 := Paired.length r1
  have l2 := Paired.length r2
  refine call_meetsIn PySem.F.slot_dict_update dd1.typeIs PySem.F.entry_dict_update (PySem.F.args_dict_update_2 _ _) (meets_dict_update (zbb X.prog X.w) d o hne ns2) ⟨vs1,vs2,dd1,dd2,by omega,fun h' hm1 hm2 hs => ?_⟩
  have hlen : (zfo kvs more).length≤sizeLine := Nat.le_trans (zeM more kvs) hz
  refine ⟨.non,_,I.write (t' := s.toks) (x := d) (e := d) (by rw [hd]; exact trivial) (.inl rfl) (fun b u hb hu => (hs.2 b hb).trans hu) (let ⟨ob,_,_,e,_⟩ := hm1; ⟨ob,e⟩) (show zaU X.prog X.w _ h' d (.dK (zfo kvs more)) from ⟨hlen,ns1,_,KV.merge r2 r1,hm1⟩),rfl,q⟩
noncomputable def updD : D→List D→Option D
  | .dic kvs,[.dic more] => if kvs.length + more.length≤sizeLine then some (.dic (zh9 kvs more)) else none
  | _,_ => none
theorem zn1 {K : PySem.W.Frag} : MutD K zlg updD := by
  intro G H a d vs ds d' Q gk ow rs e q
  unfold updD at e
  split at e
  · split at e
    · rename_i kvs more hl
      cases e
      cases ow.ob with
      | dic r s =>
        cases rs with
        | cons r1 t =>
          cases t
          have hb : ∃ b ps,_ = V.ref b∧Rd H b (.dK ps)∧RKs K G ps more := r1.dic gk
          obtain ⟨b,ps,rfl,hb,rb⟩ := hb
          have hab : a≠b := by
            rintro rfl
            cases r1 with
            | scl s => cases s
            | ref z => rw [ow.un] at z; cases z
            | kc k => cases k
          have l1 := Paired.length s
          have l2 := Paired.length rb
          exact ⟨a,b,_,ps,rfl,rfl,hab,r,hb,by omega,q _ (.dic zam (zpx rb s))⟩
    · cases e
  · cases e
noncomputable def zsA : V→List V→Hp→VK→Prop := fun x vs H Q => ∃ d kvs,x = .ref d∧vs = []∧Rd H d (.dK kvs)∧∀ p,H p = none→Q (.ref p) (upd H p (.ext fun h => h.IsValuesView p d))
theorem zlH : MtR X "dict.values" zsA := by
  intro pins s σ H x vs v us Q I rx rv h
  obtain ⟨d,kvs,rfl,rfl,hd,q⟩ := h
  cases rx
  cases rv
  obtain ⟨z1,ns1,vs1,r1,dd1⟩ := (show zaU X.prog X.w H s.heap d (.dK kvs) from hd.ok I.hok)
  refine call_meetsIn PySem.F.slot_dict_values dd1.typeIs PySem.F.entry_dict_values (PySem.F.args_dict_values_1 _) (meets_dict_values (zbb X.prog X.w) d ns1) ⟨⟨vs1,dd1⟩,?_⟩
  refine ⟨.ref s.heap.objs.size,_,I.laid (t' := s.toks) (o := .ext fun h => h.IsValuesView s.heap.objs.size d) (fun b ob e => Heap.get?_push_of_some _ e) (Nat.le_refl _) ?_,rfl,q _ (I.hok.fresh (Nat.le_refl _))⟩
  refine ⟨⟨_,Heap.get?_push_size _ rfl,rfl,rfl⟩,⟨_,Heap.get?_push_size _ rfl⟩,fun h1 h2 hv hk => ?_⟩
  obtain ⟨ob,e,c⟩ := hv
  exact ⟨ob,hk ob e,c⟩
theorem zgD (hc : X.calm = true) : zdC X (.type "list") (fun xs H Q => ∃ p d kvs,xs = [.ref p]∧H p = some (.ext fun h => h.IsValuesView p d)∧Rd H d (.dK kvs)∧∀ l,H l = none→Q (.ref l) (upd H l (.lst (kvs.map (·.2))))) := by
  intro pins s σ H xs us Q I r h
  obtain ⟨p,d,kvs,rfl,hp,hd,q⟩ := h
  obtain ⟨u,rfl,rx⟩ := zeW r
  cases rx
  obtain ⟨hv,_,_⟩ := (show zaU X.prog X.w H s.heap p (.ext fun h => h.IsValuesView p d) from I.hok p _ hp)
  obtain ⟨z1,ns1,vs1,r1,dd1⟩ := (show zaU X.prog X.w H s.heap d (.dK kvs) from hd.ok I.hok)
  obtain ⟨ep,hat⟩ := dd1.dictAt
  have l1 := Paired.length r1
  refine PySem.W.kdl_call (PySem.W.kdl_values (knd := zbb X.prog X.w) (kvs := vs1) (ep := ep)) (I.ok.hd hc) ⟨hv,hat⟩ (by omega) fun h' tk acc c' kp hS hacc => ?_
  have hvals : Vals (kvs.map (·.2)) acc.toList := by
    refine zdc (by have h1 := hacc.1; have h2 : acc.toList.length = acc.size := Array.length_toList; rw [List.length_map]; omega) fun j v u e1 e2 => ?_
    obtain ⟨k,hk⟩ := hacc.2 j u (by rw [← Array.getElem?_toList]; exact e2)
    rw [List.getElem?_map] at e1
    cases e3 : kvs[j]? with
    | none => rw [e3] at e1; cases e1
    | some kv =>
      rw [e3] at e1
      cases e1
      obtain ⟨kv',e4,e5⟩ := Paired.get r1 hk
      rw [e3] at e4
      cases e4
      exact e5.2
  refine ⟨.ref s.heap.objs.size,_,I.laid (t' := tk) kp (Nat.le_refl _) (show zaU X.prog X.w _ h' _ (.lst (kvs.map (·.2))) from ⟨by rw [List.length_map]; exact z1,acc.toList,c',hvals,by rw [Array.toArray_toList]; exact hS⟩),rfl,q _ (I.hok.fresh (Nat.le_refl _))⟩
noncomputable def zoD : D→Option D
  | .dic kvs => some (.lst (kvs.map (·.2)))
  | _ => none
theorem zn0 {K : PySem.W.Frag} {G : GH} : ∀ {ps : List (Key × V)} {kvs : List (Key × D)},RKs K G ps kvs→RGs K G (ps.map (·.2)) (kvs.map (·.2))
  | _,_,.nil => .nil
  | _,_,.cons r t => .cons r.2 (zn0 t)
theorem zrk (hc : X.calm = true) (hg : Gl X "list") (hm : X.mg "list" = none) (ho : SB X g m o fo) (hbase : attributeBase o "values" X.env (eval o X.env) = eval o X.env := by rfl) (hline : (apos.endLine == cpos.line) = true := by rfl)
    (hs2 : starEach [.Call (.Attribute o "values" apos) [] [] cpos] X.env = (false,eval (.Call (.Attribute o "values" apos) [] [] cpos) X.env)::starEach [] X.env := by rfl) :
    SO X g m (.Call (.Name "list" pos') [.Call (.Attribute o "values" apos) [] [] cpos] [] pos) (f1 fo zoD) := by
  refine PE.imp (zdH (zgD hc) hg hm rfl (zdh (zq4 PySem.F.plainAttrs_dict PySem.F.slot_dict_values PySem.F.type_dict_values zlH ho hbase hline) zf3 hs2) (by decide) (by decide) hs2 rfl) fun σ H Q ⟨r,G,si,q⟩ => ⟨r,G,si,zah (zag q) fun d q1 v G1 H1 w1 r1 => ?_⟩
  obtain ⟨d',e,q2⟩ := zav q1
  cases d with
  | dic kvs =>
    cases e
    obtain ⟨a,ps,rfl,hs,rs⟩ := r1.dic w1.ok
    refine ⟨.inr (.inr (.inl ⟨rfl,.inl ⟨ps,hs⟩⟩)),a,ps,rfl,rfl,hs,fun p hp => ⟨p,a,ps,rfl,zam,?_,fun l hl => ?_⟩⟩
    · exact Rd.mono hs fun a o e => zkT hp _ _ e
    · obtain ⟨hl1,hl2⟩ := zox hl
      have w2 := Grow.new w1.ok hp (.ext fun h => h.IsValuesView p a)
      have w3 := Grow.new w2.ok hl (.lst (ps.map (·.2)))
      exact q2 l G1 _ (w1.trans (w2.trans w3)) (w1.back hl1) ⟨w1.ok.isN hl1,.lst zam (zn0 rs)⟩
  | _ => cases e
end
end DL
end
section
namespace DL
open PySem PySem.Spec PyProof.Rows L2
noncomputable def enuD : Nat→List D→List D
  | _,[] => []
  | i,d::ds => .tup [.int i,d]::enuD (i + 1) ds
theorem zeO : ∀ (i : Nat) (ds : List D),(enuD i ds).length = ds.length
  | _,[] => rfl
  | i,d::ds => congrArg (· + 1) (zeO (i + 1) ds)
theorem zhr : ∀ (i j : Nat) (ds : List D),(enuD i ds)[j]? = (ds[j]?).map fun d => D.tup [.int ((i + j : Nat) : Int),d]
  | _,_,[] => by simp [enuD]
  | i,0,d::ds => by simp [enuD]
  | i,j + 1,d::ds => by
    show (enuD (i + 1) ds)[j]? = _
    rw [zhr (i + 1) j ds]
    simp only [List.getElem?_cons_succ]
    rw [show i + 1 + j = i + (j + 1) by omega]
theorem zkR {K : PySem.W.Frag} {ds : List D} {G0 : GH} {sq : Hp→List V→Prop} (h : ∀ G H,Gle G0 G→GOk K G H→∃ xs,sq H xs∧RGs K G xs ds) : Yields K (Ien sq) (enuD 0 ds) G0 := by
  refine ⟨fun G H i w gk hi => ?_,fun G H i x H' d w gk y e => ?_,fun G H w gk => ?_⟩
  · obtain ⟨xs,s,r⟩ := h G H w gk
    rw [zeO] at hi
    have hl := Paired.length r
    exact ⟨xs,xs[i],s,List.getElem?_eq_getElem (by omega)⟩
  · obtain ⟨xs,s,r⟩ := h G H w gk
    obtain ⟨p,v,hp,rfl,rfl,hv⟩ := y
    rw [zhr] at e
    cases ed : ds[i]? with
    | none => rw [ed] at e; cases e
    | some d0 =>
      rw [ed] at e
      simp only [Option.map_some,Option.some.injEq,Nat.zero_add] at e
      subst e
      obtain ⟨v',e1,rv⟩ := Paired.get r ed
      have := hv xs s
      rw [e1] at this; cases this
      exact ⟨_,Grow.newF gk hp (.tup (.inl zam) (.cons (.scl (.int _)) (.cons rv .nil))),.ref zaR⟩
  · obtain ⟨xs,s,r⟩ := h G H w gk
    rw [zeO]
    exact ⟨xs,s,Paired.length r⟩
noncomputable def fEnu (f : FE) : FI := fun r => (f r).bind fun d => (opt (zbn d)).bind fun ds => .ok (enuD 0 ds)
section
variable {X : Cx} {g : GE} {m : List Md} {e a : Expr} {f : FE} {pos p pos2 : Pos} {elts : List Expr} {kk : Nat}
theorem zlt {te : TE} (hg : Gl X "enumerate") (hm : X.mg "enumerate" = none) (he : PE X e te) (hs : starEach [e] X.env = (false,eval e X.env)::starEach [] X.env := by rfl) : PI X (.Tuple elts kk pos2) (.Call (.Name "enumerate" p) [e] [] pos) (fun σ H R => te σ H fun x H1 =>
      (∃ a,x = .ref a∧(∃ xs,SqL X.K H1 a xs)∧R (Ien fun H xs => SqL X.K H a xs) H1)∨∃ a,x = .ref a∧(∃ xs,SqT X.K H1 a xs)∧R (Ien fun H xs => SqT X.K H a xs) H1) := by
  intro pins s σ H R I h
  refine Call_ (zib I hg hm boot_enumerate (PyProof.Rows.callWith_type1 (thn (zdh he zf3 hs pos pins s σ H (fun vs H1 => match vs with
    | [x] => (∃ a,x = .ref a∧(∃ xs,SqL X.K H1 a xs)∧R (Ien fun H xs => SqL X.K H a xs) H1)∨∃ a,x = .ref a∧(∃ xs,SqT X.K H1 a xs)∧R (Ien fun H xs => SqT X.K H a xs) H1
    | _ => False) I h) fun us s1 ⟨vs,H1,I1,r1,q1⟩ => ?_) hs rfl))
  · cases r1 with
    | nil => exact q1.elim
    | @cons x u xs us rx rt =>
    cases rt with
    | cons _ _ => exact q1.elim
    | nil =>
    have fin : ∀ {h' : Heap},h'.objs.size = s1.heap.objs.size + 2→(∀ b o,s1.heap.get? b = some o→h'.get? b = some o)→∀ b∈[s1.heap.objs.size + 1,s1.heap.objs.size],FpOk X pins H1 b := fun hz kp b hb => by
      have hge : s1.heap.objs.size≤b := by
        rcases List.mem_cons.mp hb with rfl | hb
        · exact Nat.le_succ _
        · rw [List.mem_singleton.mp hb]; exact Nat.le_refl _
      exact I1.fpOk hge (I1.hok.fresh hge)
    rcases q1 with ⟨a,rfl,⟨xs,hq⟩,q⟩ | ⟨a,rfl,⟨xs,hq⟩,q⟩
    · cases rx
      obtain ⟨its,rv,pl,hz⟩ := I1.list hq
      refine call_enumerate_list pl.isList fun h' he hi hsz kp => wpAny_pyIter_enum he ?_
      exact ⟨_,[s1.heap.objs.size + 1,s1.heap.objs.size],_,_,H1,rfl,I1.kept (t' := s1.toks) kp,zka a _ _ (Nat.ne_of_gt (Nat.lt_succ_self _)),⟨⟨_,he⟩,hi⟩,fin hsz kp,q⟩
    · cases rx
      obtain ⟨its,rv,pl,hz⟩ := I1.tuple hq
      refine zgl (show s1.heap.IsTuple a its.toArray from pl) fun h' he hi hsz kp => wpAny_pyIter_enum he ?_
      exact ⟨_,[s1.heap.objs.size + 1,s1.heap.objs.size],_,_,H1,rfl,I1.kept (t' := s1.toks) kp,zj9 a _ _ (Nat.ne_of_gt (Nat.lt_succ_self _)),⟨⟨_,he⟩,hi⟩,fin hsz kp,q⟩
theorem zrJ (hg : Gl X "enumerate") (hm : X.mg "enumerate" = none) (he : SE X g m e f) (hs : starEach [e] X.env = (false,eval e X.env)::starEach [] X.env := by rfl) : SIt X g m (.Tuple elts kk pos2) (.Call (.Name "enumerate" p) [e] [] pos) (fEnu f) := by
  refine PI.imp (zlt hg hm he hs) fun σ H R ⟨r,G,si,q⟩ => ⟨r,G,si,zah (zag q) fun d q v G' H' w rv => ?_⟩
  obtain ⟨ds,e,q⟩ := zav (zag q)
  cases d with
  | lst ds' =>
    cases e
    obtain ⟨a,xs,rfl,s,rs⟩ := rv.lst w.ok
    refine .inl ⟨a,rfl,⟨xs,s⟩,q _ G' H' w (zkR fun G H le gk => ?_)⟩
    obtain ⟨b,ys,e,s',r'⟩ := (rv.mono le).lst gk
    cases e
    exact ⟨ys,s',r'⟩
  | tup ds' =>
    cases e
    obtain ⟨a,xs,rfl,s,rs⟩ := rv.tup w.ok
    refine .inr ⟨a,rfl,⟨xs,s⟩,q _ G' H' w (zkR fun G H le gk => ?_)⟩
    obtain ⟨b,ys,e,s',r'⟩ := (rv.mono le).tup gk
    cases e
    exact ⟨ys,s',r'⟩
  | _ => cases e
end
end DL
end
section
namespace DL
open PySem PySem.Spec PyProof.Rows L2
theorem zlP : ∀ a b : List Int,HT.lexLt a b = lexI a b
  | [],[] => rfl
  | [],_::_ => rfl
  | _::_,[] => rfl
  | x::xs,y::ys => by rw [HT.lexLt_cons,lexI,zlP xs ys]
inductive TupI (h : Heap) : Value→List Int→Prop where
  | mk {a : Addr} {items : Array Value} {ns : List Int} : IsTup h a items→IntsAre items.toList ns→TupI h (.ref a) ns
theorem zje : ∀ (xs ys : List Int),((List.range (min xs.length ys.length)).all (fun j => decide (xs.getD j 0 = ys.getD j 0)) && xs.length == ys.length) = decide (xs = ys) := by
  intro xs ys
  rw [Bool.eq_iff_iff,Bool.and_eq_true,List.all_eq_true,beq_iff_eq,decide_eq_true_iff]
  constructor
  · rintro ⟨h1,h2⟩
    refine List.ext_getElem h2 fun i a b => ?_
    have := h1 i (List.mem_range.mpr (by omega))
    simp only [decide_eq_true_eq] at this
    simpa [List.getD_eq_getElem?_getD,a,b] using this
  · rintro rfl
    exact ⟨fun i _ => by simp,rfl⟩
theorem zoH {A : Around} {s : Shared} {p q : Value} {k l : List Int} (hp : TupI s.heap p k) (hq : TupI s.heap q l) (hu : A.units < cLine) : SeqAt.EqAt A s p q (decide (k = l)) := by
  cases hp with
  | @mk a ia _ ha ia' =>
    cases hq with
    | @mk b ib _ hb ib' =>
      by_cases e : a = b
      · subst e
        obtain ⟨o,h1,h2,n,h3⟩ := ha
        obtain ⟨o',h1',h2',n',h3'⟩ := hb
        rw [h1] at h1'; cases h1'
        rw [h3] at h3'; cases h3'
        have : k = l := by
          have z1 := ia'
          have z2 := ib'
          exact (IntsAre.nums z1).symm.trans (IntsAre.nums z2)
        subst this
        rw [decide_eq_true rfl]
        exact SeqAt.EqAt.same _
      · have l1 := ia'.length
        have l2 := ib'.length
        rw [Array.length_toList] at l1 l2
        have key := SeqAt.RcAt.tuples (A := A) (s := s) (e := fun j => decide (k.getD j 0 = l.getD j 0)) (show s.heap.IsTuple a ia from ha) (show s.heap.IsTuple b ib from hb) hu (fun j h1 h2 => by
          obtain ⟨t,e1⟩ := IntsAre.int_at ia' j ia[j] (by rw [Array.getElem?_toList]; simp [h1])
          obtain ⟨t',e2⟩ := IntsAre.int_at ib' j ib[j] (by rw [Array.getElem?_toList]; simp [h2])
          rw [e1,e2]
          have := SeqAt.EqAt.int_int (A := A.in1) (s := s) (k.getD j 0) t (l.getD j 0) t'
          have e : (k.getD j 0 == l.getD j 0) = decide (k.getD j 0 = l.getD j 0) := by rw [Bool.eq_iff_iff]; simp
          rw [e] at this
          exact this)
        rw [l1,l2,zje] at key
        exact SeqAt.EqAt.of_refs e key
inductive TupsI (h : Heap) : List Value→List (List Int)→Prop where
  | nil : TupsI h [] []
  | cons {p : Value} {k : List Int} {ps : List Value} {ks : List (List Int)} : TupI h p k→TupsI h ps ks→TupsI h (p::ps) (k::ks)
theorem TupsI.length {h : Heap} : ∀ {ps : List Value} {ks : List (List Int)},TupsI h ps ks→ps.length = ks.length
  | _,_,.nil => rfl
  | _,_,.cons _ t => congrArg (· + 1) t.length
section
variable {prog : Program} {w : World} {A : Around} {s : Shared}
theorem zrt {fin : Bool} {Q : Bool→Shared→Prop} (hu : A.units < cLine) {ps qs : List Value} {ks ls : List (List Int)} {i : Nat} (h1 : TupsI s.heap ps ks) (h2 : TupsI s.heap qs ls) (h : Q (lexZ fin ks ls) s) : PySem.W.KatLex prog w A false fin Q (ps.zip qs) i s := by
  induction h1 generalizing qs ls i with
  | nil => cases h2 <;> exact PySem.W.kat_nil h
  | @cons p k ps ks hp tp ih =>
    cases h2 with
    | nil => exact PySem.W.kat_nil h
    | @cons q l qs ls hq tq =>
      refine PySem.W.kat_cons (zoH hp hq hu prog w _ _ ?_)
      by_cases e : k = l
      · rw [decide_eq_true e]
        have h' : Q (lexZ fin ks ls) s := by unfold lexZ at h; rw [if_pos e] at h; exact h
        exact PySem.W.kat_yes (ih tq h')
      · rw [decide_eq_false e]
        have h' : Q (lexI k l) s := by unfold lexZ at h; rw [if_neg e] at h; exact h
        refine PySem.W.kat_no ?_
        rw [Bool.false_and]
        refine PySem.W.kat_one _ _ ?_
        cases hp with
        | mk ha ia => cases hq with
          | mk hb ib =>
            refine HT.lt_tupInts ha hb ia ib hu ?_
            rw [zlP]
            exact h'
inductive TupR (h : Heap) : Value→List (List Int)→Prop where
  | mk {a : Addr} {items : List Value} {ks : List (List Int)} : IsTup h a items.toArray→TupsI h items ks→ks≠[]→TupR h (.ref a) ks
theorem zoY {p q : Value} {ks ls : List (List Int)} {Q : Bool→Shared→Prop} {E : Value→Shared→Prop} (hp : TupR s.heap p ks) (hq : TupR s.heap q ls) (hu : A.units < cLine) (h : Q (lexR ks ls) s) : wpAny (model prog w) A (keyLt' (tuples' false) p q) Q E s := by
  cases hp with
  | @mk _ items _ ha ta hna => cases hq with
    | @mk _ items_1 _ hb tb hnb =>
      obtain ⟨o,h1,h2,n,h3⟩ := ha
      obtain ⟨o',h1',h2',n',h3'⟩ := hb
      refine PySem.W.kat_lt h1 h3 h1' h3' ?_
      have e : decide (items.toArray.size < items_1.toArray.size) = decide (ks.length < ls.length) := by rw [List.size_toArray,List.size_toArray,ta.length,tb.length]
      rw [e]
      exact zrt hu (by simpa using ta) (by simpa using tb) h
end
end DL
end
section
namespace DL
open PySem PySem.Spec PyProof.Rows L2
noncomputable def ziw : List D→Option (List Int)
  | [] => some []
  | .int i::ds => (ziw ds).map (i::·)
  | _ => none
theorem znU {K : PySem.W.Frag} {G : GH} {H : Hp} (gk : GOk K G H) {ds : List D} {xs : List V} {ns : List Int} (h : RGs K G xs ds) (e : ziw ds = some ns) : xs = ns.map V.int := by
  induction h generalizing ns with
  | nil => cases e; rfl
  | @cons x d xs ds r t ih =>
    cases d with
    | int i =>
      have e' : (ziw ds).map (i::·) = some ns := e
      cases q : ziw ds with
      | none => rw [q] at e'; cases e'
      | some ms =>
        rw [q] at e'
        cases e'
        rw [r.int gk,ih q]; rfl
    | _ => cases e
section
variable {X : Cx} {g : GE} {m : List Md} {e a : Expr} {f : FE} {pos p pos2 p2 : Pos}
end
end DL
end
section
namespace DL
open PySem PySem.Spec PyProof.Rows L2
noncomputable def TI2 (K : PySem.W.Frag) (H : Hp) (x : V) (k : List Int) : Prop := ∃ b,x = .ref b∧SqT K H b (k.map V.int)
noncomputable def TR2 (K : PySem.W.Frag) (H : Hp) (x : V) (ks : List (List Int)) : Prop := ∃ b xs,x = .ref b∧SqT K H b xs∧Paired (TI2 K H) xs ks∧ks≠[]
noncomputable def zhE {α : Type} (d : α) (ys : List α) (kss : List (List (List Int))) : List α := (zgw ys.length fun i j => lexR (kss.getD i []) (kss.getD j [])).map fun i => ys.getD i d
theorem zaU.isS {P : Program} {w : World} {H : Hp} {h : Heap} {a : Addr} {o : HO} (x : zaU P w H h a o) : h.get? a≠none := by
  have s : ∀ {u : Obj},h.get? a = some u→h.get? a≠none := fun e z => by rw [z] at e; cases e
  cases o with
  | lst xs => obtain ⟨_,_,_,_,e⟩ := x; exact s e
  | tup xs => obtain ⟨_,_,_,⟨_,e,_⟩,_⟩ := x; exact s e
  | dK kvs => obtain ⟨_,_,_,_,o,_,_,e,_⟩ := x; exact s e
  | dT kvs => obtain ⟨_,_,_,_,o,_,_,e,_⟩ := x; exact s e
  | set S n => obtain ⟨o,_,_,_,e,_⟩ := x; exact s e
  | ins C dx fs => obtain ⟨_,_,_,e,_⟩ := x; exact s e
  | own y => obtain ⟨_,e⟩ := x; exact s e
  | xd fs => obtain ⟨_,⟨_,_,_,e,_⟩,_⟩ := x; exact s e
  | rng lo hi => obtain ⟨_,_,_,e⟩ := x; exact s e
  | frz ob u => obtain ⟨e,_⟩ := x; exact s e
  | tbl ps => exact s (show h.get? a = some _ from x)
  | met f y => exact s (show h.get? a = some _ from x)
  | ext φ => obtain ⟨_,⟨_,e⟩,_⟩ := x; exact s e
section
variable {X : Cx} {pins : List (Addr × Obj)} {σ : L2.St} {H : Hp} {s : Shared}
theorem TupI.stay {h h' : Heap} {L : Addr} {mm : Str→Option Value} (hL : h.Ns L mm) (k : ∀ b o,b≠L→h.get? b = some o→h'.get? b = some o) {p : Value} {ns : List Int} (x : TupI h p ns) : TupI h' p ns := by
  cases x with
  | mk ht hi =>
    obtain ⟨o,h1,h2,n,h3⟩ := ht
    refine .mk ⟨o,k _ _ ?_ h1,h2,n,h3⟩ hi
    rintro rfl
    obtain ⟨o',es,ep,e,d,_⟩ := hL
    rw [h1] at e; cases e
    rw [h3] at d; cases d
theorem TupsI.stay {h h' : Heap} {L : Addr} {mm : Str→Option Value} (hL : h.Ns L mm) (k : ∀ b o,b≠L→h.get? b = some o→h'.get? b = some o) : ∀ {ps : List Value} {ks : List (List Int)},TupsI h ps ks→TupsI h' ps ks
  | _,_,.nil => .nil
  | _,_,.cons x t => .cons (x.stay hL k) (t.stay hL k)
theorem TupR.stay {h h' : Heap} {L : Addr} {mm : Str→Option Value} (hL : h.Ns L mm) (k : ∀ b o,b≠L→h.get? b = some o→h'.get? b = some o) {p : Value} {ks : List (List Int)} (x : TupR h p ks) : TupR h' p ks := by
  cases x with
  | mk ht hi hn =>
    obtain ⟨o,h1,h2,n,h3⟩ := ht
    refine .mk ⟨o,k _ _ ?_ h1,h2,n,h3⟩ (hi.stay hL k) hn
    rintro rfl
    obtain ⟨o',es,ep,e,d,_⟩ := hL
    rw [h1] at e; cases e
    rw [h3] at d; cases d
theorem zoG (I : Inv X pins σ H s) {x : V} {k : List Int} {u : Value} (h : TI2 X.K H x k) (r : L2.RelV x u) : TupI s.heap u k := by
  obtain ⟨b,rfl,hq⟩ := h
  cases r
  obtain ⟨its,rv,pl,_⟩ := I.tuple hq
  exact .mk pl (by simpa using zkA rv)
theorem zmT (I : Inv X pins σ H s) {xs : List V} {ks : List (List Int)} {us : List Value} (h : Paired (TI2 X.K H) xs ks) (v : Vals xs us) : TupsI s.heap us ks := by
  induction h generalizing us with
  | nil => cases v; exact .nil
  | cons h _ ih =>
    cases v with
    | cons r q => exact .cons (zoG I h r) (ih q)
theorem zoF (I : Inv X pins σ H s) {x : V} {ks : List (List Int)} {u : Value} (h : TR2 X.K H x ks) (r : L2.RelV x u) : TupR s.heap u ks := by
  obtain ⟨b,xs,rfl,hq,hp,hn⟩ := h
  cases r
  obtain ⟨its,rv,pl,_⟩ := I.tuple hq
  exact .mk pl (zmT I hp rv) hn
theorem zhx {ys : List V} {us : List Value} (r : Vals ys us) : ∀ (ix : List Nat),(∀ i∈ix,i < ys.length)→Vals (ix.map fun i => ys.getD i .non) (ix.map fun i => us.getD i Value.none)
  | [],_ => .nil
  | i::ix,h => by
    refine .cons ?_ (zhx r ix fun j hj => h j (List.mem_cons_of_mem _ hj))
    have hi := h i List.mem_cons_self
    obtain ⟨u,h1,h2⟩ := r.get (i := i) (x := ys[i]) (List.getElem?_eq_getElem hi)
    have e1 : ys.getD i .non = ys[i] := by simp [List.getD_eq_getElem?_getD,hi]
    have e2 : us.getD i Value.none = u := by rw [List.getD_eq_getElem?_getD,h1]; rfl
    show L2.RelV (ys.getD i .non) (us.getD i Value.none)
    rw [e1,e2]; exact h2
theorem Inv.laidN {D : Addr} {ys : List V} {its : List Value} {c : Nat} {h' : Heap} (I : Inv X pins σ H s) (hD : s.heap.get? D = none) (hDL : D≠X.env.locals) (k : ∀ b o,b≠X.env.locals→s.heap.get? b = some o→h'.get? b = some o)
    (hns : ∀ m,s.heap.Ns X.env.locals m→h'.Ns X.env.locals m) (ho : h'.get? D = some { cls := .type "list",data := .seq its.toArray c }) (rv : Vals ys its) (hz : ys.length≤sizeLine) (t' : Nat) :
    Inv X pins σ (upd H D (.lst ys)) { s with heap := h',toks := t' } := by
  have hHD : H D = none := by
    cases q : H D with
    | none => rfl
    | some u =>
      exact absurd hD (zaU.isS (I.hok D u q))
  have neD : ∀ b o,s.heap.get? b = some o→b≠D := fun b o e z => by rw [z,hD] at e; cases e
  have keepU : ∀ b u,H b = some u→upd H D (.lst ys) b = some u := fun b u e => by rw [zay (zbB e hHD)]; exact e
  have trkL : ∀ b u,H b = some u→b≠X.env.locals := fun b u e z => by rw [z,I.free] at e; cases e
  refine I.step (g' := s.gens) (d' := s.drawn) (ch := []) (fun b hb => absurd hb (by simp)) (fun b ob hL _ _ e _ => k b ob hL e) (fun b ob hL _ _ e _ => ⟨ob.slots,k b ob hL e⟩) (fun b ob _ e n => by rw [zay (neD b ob e)]; exact n)
    (fun b ob _ e => ?_) (fun b xs e => keepU b _ e) (fun b ob u e => keepU b _ e) (fun b ps e => ⟨#[],by rw [keepU b _ e]; simp⟩) hns (fun b u e => ?_) I.bare
  · by_cases hb : b = X.env.locals
    · subst hb
      obtain ⟨m,hn,_⟩ := I.loc
      obtain ⟨o,_,_,ho',_⟩ := hns m hn
      exact ⟨o,ho'⟩
    · exact ⟨ob,k b ob hb e⟩
  · by_cases hb : b = D
    · subst hb
      rw [zam] at e
      cases e
      exact ⟨hz,its,c,rv,ho⟩
    · rw [zay hb] at e
      refine (I.hok b u e).stay (fun cc v hc q => k cc v ?_ q) (fun cc q => keepU cc _ q) fun cc xs q => keepU cc _ q
      rcases hc with z | z
      · rw [z]; exact trkL b u e
      · exact trkL cc _ z
theorem zpv {h : Heap} {L : Addr} {m m' : Str→Option Value} (a : h.Ns L m) (b : h.Ns L m') : m = m' := by
  obtain ⟨o,es,ep,e,d,_,f⟩ := a
  obtain ⟨o',es',ep',e',d',_,f'⟩ := b
  rw [e] at e'; cases e'
  rw [d] at d'; cases d'
  funext x
  rw [← f,← f']
theorem zjP {h : Heap} : ∀ {us : List Value} {kss : List (List (List Int))},Paired (fun u ks => TupR h u ks) us kss→∃ fs,PySem.W.KatTups h us fs∧fs.length = us.length∧∀ f∈fs,∃ b o,f = Value.ref b∧h.get? b = some o∧o.cls = .type "tuple"
  | _,_,.nil => ⟨[],PySem.W.KatTups.nil,rfl,fun f hf => nomatch hf⟩
  | _,_,.cons x t => by
    obtain ⟨fs,h1,h2,h3⟩ := zjP t
    cases x with
    | @mk a items ks ht hi hn =>
      cases hi with
      | nil => exact absurd rfl hn
      | @cons p k ps ks hp _ =>
        obtain ⟨o,e1,e2,n,e3⟩ := ht
        refine ⟨p::fs,PySem.W.KatTups.cons e1 e2 e3 (by simp) h1,by simp [h2],fun f hf => ?_⟩
        rcases List.mem_cons.mp hf with rfl | hf
        · cases hp with
          | mk hb _ => obtain ⟨ob,q1,q2,_⟩ := hb; exact ⟨_,ob,rfl,q1,q2⟩
        · exact h3 f hf
theorem zmU (I : Inv X pins σ H s) {ys : List V} {kss : List (List (List Int))} {us : List Value} (h : Paired (TR2 X.K H) ys kss) (v : Vals ys us) : Paired (fun u ks => TupR s.heap u ks) us kss := by
  induction h generalizing us with
  | nil => cases v; exact .nil
  | cons h _ ih =>
    cases v with
    | cons r q => exact .cons (zoF I h r) (ih q)
theorem zfV {n : Nat} {c : Nat→Nat→Bool} {i : Nat} (h : i∈zgw n c) : i < n := List.mem_range.mp ((zeX n c).mem_iff.mp h)
theorem zjb {k : Nat} (hr : Room k X.A) : zdC X (.builtin "sorted") (fun xs H Q => ∃ p ys kss,xs = [.ref p]∧SqL X.K H p ys∧Paired (TR2 X.K H) ys kss∧ys.length < 64∧∀ l,H l = none→Q (.ref l) (upd H l (.lst (zhE .non ys kss)))) := by
  intro pins s σ H xs us Q I r h
  obtain ⟨p,ys,kss,rfl,hq,hk,h64,q⟩ := h
  obtain ⟨u,rfl,rx⟩ := zeW r
  cases rx
  obtain ⟨its,rv,pl,hz⟩ := I.list hq
  have hl := rv.length
  have hkl := Paired.length hk
  by_cases h2 : its.length < 2
  · refine zhD pl.isList h2 fun h' c D kp hD ho => ?_
    have hs : s.heap.get? D = none := Heap.get?_none_of_le hD
    refine ⟨.ref D,_,Inv.laidN I hs (Nat.ne_of_gt (Nat.lt_of_lt_of_le I.lt hD)) (fun b o _ e => kp b o e) (fun m ⟨o,es,ep,e,z⟩ => ⟨o,es,ep,kp _ _ e,z⟩) ho rv (by omega) s.toks,rfl,?_⟩
    have e : zhE V.non ys kss = ys := by
      unfold zhE zgw
      rw [if_pos (by omega)]
      refine List.ext_getElem (by simp) fun i a b => ?_
      simp [List.getD_eq_getElem?_getD,b]
    have := q D (I.hok.fresh hD)
    rw [e] at this
    exact this
  · obtain ⟨mF,F⟩ := I.fr
    have trs := zmU I hk rv
    refine PySem.W.kat_sorted F (znt (g := X.base) (h := s.heap) (L := X.env.locals)) pl.isList (by omega) (by omega) fun D e1 h' F' N' hlt => ?_
    have hDs : s.heap.get? D = none := by
      cases z : s.heap.get? D with
      | none => rfl
      | some o =>
        have zn := (N' _ (List.mem_cons_self)).2
        exact absurd (hlt (D,o) (zf9 zn.1 zn.2 z)) (Nat.lt_irrefl _)
    have keepN : ∀ {h2 : Heap} {oD : Obj},Fr X.base X.env.locals h2 mF→News X.base X.env.locals h2 ((D,oD)::zgp X.base s.heap X.env.locals)→∀ b o,b≠X.env.locals→s.heap.get? b = some o→h2.get? b = some o := fun {h2 oD} F2 N2 b o hb e => by
      cases z : X.base.get? b with
      | some o' =>
        have := I.bk b o' z
        rw [e] at this; cases this
        exact F2.keep b o z
      | none => exact (N2 (b,o) (List.mem_cons_of_mem _ (zf9 hb z e))).1
    have k1 := keepN F' N'
    have trs' : Paired (fun u ks => TupR h' u ks) its kss := Paired.mono (fun _ _ x => x.stay F.ns k1) trs
    obtain ⟨fs,t1,t2,t3⟩ := zjP trs'
    refine PySem.W.kat_kind (T := .type "tuple") t1 (by omega) (fun v hv => ?_) (by decide) ?_
    · obtain ⟨b,o,rfl,e1,e2⟩ := t3 v hv
      rw [← e2]
      exact (PySem.W.Looks.ld e1).andThen .now
    have hn : 0 < its.length := by omega
    refine zlV (n := its.length) (c := fun i j => lexR (kss.getD i []) (kss.getD j [])) (fun i j C hi hj hC => ?_) (ziv hn) ?_
    · have gi : ∀ i,i < its.length→TupR h' (its.getD i Value.none) (kss.getD i []) := fun i hi => by
        have hki : i < kss.length := by omega
        obtain ⟨a,ha,hx⟩ := Paired.get trs' (List.getElem?_eq_getElem hki)
        rw [List.getD_eq_getElem?_getD,ha,List.getD_eq_getElem?_getD,List.getElem?_eq_getElem hki]
        exact hx
      exact zoY (gi i hi) (gi j hj) (by have := hr.un; show X.A.units + 1 + 1 < cLine; omega) hC
    · refine PySem.W.KasFin.intro F' N' (.head fun q hq z => ?_) fun h3 c F3 N3 => ?_
      · have := hlt q hq
        rw [z] at this
        exact Nat.lt_irrefl _ this
      · have oD := (N3 _ List.mem_cons_self)
        have hix : ∀ i∈zgw ys.length (fun i j => lexR (kss.getD i []) (kss.getD j [])),i < ys.length := fun i hi => zfV hi
        have e0 : (zid (fun i j => lexR (kss.getD i []) (kss.getD j [])) (PySem.W.kas_sort its.length)).toList = zgw ys.length (fun i j => lexR (kss.getD i []) (kss.getD j [])) := by
          unfold zgw
          rw [if_neg (by omega),hl]
        rw [e0] at oD
        refine ⟨.ref D,_,Inv.laidN (t' := _) (its := (zgw ys.length fun i j => lexR (kss.getD i []) (kss.getD j [])).map fun i => its.getD i Value.none) I hDs oD.2.1 (keepN F3 N3) (fun m hm => by rw [zpv hm F.ns]; exact F3.ns) oD.1 (zhx rv _ hix) ?_,rfl,q D ?_⟩
        · have := (zeX ys.length fun i j => lexR (kss.getD i []) (kss.getD j [])).length_eq
          rw [List.length_map,this,List.length_range]; omega
        · cases z : H D with
          | none => rfl
          | some u => exact absurd hDs (zaU.isS (I.hok D u z))
end
end DL
end
section
namespace DL
open PySem PySem.Spec PyProof.Rows L2
noncomputable def zfp : D→Option (List Int)
  | .tup ds => ziw ds
  | _ => none
noncomputable def zgv : List D→Option (List (List Int))
  | [] => some []
  | d::ds => (zfp d).bind fun k => (zgv ds).map (k::·)
noncomputable def zm6 : D→Option (List (List Int))
  | .tup (d::ds) => zgv (d::ds)
  | _ => none
noncomputable def zfj : List D→Option (List (List (List Int)))
  | [] => some []
  | d::ds => (zm6 d).bind fun k => (zfj ds).map (k::·)
noncomputable def zmV : List D→Option D
  | [.lst ds] => (zfj ds).bind fun kss => if ds.length < 64 then some (.lst (zhE .non ds kss)) else none
  | _ => none
section
variable {K : PySem.W.Frag} {G : GH} {H : Hp}
theorem zqc (gk : GOk K G H) {v : V} {d : D} {k : List Int} (r : RG K G v d) (e : zfp d = some k) : TI2 K H v k := by
  cases d with
  | tup ds =>
    obtain ⟨a,xs,rfl,s,rs⟩ := r.tup gk
    have := znU gk rs e
    subst this
    exact ⟨a,rfl,s⟩
  | _ => cases e
theorem zoK (gk : GOk K G H) {ds : List D} {xs : List V} {ks : List (List Int)} (h : RGs K G xs ds) (e : zgv ds = some ks) : Paired (TI2 K H) xs ks := by
  induction h generalizing ks with
  | nil => cases e; exact .nil
  | @cons x d xs ds r t ih =>
    have e' : (zfp d).bind (fun k => (zgv ds).map (k::·)) = some ks := e
    cases e1 : zfp d with
    | none => rw [e1] at e'; cases e'
    | some k =>
      rw [e1] at e'
      cases e2 : zgv ds with
      | none => rw [e2] at e'; cases e'
      | some ks' => rw [e2] at e'; cases e'; exact .cons (zqc gk r e1) (ih e2)
theorem zmS {d : D} {ds : List D} {ks : List (List Int)} (e : zgv (d::ds) = some ks) : ks≠[] := by
  have e' : (zfp d).bind (fun k => (zgv ds).map (k::·)) = some ks := e
  cases e1 : zfp d with
  | none => rw [e1] at e'; cases e'
  | some k =>
    rw [e1] at e'
    cases e2 : zgv ds with
    | none => rw [e2] at e'; cases e'
    | some ks' => rw [e2] at e'; cases e'; simp
theorem zqb (gk : GOk K G H) {v : V} {d : D} {ks : List (List Int)} (r : RG K G v d) (e : zm6 d = some ks) : TR2 K H v ks := by
  cases d with
  | tup ds =>
    cases ds with
    | nil => cases e
    | cons d ds =>
      obtain ⟨a,xs,rfl,s,rs⟩ := r.tup gk
      exact ⟨a,xs,rfl,s,zoK gk rs e,zmS e⟩
  | _ => cases e
theorem zoJ (gk : GOk K G H) {ds : List D} {xs : List V} {ks : List (List (List Int))} (h : RGs K G xs ds) (e : zfj ds = some ks) : Paired (TR2 K H) xs ks := by
  induction h generalizing ks with
  | nil => cases e; exact .nil
  | @cons x d xs ds r t ih =>
    have e' : (zm6 d).bind (fun k => (zfj ds).map (k::·)) = some ks := e
    cases e1 : zm6 d with
    | none => rw [e1] at e'; cases e'
    | some k =>
      rw [e1] at e'
      cases e2 : zfj ds with
      | none => rw [e2] at e'; cases e'
      | some ks' => rw [e2] at e'; cases e'; exact .cons (zqb gk r e1) (ih e2)
theorem zjz {xs : List V} {ds : List D} (r : RGs K G xs ds) : ∀ (ix : List Nat),(∀ i∈ix,i < ds.length)→RGs K G (ix.map fun i => xs.getD i .non) (ix.map fun i => ds.getD i .non)
  | [],_ => .nil
  | i::ix,h => by
    refine .cons ?_ (zjz r ix fun j hj => h j (List.mem_cons_of_mem _ hj))
    have hi := h i List.mem_cons_self
    obtain ⟨u,h1,h2⟩ := Paired.get r (List.getElem?_eq_getElem hi)
    show RG K G (xs.getD i .non) (ds.getD i .non)
    rw [List.getD_eq_getElem?_getD,h1,List.getD_eq_getElem?_getD,List.getElem?_eq_getElem hi]
    exact h2
end
section
variable {X : Cx} {g : GE} {m : List Md} {a : Expr} {fl : Rho → Res (List D)} {pos p : Pos} {k : Nat}
theorem zns (hr : Room k X.A) (hg : Gl X "sorted") (hm : X.mg "sorted" = none) (ha : SAB X g m [a] fl) (hs : starEach [a] X.env = (false,eval a X.env)::starEach [] X.env := by rfl) :
    SO X g m (.Call (.Name "sorted" p) [a] [] pos) (fC fl zmV) := by
  refine zqw (R := fun xs H Q => ∃ p ys kss,xs = [.ref p]∧SqL X.K H p ys∧Paired (TR2 X.K H) ys kss∧ys.length < 64∧∀ l,H l = none→Q (.ref l) (upd H l (.lst (zhE .non ys kss)))) ?_ (zeL (zjb hr) hg hm (by first | exact PyProof.Rows.boot_sorted | rfl) ha (by decide) (by decide) hs rfl)
  intro G H vs ds d Q gk rs e q
  unfold zmV at e
  split at e
  · rename_i zs
    cases ek : zfj zs with
    | none => rw [ek] at e; cases e
    | some kss =>
      rw [ek] at e
      have e' : (if zs.length < 64 then some (D.lst (zhE .non zs kss)) else none) = some d := e
      by_cases h64 : zs.length < 64
      · rw [if_pos h64] at e'
        cases e'
        cases rs with
        | cons r1 t =>
          cases t
          obtain ⟨b,xs,rfl,s,r⟩ := r1.lst gk
          have hl := Paired.length r
          refine ⟨b,xs,kss,rfl,s,zoJ gk r ek,by omega,fun l hl' => q l G _ (Grow.new gk hl' _) hl' ⟨gk.isN hl',.lst zam ?_⟩⟩
          unfold zhE
          rw [hl]
          exact zjz r _ fun i hi => zfV hi
      · rw [if_neg h64] at e'; cases e'
  · cases e
end
end DL
end
section
namespace DL
open PySem PyProof.Rows PySem.SeqAt PySem.MeetsSeq PySem.MeetsSeq2 PySem.MeetsSeq3 L2
open PySem.AutoSeq1 (wpAny_loadPart')
end DL
end
section
namespace DL
open PySem PyProof.Rows L2
section
variable {prog : Program} {w : World} {A : Around} {E : Value → Shared → Prop} {s : Shared}
end
end DL
end
section
namespace DL
open PySem PySem.Spec PyProof.Rows L2
section
variable {X : Cx} {pins : List (Addr × Obj)} {σ : L2.St} {H : Hp} {s : Shared}
end
section
variable {K : PySem.W.Frag} {G : GH} {H : Hp}
end
section
variable {X : Cx} {g : GE} {m : List Md} {a : Expr} {fl : Rho → Res (List D)} {pos p : Pos} {k : Nat}
end
end DL
end
section
namespace DL
open PySem PySem.Spec PyProof.Rows L2
section
variable {X : Cx} {pins : List (Addr × Obj)} {σ : L2.St} {H : Hp} {s : Shared}
theorem Inv.keptN {h' : Heap} (I : Inv X pins σ H s) (k : ∀ b o,b≠X.env.locals→s.heap.get? b = some o→h'.get? b = some o)
    (hns : ∀ m,s.heap.Ns X.env.locals m→h'.Ns X.env.locals m) (t' : Nat) : Inv X pins σ H { s with heap := h',toks := t' } := by
  have trkL : ∀ b u,H b = some u→b≠X.env.locals := fun b u e z => by rw [z,I.free] at e; cases e
  refine I.step (g' := s.gens) (d' := s.drawn) (ch := []) (fun b hb => absurd hb (by simp)) (fun b ob hL _ _ e _ => k b ob hL e) (fun b ob hL _ _ e _ => ⟨ob.slots,k b ob hL e⟩) (fun b ob _ e n => n)
    (fun b ob _ e => ?_) (fun b xs e => e) (fun b ob u e => e) (fun b ps e => ⟨#[],by rw [e]; simp⟩) hns (fun b u e => ?_) I.bare
  · by_cases hb : b = X.env.locals
    · subst hb
      obtain ⟨m,hn,_⟩ := I.loc
      obtain ⟨o,_,_,ho',_⟩ := hns m hn
      exact ⟨o,ho'⟩
    · exact ⟨ob,k b ob hb e⟩
  · refine (I.hok b u e).stay (fun cc v hc q => k cc v ?_ q) (fun cc q => q) fun cc xs q => q
    rcases hc with z | z
    · rw [z]; exact trkL b u e
    · exact trkL cc _ z
end
section
variable {X : Cx} {g : GE} {m : List Md} {e a b : Expr} {es : List Expr} {fl : Rho → Res (List D)} {fa fb : FE} {pos p : Pos}
noncomputable def zqL (K : PySem.W.Frag) : R2 := fun x y H Q => ∃ a b ys,x = .ref a∧y = .ref b∧SqT K H a []∧SqT K H b ys∧Q (.ref b) H
theorem zpk : OpR X (binaryOp .Add) (zqL X.K) := by
  intro pins s σ H x y v u Q I rx ry h
  obtain ⟨a,b,ys,rfl,rfl,ha,hb,q⟩ := h
  cases rx
  cases ry
  obtain ⟨its,r1,p1,_⟩ := I.tuple ha
  obtain ⟨its2,r2,p2,_⟩ := I.tuple hb
  cases r1
  obtain ⟨⟨cls,dd,data,sl⟩,ho,hc,n,hd⟩ := id p1
  obtain ⟨⟨cls2,dd2,data2,sl2⟩,ho2,hc2,n2,hd2⟩ := id p2
  simp only at hc hd hc2 hd2
  subst hc hd hc2 hd2
  exact concat_meets ⟨_,ho,rfl⟩ ⟨_,ho2,rfl⟩ noFill_tuple_add seq_tuple_add PySem.F.slot_tuple_add PySem.F.entry_tuple_add (PySem.F.args_tuple_add_2 _ _)
    (tuple_addW0 a b _ _ n n2 dd dd2 sl sl2 rfl) ⟨ho,ho2,⟨.ref b,H,I,rfl,q⟩⟩
noncomputable def addE : D→D→Option D
  | .tup [],.tup b => some (.tup b)
  | a,b => addA a b
theorem zpW {K : PySem.W.Frag} : OpD K (fun x y H Q => zqL K x y H Q∨((∃ i j,x = .int i∧y = .int j∧Q (.int (i + j)) H)∨(∃ i j,x = .str i∧y = .str j∧i.length + j.length≤sizeLine∧Q (.str (i++j)) H)∨zm9 K x y H Q∨zo1 K x y H Q)) addE := by
  intro G H v1 v2 d1 d2 d Q gk r1 r2 e q
  unfold addE at e
  split at e
  · cases e
    rcases r1 with r1 | ⟨a',_,oo⟩
    · rcases r2 with r2 | ⟨a',_,oo⟩
      · obtain ⟨a,xs,rfl,s1,t1⟩ := r1.tup gk
        obtain ⟨b,ys,rfl,s2,t2⟩ := r2.tup gk
        cases t1
        exact .inl ⟨a,b,ys,rfl,rfl,s1,s2,q _ G H (Grow.refl gk) r2⟩
      · cases oo.ob
    · cases oo.ob
  · exact .inr (zmI G H v1 v2 d1 d2 d Q gk r1 r2 e q)
theorem zhM (ha : SB X g m a fa) (hb : SB X g m b fb) : SE X g m (.BinOp a .Add b pos) (f2 fa fb addE) := zhL (OpR.or zpk (OpR.or zoi (OpR.or zgL (OpR.or ziN zlD)))) zpW ha hb
end
end DL
end
section
namespace DL
open PySem PyProof.Rows L2
open PySem.AutoSeq1 (wpAny_loadPart')
section
variable {X : Cx}
end
end DL
end
section
namespace DL
open PySem PyProof.Rows PySem.W
section
variable {n : Nat} {c : Nat → Nat → Bool} (as : ∀ i j, c i j = true → c j i = false) (tr : ∀ i j k, c j i = false → c k j = false → c k i = false)
include tr in
include as tr in
include tr in
include as tr in
include as tr in
include as tr in
include as tr in
include as tr in
include as tr in
include as tr in
include as tr in
include as tr in
end
end DL
end
section
namespace DL
section
variable {α : Type} {lt : α → α → Bool} {d : α}
end
end DL
end
section
namespace DL
open PySem PySem.Spec PyProof.Rows L2
section
variable {X : Cx} {pins : List (Addr × Obj)} {σ : L2.St} {H : Hp} {s : Shared}
end
section
variable {X : Cx} {g : GE} {m : List Md} {a : Expr} {fl : Rho → Res (List D)} {pos p : Pos} {k : Nat}
end
end DL
end
section
namespace DL
open PySem PySem.Spec PyProof.Rows L2
section
variable {X : Cx} {pins : List (Addr × Obj)} {σ : L2.St} {H : Hp} {s : Shared}
theorem zmH (bs : List Bool) : ((List.range bs.length).all fun i => bs.getD i true) = bs.all id := by
  rw [Bool.eq_iff_iff,List.all_eq_true,List.all_eq_true]
  constructor
  · intro h b hb
    obtain ⟨i,hi,rfl⟩ := List.getElem_of_mem hb
    have := h i (List.mem_range.mpr hi)
    simpa [List.getD_eq_getElem?_getD,hi] using this
  · intro h i hi
    have hi := List.mem_range.mp hi
    have := h bs[i] (List.getElem_mem _)
    simpa [List.getD_eq_getElem?_getD,hi] using this
theorem zj6 (hc : X.calm = true) (I : Inv X pins σ H s) {p : Addr} {bs : List Bool} (hq : SqL X.K H p (bs.map V.bl)) {A : Around} (hA : A.handled = none) {E : Value→Shared→Prop} {Q : Value→Shared→Prop}
    (h : ∀ I fp wr n P St tr it s₂,it = Value.ref I→Walks X.prog X.w A I fp wr n P St→St 0 s₂.heap→TruthOf X.prog X.w A P tr→n = bs.length→(∀ i,tr i = bs.getD i true) →
      (∀ (h' : Heap) (tk : Nat),(∀ (b : Addr) (o : Obj),¬b∈wr→s₂.heap.get? b = some o→h'.get? b = some o)→Inv X pins σ H { heap := h',gens := s₂.gens,drawn := s₂.drawn,toks := tk,os := s₂.os })→Q it s₂) :
    wpAny (model X.prog X.w) A (pyIter (.ref p)) Q E s := by
  obtain ⟨its,rv,pl,hz⟩ := I.list hq
  have hl := rv.length
  rw [List.length_map] at hl
  refine PySem.Flt.iter_list_ pl.isList fun s₂ e2 hi hlt hne => ?_
  refine h s.heap.objs.size [s.heap.objs.size,p] [s.heap.objs.size] its.toArray.size _ _ (fun i => bs.getD i true) _ s₂ rfl (Walks.list hA _ p hne its.toArray) hi ?_ (by rw [List.size_toArray,hl]) (fun i => rfl) fun h' tk k => ?_
  · intro i v s' Q' E' hv hq'
    have hv' : its[i]? = some v := by simpa using hv
    have hi : i < its.length := (List.getElem?_eq_some_iff.mp hv').1
    have hki : i < (bs.map V.bl).length := by rw [List.length_map]; omega
    obtain ⟨u,h1,h3⟩ := rv.get (i := i) (x := (bs.map V.bl)[i]) (List.getElem?_eq_getElem hki)
    rw [hv'] at h1
    cases h1
    rw [List.getElem_map] at h3
    have h3' : v = Value.bool bs[i] := h3
    subst h3'
    have e : bs.getD i true = bs[i] := by
      have hb : i < bs.length := by omega
      simp [List.getD_eq_getElem?_getD,hb]
    have hq2 : Q' (bs.getD i true) s' := hq'
    rw [e] at hq2
    exact wpAny_pure hq2
  · subst e2
    have ne : ∀ b o,s.heap.get? b = some o→¬ b∈[s.heap.objs.size] := fun b o e z => by
      have := List.mem_singleton.mp z
      subst this
      exact absurd (Heap.lt_size e) (Nat.lt_irrefl _)
    exact Inv.keptN I (fun b o _ e => k b o (ne b o e) (Heap.get?_push_of_some _ e)) (fun m ⟨o,es,ep,e,z⟩ => ⟨o,es,ep,k _ _ (ne _ _ e) (Heap.get?_push_of_some _ e),z⟩) tk
theorem znR (hc : X.calm = true) : zdC X (.builtin "all") (fun xs H Q => ∃ (p : Addr) (bs : List Bool),xs = [.ref p]∧SqL X.K H p (bs.map V.bl)∧Q (.bl (bs.all id)) H) := by
  intro pins s σ H xs us Q I r h
  obtain ⟨p,bs,rfl,hq,q⟩ := h
  obtain ⟨u,rfl,rx⟩ := zeW r
  cases rx
  refine call_all_walk (zj6 hc I hq (show X.A.in1.handled = none from I.ok.hd hc) fun J fp wr n P St tr it s₂ e1 e2 e3 e4 e5 e6 e7 => ⟨J,fp,wr,n,P,St,tr,e1,e2,e3,e4,fun h' tk k => ?_⟩)
  have et : tr = fun i => bs.getD i true := funext e6
  rw [e5,et,zmH]
  exact ⟨.bl (bs.all id),H,e7 h' tk k,rfl,q⟩
end
noncomputable def zhw : List D→Option (List Bool)
  | [] => some []
  | .bl b::ds => (zhw ds).map (b::·)
  | _ => none
theorem zpU {K : PySem.W.Frag} {G : GH} {H : Hp} (gk : GOk K G H) {ds : List D} {xs : List V} {bs : List Bool} (h : RGs K G xs ds) (e : zhw ds = some bs) : xs = bs.map V.bl := by
  induction h generalizing bs with
  | nil => cases e; rfl
  | @cons x d xs ds r t ih =>
    cases d with
    | bl b =>
      have e' : (zhw ds).map (b::·) = some bs := e
      cases e1 : zhw ds with
      | none => rw [e1] at e'; cases e'
      | some bs' =>
        rw [e1] at e'; cases e'
        rw [ih e1,List.map_cons,(RG.rb (H := H) r).bl gk]
    | _ => cases e
noncomputable def allD : List D→Option D
  | [.lst ds] => (zhw ds).map fun bs => .bl (bs.all id)
  | _ => none
theorem zsb {K : PySem.W.Frag} : zmN K (fun xs H Q => ∃ (p : Addr) (bs : List Bool),xs = [.ref p]∧SqL K H p (bs.map V.bl)∧Q (.bl (bs.all id)) H) allD := by
  intro G H vs ds d Q gk rs e q
  unfold allD at e
  split at e
  · rename_i zs
    cases ek : zhw zs with
    | none => rw [ek] at e; cases e
    | some bs =>
      rw [ek] at e; cases e
      cases rs with
      | cons r1 t =>
        cases t
        obtain ⟨b,xs,rfl,s,r⟩ := r1.lst gk
        have ex := zpU gk r ek
        subst ex
        exact ⟨b,bs,rfl,s,q _ G H (Grow.refl gk) (.scl (.bl _))⟩
  · cases e
section
variable {X : Cx} {g : GE} {m : List Md} {e : Expr} {es : List Expr} {fl : Rho → Res (List D)} {pos p : Pos}
theorem zsy (hc : X.calm = true) (hg : Gl X "all") (hm : X.mg "all" = none) (ha : SAB X g m (e::es) fl) (he : starEach (e::es) X.env = (false,eval e X.env)::starEach es X.env := by rfl) (hpl : (backTo pos (starEach es X.env)).any (·.1) = false := by rfl) :
    SE X g m (.Call (.Name "all" p) (e::es) [] pos) (fC fl allD) := s_cb zsb (zeL (znR hc) hg hm PyProof.Rows.boot_all ha (by decide) (by decide) he hpl)
end
end DL
end
section
namespace DL
open PySem PySem.Spec PyProof.Rows L2
section
variable {X : Cx} {pins : List (Addr × Obj)} {σ : L2.St} {H : Hp} {s : Shared}
end
section
variable {X : Cx} {g : GE} {m : List Md} {e : Expr} {es : List Expr} {fl : Rho → Res (List D)} {pos p : Pos}
end
end DL
end
section
namespace DL
open PySem PySem.Spec PyProof.Rows L2
noncomputable def ziB (h0 H : Hp) : Prop := ∀ a o,h0 a = some o→H a = some o
structure YieldsB (K : PySem.W.Frag) (h0 : Hp) (J : It) (ds : List D) (G0 : GH) : Prop where
  go : ∀ G H (i : Nat),Gle G0 G→GOk K G H→ziB h0 H→i < ds.length→J.go i H
  yld : ∀ G H (i : Nat) x H' d,Gle G0 G→GOk K G H→ziB h0 H→J.yld i H x H'→ds[i]? = some d→∃ G',Grow K G H G' H'∧RG K G' x d
  stop : ∀ G H,Gle G0 G→GOk K G H→ziB h0 H→J.stop ds.length H
theorem Yields.toH {K : PySem.W.Frag} {h0 : Hp} {J : It} {ds : List D} {G0 : GH} (y : Yields K J ds G0) : YieldsB K h0 J ds G0 :=
  ⟨fun G H i w gk _ hi => y.go G H i w gk hi,fun G H i x H' d w gk _ q e => y.yld G H i x H' d w gk q e,fun G H w gk _ => y.stop G H w gk⟩
noncomputable def tIB (X : Cx) (g : GE) (m : List Md) (f : FI) : TI := fun σ H R => ∃ r G,SI X g m r G σ H∧fin (f r) (fun ds => ∀ J G' H',Grow X.K G H G' H'→YieldsB X.K g.h0 J ds G'→R J H') (XW X σ G H)
noncomputable def SItB (X : Cx) (g : GE) (m : List Md) (tg iter : Expr) (f : FI) : Prop := PI X tg iter (tIB X g m f)
noncomputable def tBw (X : Cx) (g : GE) (m : List Md) (f : FE) : TE := fun σ H Q => ∃ r G,SI X g m r G σ H∧fin (f r) (fun d => ∀ v G' H',Grow X.K G H G' H'→Bw X.K g.h0 G' H' v d→Q v H') (XW X σ G H)
noncomputable def SBw (X : Cx) (g : GE) (m : List Md) (e : Expr) (f : FE) : Prop := PE X e (tBw X g m f)
section
variable {X : Cx} {g : GE} {m m' mb : List Md} {tg e a iter : Expr} {f : FE} {pos p pos2 : Pos} {ro : Bool} {sts : List Stmt} {s1 : FS} {elts : List Expr} {kk : Nat}
theorem vw_ (i : Nat) {x : Str} (hm : m[i]? = some .bw := by rfl) (hN : X.N[i]? = some x := by rfl) (hv : Vis X.env.scope x := by first | exact Or.inl rfl | exact Or.inr (Or.inl rfl) | exact Or.inr (Or.inr rfl)) (hd : (x == ("__debug__" : Str)) = false := by decide) (hcd : (x == ("__classdict__" : Str)) = false := by decide) :
    SBw X g m (.Name x pos) fun r => getV r i := by
  refine PE.imp (zh3 hN hv hd hcd) fun σ H Q ⟨r,G,si,q⟩ => ?_
  obtain ⟨d,e,k⟩ := zhq q
  obtain ⟨v,e1,e2⟩ := si.bw i d e hm
  exact ⟨v,e1,k _ G H (Grow.refl si.gok) e2⟩
theorem zlx {K : PySem.W.Frag} {h0 : Hp} {G0 G : GH} {H0 H : Hp} {a : Addr} {ds : List D} (o : Own K G0 H0 a (.lst ds)) (h : h0 a≠none) (o0 : ziB h0 H0) (le : Gle G0 G) (o1 : ziB h0 H) : ∃ xs,SqL K H a xs∧RGs K G xs ds := by
  cases e : h0 a with
  | none => exact absurd e h
  | some u =>
    have h1 := o0 a u e
    have h2 := o1 a u e
    cases o.ob with
    | lst r s =>
      rw [h1] at r
      cases r
      exact ⟨_,SqL.of h2,RGs.mono s le⟩
theorem zp3 {K : PySem.W.Frag} {h0 : Hp} {ds : List D} {G0 : GH} {a : Addr} (h : ∀ G H,Gle G0 G→GOk K G H→ziB h0 H→∃ xs,SqL K H a xs∧RGs K G xs ds) : YieldsB K h0 (Itl K a) ds G0 := by
  refine ⟨fun G H i w gk o hi => ?_,fun G H i x H' d w gk o y e => ?_,fun G H w gk o => ?_⟩
  · obtain ⟨xs,s,r⟩ := h G H w gk o
    have hl := Paired.length r
    exact ⟨xs,xs[i],s,List.getElem?_eq_getElem (by omega)⟩
  · obtain ⟨xs,s,r⟩ := h G H w gk o
    obtain ⟨rfl,y⟩ := y
    obtain ⟨v,e1,rv⟩ := Paired.get r e
    have := y xs s
    rw [e1] at this; cases this
    exact ⟨G,Grow.refl gk,rv⟩
  · obtain ⟨xs,s,r⟩ := h G H w gk o
    exact ⟨xs,s,Nat.le_of_eq (Paired.length r)⟩
theorem SI.oldIn {r : Rho} {G : GH} {st : L2.St} {H : Hp} (s : SI X g m r G st H) : ziB g.h0 H := s.old
theorem zou (h : SBw X g m e f) : SItB X g m tg e (fSeq zbn f) := by
  refine PI.imp (zlr h) fun σ H R ⟨r,G,si,q⟩ => ⟨r,G,si,zah (zag q) fun d q v G' H' w rv => ?_⟩
  obtain ⟨ds,e,q⟩ := zav q
  cases d with
  | lst ds' =>
    cases e
    rcases rv with rv | ⟨a,rfl,o,ho⟩
    · obtain ⟨a,xs,rfl,s,rs⟩ := rv.lst w.ok
      exact .inl ⟨a,rfl,⟨xs,s⟩,q _ G' H' w (ziC rv).toH⟩
    · cases o.ob with
      | lst r s => exact .inl ⟨a,rfl,⟨_,SqL.of r⟩,q _ G' H' w (zp3 fun G2 H2 le _ o2 => zlx o ho (si.grow w).oldIn le o2)⟩
  | tup ds' =>
    cases e
    rcases rv with rv | ⟨a,rfl,o,ho⟩
    · obtain ⟨a,xs,rfl,s,rs⟩ := rv.tup w.ok
      exact .inr ⟨a,rfl,⟨xs,s⟩,q _ G' H' w (zkQ rv).toH⟩
    · cases o.ob
  | _ => cases e
theorem ziD {K : PySem.W.Frag} {h0 : Hp} {ds : List D} {G0 : GH} {sq : Hp→List V→Prop} (h : ∀ G H,Gle G0 G→GOk K G H→ziB h0 H→∃ xs,sq H xs∧RGs K G xs ds) : YieldsB K h0 (Ien sq) (enuD 0 ds) G0 := by
  refine ⟨fun G H i w gk o hi => ?_,fun G H i x H' d w gk o y e => ?_,fun G H w gk o => ?_⟩
  · obtain ⟨xs,s,r⟩ := h G H w gk o
    rw [zeO] at hi
    have hl := Paired.length r
    exact ⟨xs,xs[i],s,List.getElem?_eq_getElem (by omega)⟩
  · obtain ⟨xs,s,r⟩ := h G H w gk o
    obtain ⟨p,v,hp,rfl,rfl,hv⟩ := y
    rw [zhr] at e
    cases ed : ds[i]? with
    | none => rw [ed] at e; cases e
    | some d0 =>
      rw [ed] at e
      simp only [Option.map_some,Option.some.injEq,Nat.zero_add] at e
      subst e
      obtain ⟨v',e1,rv⟩ := Paired.get r ed
      have := hv xs s
      rw [e1] at this; cases this
      exact ⟨_,Grow.newF gk hp (.tup (.inl zam) (.cons (.scl (.int _)) (.cons rv .nil))),.ref zaR⟩
  · obtain ⟨xs,s,r⟩ := h G H w gk o
    rw [zeO]
    exact ⟨xs,s,Paired.length r⟩
theorem zpG (hg : Gl X "enumerate") (hm : X.mg "enumerate" = none) (he : SBw X g m e f) (hs : starEach [e] X.env = (false,eval e X.env)::starEach [] X.env := by rfl) : SItB X g m (.Tuple elts kk pos2) (.Call (.Name "enumerate" p) [e] [] pos) (fEnu f) := by
  refine PI.imp (zlt hg hm he hs) fun σ H R ⟨r,G,si,q⟩ => ⟨r,G,si,zah (zag q) fun d q v G' H' w rv => ?_⟩
  obtain ⟨ds,e,q⟩ := zav (zag q)
  cases d with
  | lst ds' =>
    cases e
    rcases rv with rv | ⟨a,rfl,o,ho⟩
    · obtain ⟨a,xs,rfl,s,rs⟩ := rv.lst w.ok
      refine .inl ⟨a,rfl,⟨xs,s⟩,q _ G' H' w (ziD fun G H le gk _ => ?_)⟩
      obtain ⟨b,ys,e,s',r'⟩ := (rv.mono le).lst gk
      cases e
      exact ⟨ys,s',r'⟩
    · cases o.ob with
      | lst r s => exact .inl ⟨a,rfl,⟨_,SqL.of r⟩,q _ G' H' w (ziD fun G2 H2 le _ o2 => zlx o ho (si.grow w).oldIn le o2)⟩
  | tup ds' =>
    cases e
    rcases rv with rv | ⟨a,rfl,o,ho⟩
    · obtain ⟨a,xs,rfl,s,rs⟩ := rv.tup w.ok
      refine .inr ⟨a,rfl,⟨xs,s⟩,q _ G' H' w (ziD fun G H le gk _ => ?_)⟩
      obtain ⟨b,ys,e,s',r'⟩ := (rv.mono le).tup gk
      cases e
      exact ⟨ys,s',r'⟩
    · cases o.ob
  | _ => cases e
theorem zk3 (hp : PassesOwn (model X.prog X.w) X.A X.env X.xe) (hc : X.calm = true) {ft : FT} {fi : FI} (hi : SItB X g m tg iter fi) (hg : SG X g m tg ft m) (hb : SSs X g ro m m sts s1 m)
    (hs : ∀ x,foldedSetIterable iter X.env x = pure x := by intro _; rfl) : SS X g ro mb m (.For tg iter sts [] pos) (zca m fi ft s1) m := by
  refine ⟨rfl,PS.imp (zll hp hc hi hg.2 hb.2 hs) fun D σ H ⟨r,G,si,q⟩ => ⟨r,G,si,zah (zbU si rfl q) fun ds q J G0 H0 w0 Y => ?_⟩⟩
  refine ⟨fun i n σ H => ∃ r G,SI X g m r G σ H∧Gle G0 G∧i≤ds.length∧n = ds.length - i∧oTo X g ro m mb G D (forF ft s1 (ds.drop i) r),⟨ds.length,r,G0,si.grow w0,Gle.refl G0,Nat.zero_le _,rfl,oTo.gle q w0.ge⟩,?_⟩
  rintro i n σ1 H1 ⟨r1,G1,si1,le1,hi,rfl,q1⟩
  by_cases hlt : i < ds.length
  · have hd : ds.drop i = ds[i]::ds.drop (i + 1) := List.drop_eq_getElem_cons hlt
    rw [hd] at q1
    unfold forF at q1
    refine .inr ⟨Y.go G1 H1 i le1 si1.gok si1.oldIn hlt,fun σ' H' => ∃ r G,SI X g m r G σ' H'∧Gle G0 G∧oTo X g ro m mb G D (forF ft s1 (ds.drop (i + 1)) r),fun σ' H' ⟨r',G',si',le',q'⟩ => ⟨ds.length - (i + 1),by omega,r',G',si',le',hlt,rfl,q'⟩,fun x H' y => ?_⟩
    obtain ⟨G',w',rv⟩ := Y.yld G1 H1 i x H' ds[i] le1 si1.gok si1.oldIn y (List.getElem?_eq_getElem hlt)
    have le' : Gle G0 G' := le1.trans w'.ge
    cases eft : ft ds[i] r1 with
    | none => simp only [eft] at q1; exact q1.elim
    | some r2 =>
      simp only [eft] at q1
      refine ⟨r1,G',ds[i],si1.grow w',rv,r2,eft,fun σ2 si2 => ⟨r2,G',si2,?_⟩⟩
      cases eb : s1 r2 with
      | nx r' => simp only [eb] at q1; exact fun σ3 G3 H3 le3 si3 => ⟨r',G3,si3,le'.trans le3,oTo.gle q1 (Gle.trans w'.ge le3)⟩
      | ct r' => simp only [eb] at q1; exact fun σ3 G3 H3 le3 si3 => ⟨r',G3,si3,le'.trans le3,oTo.gle q1 (Gle.trans w'.ge le3)⟩
      | bk r' => simp only [eb] at q1; exact fun σ3 G3 H3 le3 si3 => q1 σ3 G3 H3 (Gle.trans w'.ge le3) si3
      | rt d => simp only [eb] at q1; exact q1
      | exc x r' => simp only [eb] at q1; exact fun pins e s' σ3 G3 H3 le3 => q1 pins e s' σ3 G3 H3 (Gle.trans w'.ge le3)
      | stuck => simp only [eb] at q1; exact q1
  · have e : i = ds.length := by omega
    subst e
    rw [List.drop_length] at q1
    exact .inl ⟨Y.stop G1 H1 le1 si1.gok si1.oldIn,q1 σ1 G1 H1 (Gle.refl _) si1⟩
end
end DL
end
section
namespace DL
open PySem PySem.Spec PyProof.Rows L2
open HT (sIx)
section
variable {prog : Program} {w : World} {A : Around} {E : Value → Shared → Prop} {s : Shared}
theorem zho {t sl : Addr} {items : Array Value} {vl vu : Value} {lo hi : Option Int} {Q : Value→Shared→Prop} (ht : IsTup s.heap t items) (hs : s.heap.IsSliceOf sl vl vu .none) (pl : IsPart vl lo) (pu : IsPart vu hi)
    (hw : sIx items.size 0 lo = 0∧sIx items.size items.size hi = items.size) (h : Q (.ref t) s) : wpAny (model prog w) A (getItem (.ref t) (.ref sl)) Q E s := by
  obtain ⟨os,hos,hcs,hds⟩ := id hs
  have hTs : s.TypeIs (.ref sl) "slice" := ⟨os,hos,hcs⟩
  unfold getItem
  try with_reducible refine wpAny_holding ?_
  first | refine wpAny_bind (wpAny_pure ?_) | skip
  refine wpAny_bind (wpAny_sequenceKey ht.typeIs (by decide) (wpAny_bind (wpAny_callSpecial?_slot (name := Str.ofString "__getitem__") ht.typeIs PyProof.Rows.slot_tuple_getitem (wpAny_call_entry PyProof.Rows.slot_tuple_getitem ht.typeIs PyProof.Rows.entry_tuple_getitem ?_ (PyProof.Rows.args_tuple_getitem _ _)))))
  show wpAny _ _ (Builtin.Tuple.tupleItemsOf (.ref t) >>= _) _ _ s
  refine wpAny_bind (PyProof.Rows.tupleItemsOf_ ht (wpAny_bind (wpAny_typeOf hTs ?_)))
  rw [if_pos (by decide)]
  refine wpAny_bind (HT.sliceApplied_gen hs pl pu ?_)
  rw [hw.1,hw.2]
  show wpAny _ _ (if (((0 : Nat) : Int) == 0 && (1 : Int) == 1 && (items.size - 0) == items.size) = true then _ else _) _ _ s
  rw [if_pos (by simp)]
  show wpAny _ _ (Builtin.Tuple.tupleIsExact (.ref t) >>= _) _ _ s
  unfold Builtin.Tuple.tupleIsExact
  refine wpAny_bind (wpAny_bind (wpAny_typeOf ht.typeIs (wpAny_pure ?_)))
  rw [if_pos (by decide)]
  refine wpAny_bind (wpAny_rule ?_)
  show wpAny _ _ (ret (.ref t)) _ _ s
  exact wpAny_pure ⟨_,rfl,wpAny_pure h⟩
end
noncomputable def rSlW (K : PySem.W.Frag) : V→Option Int→Option Int→Hp→VK→Prop := fun x lo hi H Q => ∃ a xs,x = .ref a∧SqT K H a xs∧(sIx xs.length 0 lo = 0∧sIx xs.length xs.length hi = xs.length)∧Q (.ref a) H
theorem zmX {X : Cx} : SlR X (rSlW X.K) := by
  intro pins s σ H x v vl vu lo hi sl Q I rx hs pl pu h
  obtain ⟨a,xs,rfl,hx,hw,q⟩ := h
  cases rx
  obtain ⟨its,r,ht,hz⟩ := I.tuple hx
  have hlen : its.toArray.size = xs.length := by rw [List.size_toArray]; exact r.length.symm
  exact ⟨"tuple",_,PyProof.Rows.slot_tuple_getitem.lookup,ht.typeIs,zho ht hs pl pu (by rw [hlen]; exact hw) ⟨.ref a,H,I,rfl,q⟩⟩
noncomputable def slA (d : D) (lo hi : Option Int) : Option D := match d with
  | .tup ds => some (.tup (cutL ds lo hi))
  | .lst ds => some (.lst (cutL ds lo hi))
  | _ => none
noncomputable def fSlA (fa : FE) (fl fh : FP) : FE := fun r => (fa r).bind fun d => (fl r).bind fun lo => (fh r).bind fun hi => opt (slA d lo hi)
section
variable {X : Cx} {g : GE} {m : List Md} {e : Expr} {f fa : FE} {pos p2 : Pos}
theorem zoP {R : V→Option Int→Option Int→Hp→Prop} {fl fh : FP} {r : Rho} {G : GH} {σ : L2.St} {H : Hp} {q : D→Prop} (si : SI X g m r G σ H) (h : fin (fSlA fa fl fh r) q (XW X σ G H))
    (hk : ∀ d lo hi v G2 H2 d',Grow X.K G H G2 H2→RB X.K G2 H2 v d→slA d lo hi = some d'→q d'→R v lo hi H2) :
    tB X g m fa σ H fun x H1 => tP X g m fl σ H1 fun l H2 => tP X g m fh σ H2 fun u H3 => R x l u H3 := by
  refine ⟨r,G,si,zah (zag h) fun d h1 v G1 H1 w1 r1 => ⟨r,G1,si.grow w1,zaB (zag h1) w1 fun lo h2 G2 H2 w2 => ⟨r,G2,(si.grow w1).grow w2,?_⟩⟩⟩
  refine zaB (zag h2) (w1.trans w2) fun hi h3 G3 H3 w3 => ?_
  obtain ⟨d',e,h4⟩ := zav h3
  exact hk d lo hi v G3 H3 d' ((w1.trans w2).trans w3) ((r1.mono w2).mono w3) e h4
theorem zmr {α : Type} {ds : List α} {lo hi : Option Int} (h : sIx ds.length 0 lo = 0∧sIx ds.length ds.length hi = ds.length) : cutL ds lo hi = ds := by
  unfold cutL
  rw [h.1,h.2]; simp
theorem zkf {lo hi : Option Expr} {fl fh : FP} (he : SB X g m e f) (hl : SP1 X g m lo fl) (hu : SP1 X g m hi fh) : SE X g m (.Subscript e (.Slice lo hi none p2) pos) (fSlA f fl fh) := by
  refine PE.imp (zjD (SlR.or zmX (SlR.or zkW zn4)) he hl hu) fun σ H Q ⟨r,G,si,q⟩ => ?_
  refine zoP si q fun d lo hi v G2 H2 d' w r1 e q2 => ?_
  cases d with
  | tup ds =>
    cases e
    rcases r1 with r1 | ⟨a',_,oo⟩
    · obtain ⟨a,xs,rfl,s,r⟩ := r1.tup w.ok
      by_cases hw : sIx ds.length 0 lo = 0∧sIx ds.length ds.length hi = ds.length
      · refine .inl ⟨a,xs,rfl,s,by rw [Paired.length r]; exact hw,?_⟩
        rw [zmr hw] at q2
        exact q2 _ G2 H2 w r1
      · rw [← Paired.length r] at hw
        refine .inr (.inr ⟨a,xs,rfl,s,hw,fun p hp => ?_⟩)
        exact q2 _ _ _ (w.trans (Grow.newF w.ok hp (.tup (.inl zam) (znM r lo hi)))) (.ref zaR)
    · cases oo.ob
  | lst ds =>
    cases e
    obtain ⟨a,xs,rfl,s,r⟩ := r1.lst w.ok
    exact .inr (.inl ⟨a,xs,rfl,s,fun p hp => q2 _ _ _ (w.trans (Grow.newF w.ok hp (.lst (.inl zam) (znM r lo hi)))) (.ref zaR)⟩)
  | _ => cases e
end
end DL
end
section
namespace DL
open PySem PySem.Spec PyProof.Rows L2
noncomputable def BIG : Nat := 2 ^ 2000
noncomputable def zkN (i j : Int) : Prop := i.natAbs < BIG∧j.natAbs < BIG
noncomputable def znX (_i j : Int) : Prop := 0 < j∧j.natAbs < BIG
noncomputable instance decMulW (i j : Int) : Decidable (zkN i j) := by unfold zkN; infer_instance
noncomputable instance decDivW (i j : Int) : Decidable (znX i j) := by unfold znX; infer_instance
theorem zmG {i : Int} (h : i.natAbs < BIG) : Builtin.Int.intBits i≤2000 := by
  unfold Builtin.Int.intBits
  split
  · exact Nat.zero_le _
  · rename_i z
    have h0 : i.natAbs≠0 := fun e => z (by rw [Int.natAbs_eq_zero.mp e]; rfl)
    have := (Nat.log2_lt h0).mpr h
    omega
theorem zkN.ok {i j : Int} (h : zkN i j) : IntMulOk i j := by
  have h1 := zmG h.1
  have h2 := zmG h.2
  unfold IntMulOk
  have e : Builtin.Int.intTooBig ((Builtin.Int.intBits i : Int) + (Builtin.Int.intBits j : Int)) = false := by
    unfold Builtin.Int.intTooBig
    have : ((bitsLine : Nat) : Int) = 134217728 := by decide +kernel
    exact decide_eq_false (by omega)
  rw [e]; simp
theorem zpi : OpR X (binaryOp .Mult) (rI zkN fun i j => .int (i * j)) := opI fun _ _ _ _ _ _ _ hc q => mul_int q hc.ok
theorem znn : OpR X (binaryOp .FloorDiv) (rI znX fun i j => .int (i / j)) := opI fun i j _ _ _ _ _ hc q => by
  have h1 : (0 : Int) < j := hc.1
  have h2 : j.natAbs < BIG := hc.2
  have h0 : j.natAbs≠0 := by omega
  have := (Nat.log2_lt h0).mpr h2
  exact floordiv_int (by omega) (by rw [Int.fdiv_eq_ediv_of_nonneg i (by omega)]; exact q) (.inl (PyProof.noPylong_of_log2 (by omega)))
noncomputable abbrev mulW : D→D→Option D := zge zkN fun a b => .int (a * b)
noncomputable abbrev zi3 : D→D→Option D := zge znX fun a b => .int (a / b)
section
variable {X : Cx} {g : GE} {m : List Md} {e a b c o : Expr} {es : List Expr} {f fa fb fc fo : FE} {fl : Rho → Res (List D)} {pos p apos cpos : Pos}
theorem zk2 (ha : SB X g m a fa) (hb : SB X g m b fb) : SE X g m (.BinOp a .Mult b pos) (f2 fa fb mulW) := zhL zpi (zdP fun _ _ => .int _) ha hb
theorem zhf (ha : SB X g m a fa) (hb : SB X g m b fb) : SE X g m (.BinOp a .FloorDiv b pos) (f2 fa fb zi3) := zhL znn (zdP fun _ _ => .int _) ha hb
noncomputable def absD : List D→Option D
  | [.int i] => some (.int (if i < 0 then -i else i))
  | _ => none
theorem zse {K : PySem.W.Frag} : zmN K (fun xs H Q => ∃ i : Int,xs = [.int i]∧Q (.int (if i < 0 then -i else i)) H) absD := by
  intro G H vs ds d Q gk rs e q
  unfold absD at e
  split at e
  · cases e
    cases rs with
    | cons r1 t =>
      cases t
      exact ⟨_,by rw [r1.int gk],q _ G H (Grow.refl gk) (.scl (.int _))⟩
  · cases e
theorem zqz (hg : Gl X "abs") (hm : X.mg "abs" = none) (ha : SAB X g m (e::es) fl) (he : starEach (e::es) X.env = (false,eval e X.env)::starEach es X.env := by rfl) (hpl : (backTo pos (starEach es X.env)).any (·.1) = false := by rfl) :
    SE X g m (.Call (.Name "abs" p) (e::es) [] pos) (fC fl absD) := s_cb zse (zeL znS hg hm PyProof.Rows.boot_abs ha (by decide) (by decide) he hpl)
theorem zoS {x : Str} {i : Int} (hg : Gl X x) (hk : ∃ t,X.mg x = some (.int i t)) (hd : (x == ("__debug__" : Str)) = false := by decide) : SE X g m (.Name x pos) fun _ => .ok (.int i) := by
  obtain ⟨t,hm⟩ := hk
  exact zqt (v := .int i) hg hm ⟨t,rfl⟩ (.int i) hd
theorem ztf {K : PySem.W.Frag} {h : Heap} {mg : Str→Option Value} {x : Str} (KX : K.In h) (G : h.Ns mainGlobals mg) {i : Int} {t : Tok} (z : PySem.W.nsIn K mainGlobals x = some (some (.int i t))) : ∃ t,mg x = some (.int i t) := ⟨t,PySem.W.mg_of KX G z⟩
noncomputable def zli (K : PySem.W.Frag) : V→List V→Hp→VK→Prop := fun x vs H Q => ∃ p xs y,x = .ref p∧vs = [y]∧SqL K H p xs∧zer y = true∧xs.all zer = true∧Q (.int ((xs.countP fun z => eqV z y : Nat) : Int)) H
theorem zms {y : V} : ∀ {xs : List V} {us : List Value},Vals xs us→xs.all zer = true→us.countP (eqU y) = xs.countP fun z => eqV z y
  | _,_,.nil,_ => rfl
  | x::xs,u::us,.cons r t,f => by
    rw [List.all_cons,Bool.and_eq_true] at f
    rw [List.countP_cons,List.countP_cons,zms t f.2,zil r f.1]
theorem zlK : MtR X "list.count" (zli X.K) := by
  intro pins s σ H x vs v us Q I rx rv h
  obtain ⟨p,xs,y,rfl,rfl,hq,fy,fx,q⟩ := h
  cases rx
  obtain ⟨u,rfl,ru⟩ := zeW rv
  obtain ⟨its,r,pl,hz⟩ := I.list hq
  obtain ⟨o,n,ho,hc,hd,hs⟩ := pl
  obtain ⟨ocls,odict,odata,oslots⟩ := o
  simp only at hc hd hs
  subst hc hd hs
  refine call_meets PySem.F.slot_list_count ⟨_,ho,rfl⟩ PySem.F.entry_list_count (PySem.F.args_list_count_2 _ _)
    (SeqAt.list_countAt p its.toArray n none oslots u (eqU y)) ⟨ho,fun w hw => zdR ru fy r fx w (by simpa using hw),⟨.int _,H,I.tok _,⟨_,rfl⟩,?_⟩⟩
  have e : (its.toArray.toList.countP (eqU y)) = xs.countP fun z => eqV z y := zms r fx
  rw [e]; exact q
noncomputable def zjZ (d : D) (zs : List D) : Option D := match d,zs with
  | .lst ds,[x] => if zb3 x = true∧ds.all zb3 = true then some (.int ((ds.countP fun z => eqs z x : Nat) : Int)) else none
  | _,_ => none
theorem zmt {K : PySem.W.Frag} : MtD K (zli K) zjZ := by
  intro G H v d vs ds d' Q gk rv rs e q
  unfold zjZ at e
  split at e
  · rename_i zs x
    split at e
    · rename_i hc
      cases e
      cases rs with
      | cons r1 rt =>
        cases rt
        obtain ⟨a,xs,rfl,s,r⟩ := rv.lst gk
        obtain ⟨e1,f1⟩ := RB.flat r1 gk hc.1
        obtain ⟨e3,f3⟩ := zrS r gk hc.2
        refine ⟨a,xs,_,rfl,rfl,s,f1,f3,?_⟩
        have : (xs.countP fun z => eqV z (toV x)) = zs.countP fun z => eqs z x := by
          rw [e3,List.countP_map]; rfl
        rw [e1,this]
        exact q _ G H (Grow.refl gk) (.scl (.int _))
    · cases e
  · cases e
end
end DL
end
section
namespace DL
open PySem PySem.Spec PyProof.Rows L2
noncomputable def zdB {α : Type} (xs : List α) (lo hi st : Option Int) : List α := (sliceRange (sliceBounds lo hi st xs.length).1 (sliceBounds lo hi st xs.length).2.1 (sliceBounds lo hi st xs.length).2.2).filterMap (xs[·]?)
theorem zlq {α β : Type} {F : α→β→Prop} {xs : List α} {ds : List β} (r : Paired F xs ds) : ∀ is : List Nat,Paired F (is.filterMap (xs[·]?)) (is.filterMap (ds[·]?))
  | [] => .nil
  | i::is => by
    have ih := zlq r is
    have hl := Paired.length r
    cases e : ds[i]? with
    | none =>
      have e2 : xs[i]? = none := by
        rw [List.getElem?_eq_none_iff] at e ⊢; omega
      rw [List.filterMap_cons,List.filterMap_cons,e,e2]; exact ih
    | some d =>
      obtain ⟨v,e2,hv⟩ := Paired.get r e
      rw [List.filterMap_cons,List.filterMap_cons,e,e2]; exact .cons hv ih
theorem zog {α β : Type} {F : α→β→Prop} {xs : List α} {ds : List β} (r : Paired F xs ds) (lo hi st : Option Int) : Paired F (zdB xs lo hi st) (zdB ds lo hi st) := by
  unfold zdB
  rw [Paired.length r]
  exact zlq r _
noncomputable def SlS (X : Cx) (r : V→Option Int→Option Int→Option Int→Hp→VK→Prop) : Prop :=
  ∀ (pins : List (Addr × Obj)) (s : Shared) (σ : L2.St) (H : Hp) (x : V) (v vl vu vs : Value) (lo hi st : Option Int) (sl : Addr) (Q : VK),Inv X pins σ H s→RelV x v→s.heap.IsSliceOf sl vl vu vs→IsPart vl lo→IsPart vu hi→IsPart vs st→r x lo hi st H Q →
    ∃ T id,typeLookup (.type T) "__getitem__" = pure (some (.builtin id))∧s.TypeIs v T∧wpAny (model X.prog X.w) X.A (getItem v (.ref sl)) (EP X pins σ Q) X.xe s
noncomputable def rSlS (K : PySem.W.Frag) : V→Option Int→Option Int→Option Int→Hp→VK→Prop := fun x lo hi st H Q => ∃ a xs,x = .ref a∧SqL K H a xs∧st≠some 0∧∀ p,H p = none→Q (.ref p) (upd H p (.lst (zdB xs lo hi st)))
theorem zkS {xs : List V} {us : List Value} (r : Vals xs us) : Paired RelV xs us := by
  induction r with
  | nil => exact .nil
  | cons a _ ih => exact .cons a ih
theorem zlv {xs : List V} {us : List Value} (r : Paired RelV xs us) : Vals xs us := by
  induction r with
  | nil => exact .nil
  | cons a _ ih => exact .cons a ih
section
variable {X : Cx} {g : GE} {m : List Md} {e st : Expr} {f fa : FE} {pos p2 : Pos} {lo hi : Option Expr} {te : TE} {tl th ts : TO}
theorem zmY : SlS X (rSlS X.K) := by
  intro pins s σ H x v vl vu vs lo hi st sl Q I rx hs pl pu ps h
  obtain ⟨a,xs,rfl,hx,h0,q⟩ := h
  cases rx
  obtain ⟨its,r,ht,hz⟩ := I.list hx
  have hlen := r.length
  refine ⟨"list",_,slot_list_getitem.lookup,ht.isList.typeIs,?_⟩
  refine wpAny_getItem_list_slice ht.isList hs pl pu ps h0 ?_ (by rw [List.size_toArray] <;> omega)
  have e : slicePick its.toArray lo hi st = (zdB its lo hi st).toArray := by
    unfold slicePick zdB
    rw [List.size_toArray]
    congr 1
    simp only [List.getElem?_toArray]
  have pp := zog (zkS r) lo hi st
  have hsz : (zdB xs lo hi st).length≤sizeLine := by
    have h1 := slicePick_size_le its.toArray lo hi st
    rw [e,List.size_toArray,List.size_toArray] at h1
    have h2 := Paired.length pp
    omega
  rw [e]
  refine ⟨.ref s.heap.objs.size,_,I.laid (t' := s.toks) (o := .lst (zdB xs lo hi st)) (fun b ob q => Heap.get?_push_of_some _ q) (Nat.le_refl _) ?_,rfl,q _ (I.hok.fresh (Nat.le_refl _))⟩
  exact ⟨hsz,_,0,zlv pp,Heap.get?_push_size _ rfl⟩
noncomputable def tSlS (r : V→Option Int→Option Int→Option Int→Hp→VK→Prop) (te : TE) (tl th ts : TO) : TE := fun σ H Q => te σ H fun x H1 => tl σ H1 fun l H2 => th σ H2 fun u H3 => ts σ H3 fun t H4 => r x l u t H4 Q
theorem zlu {r : V→Option Int→Option Int→Option Int→Hp→VK→Prop} (hr : SlS X r) (he : PE X e te) (hl : PO X lo tl) (hu : PO X hi th) (hst : PO X (some st) ts) : PE X (.Subscript e (.Slice lo hi (some st) p2) pos) (tSlS r te tl th ts) := by
  intro pins s σ H Q I h
  refine Subscript_ (thn (he pins s σ H _ I h) fun v s1 ⟨x,H1,I1,r1,q1⟩ => ?_)
  refine wpAny_Slice (thn (hl pins s1 σ H1 _ I1 q1) fun vl s2 ⟨l,H2,I2,pl,q2⟩ => thn (hu pins s2 σ H2 _ I2 q2) fun vu s3 ⟨u,H3,I3,pu,q3⟩ => thn (hst pins s3 σ H3 _ I3 q3) fun vt s4 ⟨t,H4,I4,pt,q4⟩ => ?_)
  have I5 : Inv X pins σ H4 { s4 with heap := s4.heap.push { cls := .type "slice",data := .fields #[vl,vu,vt] } } := I4.kept (t' := s4.toks) fun b ob q => Heap.get?_push_of_some _ q
  obtain ⟨T,id,hT,ht,hg⟩ := hr pins { s4 with heap := s4.heap.push { cls := .type "slice",data := .fields #[vl,vu,vt] } } σ H4 x v vl vu vt l u t s4.heap.objs.size Q I5 r1 (Heap.IsSliceOf.new ..) pl pu pt q4
  show wpAny (model X.prog X.w) X.A (subscriptTail e (.Slice lo hi (some st) p2) v (.ref s4.heap.objs.size)) (EP X pins σ Q) X.xe { s4 with heap := s4.heap.push { cls := .type "slice",data := .fields #[vl,vu,vt] } }
  first
    | exact tail_any (ops := [v,.ref s4.heap.objs.size]) ht hT hg (by with_unfolding_all rfl)
    | exact tail_any (ops := [.ref s4.heap.objs.size,v]) ht hT hg (by with_unfolding_all rfl)
noncomputable def slS (d : D) (lo hi st : Option Int) : Option D := match d with
  | .lst ds => if st = some 0 then none else some (.lst (zdB ds lo hi st))
  | _ => none
noncomputable def fSlS (fa : FE) (fl fh fs : FP) : FE := fun r => (fa r).bind fun d => (fl r).bind fun lo => (fh r).bind fun hi => (fs r).bind fun st => opt (slS d lo hi st)
theorem zsv {fl fh fs : FP} (he : SB X g m e f) (hl : SP1 X g m lo fl) (hu : SP1 X g m hi fh) (hs : SP1 X g m (some st) fs) : SE X g m (.Subscript e (.Slice lo hi (some st) p2) pos) (fSlS f fl fh fs) := by
  refine PE.imp (zlu zmY he hl hu hs) fun σ H Q ⟨r,G,si,q⟩ => ?_
  refine ⟨r,G,si,zah (zag q) fun d h1 v G1 H1 w1 r1 => ⟨r,G1,si.grow w1,zaB (zag h1) w1 fun lo h2 G2 H2 w2 => ⟨r,G2,(si.grow w1).grow w2,?_⟩⟩⟩
  refine zaB (zag h2) (w1.trans w2) fun hi h3 G3 H3 w3 => ⟨r,G3,((si.grow w1).grow w2).grow w3,?_⟩
  refine zaB (zag h3) ((w1.trans w2).trans w3) fun st h4 G4 H4 w4 => ?_
  obtain ⟨d',e,q2⟩ := zav h4
  have w := ((w1.trans w2).trans w3).trans w4
  have rb := ((r1.mono w2).mono w3).mono w4
  cases d with
  | lst ds =>
    have e' : (if st = some 0 then none else some (D.lst (zdB ds lo hi st))) = some d' := e
    by_cases h0 : st = some 0
    · rw [if_pos h0] at e'; cases e'
    rw [if_neg h0] at e'
    cases e'
    obtain ⟨a,xs,rfl,s,r⟩ := rb.lst w.ok
    exact ⟨a,xs,rfl,s,h0,fun p hp => q2 _ _ _ (w.trans (Grow.newF w.ok hp (.lst (.inl zam) (zog r lo hi st)))) (.ref zaR)⟩
  | _ => cases e
end
end DL
end
section
namespace Rg
theorem zcb {α : Type} [DecidableEq α] : ∀ {l m : List α},l.Nodup→(∀ x∈l,x∈m)→l.length≤m.length
  | [],_,_,_ => Nat.zero_le _
  | a::l,m,hn,hs => by
    have hn' := List.nodup_cons.mp hn
    have h1 := zcb (l := l) (m := m.erase a) hn'.2 fun x hx => by
      have hxa : x≠a := by rintro rfl; exact hn'.1 hx
      exact (List.mem_erase_of_ne hxa).mpr (hs x (List.mem_cons_of_mem _ hx))
    have ha : a∈m := hs a List.mem_cons_self
    rw [List.length_erase_of_mem ha] at h1
    have := List.length_pos_of_mem ha
    simp only [List.length_cons]; omega
theorem zdL {α : Type} (p : α→Bool) (l : List α) : (l.filter p).length + (l.filter fun x => ! p x).length = l.length := by
  induction l with
  | nil => rfl
  | cons a l ih =>
    simp only [List.filter_cons]
    cases p a <;> simp <;> omega
theorem zbA {α : Type} {p : α→Bool} {l : List α} (h : l.Nodup) : (l.filter p).Nodup := List.Pairwise.filter p h
structure S where
  line : List Nat
  things : List Nat
section
variable (W : Nat → List Nat) (O : Nat → Option Nat)
noncomputable def best (row things : List Nat) : Nat := (row.find? fun x => decide (x∈things)).getD 0
noncomputable def tgt (s : S) (h : Nat) : Nat := best (W h) s.things
noncomputable def pt (s : S) (x : Nat) : Nat := (s.line.find? fun h => decide (O h = some x)).getD (s.line.headD 0)
noncomputable def nxt (s : S) (h : Nat) : Nat := pt O s (tgt W s h)
noncomputable def minus (s : S) (C : List Nat) : S := ⟨s.line.filter fun h => decide (h∉C),s.things.filter fun x => decide (x∉C.map (tgt W s))⟩
noncomputable def it {α : Type} (f : α→α) : Nat→α→α
  | 0,x => x
  | n + 1,x => it f n (f x)
theorem zeg {α : Type} (f : α→α) : ∀ (a b : Nat) (x : α),it f (a + b) x = it f b (it f a x)
  | 0,b,x => by rw [Nat.zero_add]; rfl
  | a + 1,b,x => by rw [Nat.add_right_comm]; exact zeg f a b (f x)
theorem ze4 {α : Type} (f : α→α) (n : Nat) (x : α) : it f (n + 1) x = f (it f n x) := zeg f n 1 x
theorem zlZ {α : Type} (f : α→α) {p : Nat} {x : α} (h : it f p x = x) : ∀ k,it f (p * k) x = x
  | 0 => rfl
  | k + 1 => by rw [Nat.mul_succ,zeg,zlZ f h k,h]
structure Ok (s : S) : Prop where
  nl : s.line.Nodup
  nt : s.things.Nodup
  le : s.line.length≤s.things.length
  row : ∀ h∈s.line,∀ x∈s.things,x∈W h
  inj : ∀ h k x,O h = some x→O k = some x→h = k
  own : ∀ h∈s.line,∀ x,O h = some x→x∈s.things
structure Cyc (s : S) (C : List Nat) : Prop where
  sub : ∀ h∈C,h∈s.line
  cl : ∀ h∈C,nxt W O s h∈C
  per : ∀ h∈C,∃ k,it (nxt W O s) (k + 1) h = h
variable {W O}
theorem zj3 {row things : List Nat} (h : ∃ x∈row,x∈things) : best row things∈things := by
  unfold best
  cases e : row.find? fun x => decide (x∈things) with
  | none =>
    obtain ⟨x,h1,h2⟩ := h
    have := List.find?_eq_none.mp e x h1
    simp [h2] at this
  | some x => have := List.find?_some e; simpa using this
theorem zj2 {row things t' : List Nat} (hs : ∀ x∈t',x∈things) (hb : best row things∈t') (hr : best row things∈row) : best row t' = best row things := by
  unfold best at *
  cases e : row.find? fun x => decide (x∈things) with
  | none =>
    rw [e] at hb hr
    have := List.find?_eq_none.mp e _ hr
    simp only [decide_eq_true_eq] at this
    exact absurd (hs _ hb) this
  | some x =>
    rw [e] at hb
    simp only [Option.getD_some] at hb ⊢
    obtain ⟨hx,as,bs,rfl,h2⟩ := List.find?_eq_some_iff_append.mp e
    rw [List.find?_append]
    have : as.find? (fun y => decide (y∈t')) = none := List.find?_eq_none.mpr fun y hy => by
      have := h2 y hy
      simp only [Bool.not_eq_true',decide_eq_false_iff_not] at this
      simp only [decide_eq_true_eq]
      exact fun z => this (hs y z)
    rw [this]
    simp [List.find?_cons,hb]
theorem znT {row things : List Nat} (h : ∃ x∈row,x∈things) : best row things∈row := by
  unfold best
  cases e : row.find? fun x => decide (x∈things) with
  | none =>
    obtain ⟨x,h1,h2⟩ := h
    have := List.find?_eq_none.mp e x h1
    simp [h2] at this
  | some x => exact List.mem_of_find?_eq_some e
variable {s : S}
theorem Ok.some_thing (k : Ok W O s) {h : Nat} (hh : h∈s.line) : ∃ x∈W h,x∈s.things := by
  have h1 := List.length_pos_of_mem hh
  have h2 : 0 < s.things.length := Nat.lt_of_lt_of_le h1 k.le
  obtain ⟨x,hx⟩ := List.exists_mem_of_length_pos h2
  exact ⟨x,k.row h hh x hx,hx⟩
theorem Ok.tgt_mem (k : Ok W O s) {h : Nat} (hh : h∈s.line) : tgt W s h∈s.things := zj3 (k.some_thing hh)
theorem Ok.tgt_row (k : Ok W O s) {h : Nat} (hh : h∈s.line) : tgt W s h∈W h := znT (k.some_thing hh)
theorem zoe {x : Nat} (h : s.line≠[]) : pt O s x∈s.line := by
  unfold pt
  cases e : s.line.find? fun h => decide (O h = some x) with
  | none =>
    cases q : s.line with
    | nil => exact absurd q h
    | cons a l => simp [List.headD]
  | some y => exact List.mem_of_find?_eq_some e
theorem zod (k : Ok W O s) {h x : Nat} (hh : h∈s.line) (ho : O h = some x) : pt O s x = h := by
  unfold pt
  cases e : s.line.find? fun h => decide (O h = some x) with
  | none =>
    have := List.find?_eq_none.mp e h hh
    simp [ho] at this
  | some y =>
    have := List.find?_some e
    simp only [decide_eq_true_eq] at this
    exact k.inj y h x this ho
theorem zlF {h : Nat} (hl : s.line≠[]) : nxt W O s h∈s.line := zoe hl
theorem Cyc.it_mem {C : List Nat} (c : Cyc W O s C) {h : Nat} (hh : h∈C) : ∀ n,it (nxt W O s) n h∈C := by
  intro n
  induction n generalizing h with
  | zero => exact hh
  | succ n ih => exact ih (c.cl h hh)
theorem zpa {α : Type} {f : α→α} {x y : α} {a b : Nat} (hx : it f (a + 1) x = x) (hy : it f (b + 1) y = y) (e : f x = f y) : x = y := by
  have h1 := zlZ f hx (b + 1)
  have h2 := zlZ f hy (a + 1)
  rw [Nat.mul_comm] at h2
  have h3 : (a + 1) * (b + 1) = 1 + (a * b + a + b) := by
    rw [Nat.add_mul,Nat.mul_add]; omega
  rw [h3,zeg] at h1 h2
  have e1 : it f 1 x = it f 1 y := e
  rw [e1] at h1
  rw [← h1,h2]
theorem Cyc.out {C E : List Nat} (c : Cyc W O s C) (e : Cyc W O s E) {h : Nat} (hc : h∈C) (he : h∉E) : nxt W O s h∉E := by
  intro z
  obtain ⟨k,hk⟩ := c.per h hc
  exact he (by rw [← hk]; exact e.it_mem z k)
theorem zoL {C E : List Nat} (c : Cyc W O s C) (e : Cyc W O s E) {h k : Nat} (hc : h∈C) (he : k∈E) (q : tgt W s h = tgt W s k) : h = k := by
  obtain ⟨a,ha⟩ := c.per h hc
  obtain ⟨b,hb⟩ := e.per k he
  exact zpa ha hb (by unfold nxt; rw [q])
theorem zeA (k : Ok W O s) {C E : List Nat} (c : Cyc W O s C) (e : Cyc W O s E) {h : Nat} (he : h∈E) (hc : h∉C) : tgt W (minus W s C) h = tgt W s h := by
  have hl := e.sub h he
  refine zj2 (fun x hx => (List.mem_filter.mp hx).1) ?_ (k.tgt_row hl)
  refine List.mem_filter.mpr ⟨k.tgt_mem hl,?_⟩
  simp only [decide_eq_true_eq]
  intro z
  obtain ⟨h',h1,h2⟩ := List.mem_map.mp z
  have := zoL c e h1 he h2
  rw [this] at h1
  exact hc h1
theorem ziZ {p : Nat→Bool} : ∀ {l : List Nat} {a : Nat},l.headD 0 = a→l≠[]→p a = true→(l.filter p).headD 0 = a
  | [],_,_,h,_ => absurd rfl h
  | b::l,a,e,_,hp => by
    have : b = a := e
    subst this
    rw [List.filter_cons,if_pos hp]; rfl
theorem zjo (k : Ok W O s) {C E : List Nat} (c : Cyc W O s C) (e : Cyc W O s E) {h : Nat} (he : h∈E) (hc : h∉C) : nxt W O (minus W s C) h = nxt W O s h := by
  unfold nxt
  rw [zeA k c e he hc]
  have hl := e.sub h he
  have hne : s.line≠[] := List.ne_nil_of_mem hl
  have ho : pt O s (tgt W s h)∉C := e.out c he hc
  have hm : pt O s (tgt W s h)∈s.line := zoe hne
  unfold pt at *
  show ((s.line.filter fun h => decide (h∉C)).find? _).getD ((s.line.filter fun h => decide (h∉C)).headD 0) = _
  cases q : s.line.find? fun k => decide (O k = some (tgt W s h)) with
  | none =>
    rw [q] at ho
    simp only [Option.getD_none] at ho ⊢
    have : (s.line.filter fun h => decide (h∉C)).find? (fun k => decide (O k = some (tgt W s h))) = none := List.find?_eq_none.mpr fun y hy => List.find?_eq_none.mp q y (List.mem_filter.mp hy).1
    rw [this]
    exact ziZ rfl hne (by simpa using ho)
  | some y =>
    rw [q] at ho
    simp only [Option.getD_some] at ho ⊢
    have hy := List.find?_some q
    simp only [decide_eq_true_eq] at hy
    have hyl := List.mem_of_find?_eq_some q
    cases q2 : (s.line.filter fun h => decide (h∉C)).find? (fun k => decide (O k = some (tgt W s h))) with
    | none =>
      have := List.find?_eq_none.mp q2 y (List.mem_filter.mpr ⟨hyl,by simpa using ho⟩)
      simp [hy] at this
    | some z =>
      have hz := List.find?_some q2
      simp only [decide_eq_true_eq] at hz
      exact k.inj z y _ hz hy
theorem zjI (k : Ok W O s) {C : List Nat} (c : Cyc W O s C) : Ok W O (minus W s C) where
  nl := zbA k.nl
  nt := zbA k.nt
  le := by
    have h1 := zdL (fun h => decide (h∉C)) s.line
    have h2 := zdL (fun x => decide (x∉C.map (tgt W s))) s.things
    have h3 : (s.things.filter fun x => ! decide (x∉C.map (tgt W s))).length≤((s.line.filter fun h => ! decide (h∉C)).map (tgt W s)).length := by
      refine zcb (zbA k.nt) fun x hx => ?_
      obtain ⟨_,hx⟩ := List.mem_filter.mp hx
      simp only [decide_not,Bool.not_not,decide_eq_true_eq] at hx
      obtain ⟨h,h1,h2⟩ := List.mem_map.mp hx
      exact List.mem_map.mpr ⟨h,List.mem_filter.mpr ⟨c.sub h h1,by simpa using h1⟩,h2⟩
    rw [List.length_map] at h3
    have := k.le
    show (s.line.filter _).length≤(s.things.filter _).length
    omega
  row := fun h hh x hx => k.row h (List.mem_filter.mp hh).1 x (List.mem_filter.mp hx).1
  inj := k.inj
  own := fun h hh x hx => by
    obtain ⟨h1,h2⟩ := List.mem_filter.mp hh
    simp only [decide_eq_true_eq] at h2
    refine List.mem_filter.mpr ⟨k.own h h1 x hx,?_⟩
    simp only [decide_eq_true_eq]
    intro z
    obtain ⟨b,b1,b2⟩ := List.mem_map.mp z
    have := c.cl b b1
    unfold nxt at this
    rw [b2,zod k h1 hx] at this
    exact h2 this
noncomputable def less (E C : List Nat) : List Nat := E.filter fun h => decide (h∉C)
theorem zbH {E C : List Nat} {h : Nat} : h∈less E C↔h∈E∧h∉C := by simp [less,List.mem_filter]
theorem zjM (k : Ok W O s) {C E : List Nat} (c : Cyc W O s C) (e : Cyc W O s E) : Cyc W O (minus W s C) (less E C) := by
  have stay : ∀ n h,h∈less E C→it (nxt W O (minus W s C)) n h = it (nxt W O s) n h := by
    intro n
    induction n with
    | zero => intro h _; rfl
    | succ n ih =>
      intro h hh
      obtain ⟨h1,h2⟩ := zbH.mp hh
      show it _ n (nxt W O (minus W s C) h) = it _ n (nxt W O s h)
      rw [zjo k c e h1 h2]
      exact ih _ (zbH.mpr ⟨e.cl h h1,e.out c h1 h2⟩)
  refine ⟨fun h hh => ?_,fun h hh => ?_,fun h hh => ?_⟩
  · obtain ⟨h1,h2⟩ := zbH.mp hh
    exact List.mem_filter.mpr ⟨e.sub h h1,by simpa using h2⟩
  · obtain ⟨h1,h2⟩ := zbH.mp hh
    rw [zjo k c e h1 h2]
    exact zbH.mpr ⟨e.cl h h1,e.out c h1 h2⟩
  · obtain ⟨h1,h2⟩ := zbH.mp hh
    obtain ⟨n,hn⟩ := e.per h h1
    exact ⟨n,by rw [stay _ _ hh]; exact hn⟩
theorem zc5 {p q : Nat→Bool} {l : List Nat} (h : ∀ x∈l,p x = q x) : l.filter p = l.filter q := by
  induction l with
  | nil => rfl
  | cons a l ih =>
    rw [List.filter_cons,List.filter_cons,h a List.mem_cons_self,ih fun x hx => h x (List.mem_cons_of_mem _ hx)]
theorem zf8 (k : Ok W O s) {C E : List Nat} (c : Cyc W O s C) (e : Cyc W O s E) : minus W (minus W s C) (less E C) = minus W s (C++E) := by
  have h1 : (minus W (minus W s C) (less E C)).line = (minus W s (C++E)).line := by
    show ((s.line.filter _).filter _) = s.line.filter _
    rw [List.filter_filter]
    refine zc5 fun x _ => ?_
    by_cases hc : x∈C <;> by_cases he : x∈E <;> simp [zbH,hc,he]
  have h2 : (minus W (minus W s C) (less E C)).things = (minus W s (C++E)).things := by
    show ((s.things.filter _).filter _) = s.things.filter _
    rw [List.filter_filter]
    refine zc5 fun x _ => ?_
    have key : x∈(less E C).map (tgt W (minus W s C))↔∃ h,h∈E∧h∉C∧tgt W s h = x := by
      rw [List.mem_map]
      constructor
      · rintro ⟨h,hh,q⟩
        obtain ⟨a,b⟩ := zbH.mp hh
        exact ⟨h,a,b,by rw [← q,zeA k c e a b]⟩
      · rintro ⟨h,a,b,q⟩
        exact ⟨h,zbH.mpr ⟨a,b⟩,by rw [zeA k c e a b]; exact q⟩
    have key2 : x∈(C++E).map (tgt W s)↔x∈C.map (tgt W s)∨x∈(less E C).map (tgt W (minus W s C)) := by
      rw [key,List.map_append,List.mem_append]
      constructor
      · rintro (z | z)
        · exact .inl z
        · obtain ⟨h,a,b⟩ := List.mem_map.mp z
          by_cases hc : h∈C
          · exact .inl (List.mem_map.mpr ⟨h,hc,b⟩)
          · exact .inr ⟨h,a,hc,b⟩
      · rintro (z | ⟨h,a,_,b⟩)
        · exact .inl z
        · exact .inr (List.mem_map.mpr ⟨h,a,b⟩)
    rw [Bool.eq_iff_iff]
    simp only [Bool.and_eq_true,decide_eq_true_eq]
    rw [key2]
    constructor
    · rintro ⟨a,b⟩ (z | z)
      · exact b z
      · exact a z
    · intro z
      exact ⟨fun q => z (.inr q),fun q => z (.inl q)⟩
  cases e1 : minus W (minus W s C) (less E C)
  cases e2 : minus W s (C++E)
  rw [e1,e2] at h1 h2
  simp only at h1 h2
  rw [h1,h2]
theorem zks (k : Ok W O s) {C E : List Nat} (c : Cyc W O s C) (e : Cyc W O s E) : minus W (minus W s C) (less E C) = minus W (minus W s E) (less C E) := by
  rw [zf8 k c e,zf8 k e c]
  unfold minus
  congr 1
  · exact zc5 fun x _ => by rw [Bool.eq_iff_iff]; simp [and_comm]
  · refine zc5 fun x _ => ?_
    rw [Bool.eq_iff_iff]
    simp only [decide_eq_true_eq,List.map_append,List.mem_append]
    constructor <;> intro z q <;> exact z q.symm
inductive TTC (W : Nat→List Nat) (O : Nat→Option Nat) (a : Nat→Nat) : S→Prop where
  | nil {s : S} : s.line = []→TTC W O a s
  | step {s : S} (C : List Nat) : Cyc W O s C→(∀ h∈C,a h = tgt W s h)→TTC W O a (minus W s C)→TTC W O a s
theorem zjk {a : Nat→Nat} (t : TTC W O a s) : ∀ (k : Ok W O s) {E : List Nat},Cyc W O s E→TTC W O a (minus W s E)∧∀ h∈E,a h = tgt W s h := by
  induction t with
  | nil h0 =>
    intro k E e
    refine ⟨.nil (by unfold minus; rw [h0]; rfl),fun h hh => ?_⟩
    have := e.sub h hh
    rw [h0] at this; cases this
  | step C c ha t ih =>
    intro k E e
    obtain ⟨h1,h2⟩ := ih (zjI k c) (zjM k c e)
    refine ⟨.step (less C E) (zjM k e c) (fun h hh => ?_) (by rw [← zks k c e]; exact h1),fun h hh => ?_⟩
    · obtain ⟨z1,z2⟩ := zbH.mp hh
      rw [zeA k e c z1 z2]
      exact ha h z1
    · by_cases hc : h∈C
      · exact ha h hc
      · rw [h2 h (zbH.mpr ⟨hh,hc⟩),zeA k c e hh hc]
theorem zgF {a b : Nat→Nat} (t : TTC W O a s) (k : Ok W O s) (u : TTC W O b s) : ∀ h∈s.line,a h = b h := by
  induction t with
  | nil h0 => intro h hh; rw [h0] at hh; cases hh
  | step C c ha t ih =>
    intro h hh
    obtain ⟨h1,h2⟩ := zjk u k c
    by_cases hc : h∈C
    · rw [ha h hc,h2 h hc]
    · exact ih (zjI k c) h1 h (List.mem_filter.mpr ⟨hh,by simpa using hc⟩)
end
end Rg
end
section
namespace Rg
section
variable {W : Nat → List Nat} {O : Nat → Option Nat} {s : S} {a : Nat → Nat}
theorem zlp {f : Nat→Nat} {l : List Nat} (hcl : ∀ h∈l,f h∈l) {x : Nat} (hx : x∈l) : ∃ i j,i < j∧j≤l.length∧it f i x = it f j x := by
  have mem : ∀ i,it f i x∈l := by
    intro i
    induction i with
    | zero => exact hx
    | succ i ih => rw [ze4]; exact hcl _ ih
  by_cases hn : ((List.range (l.length + 1)).map fun i => it f i x).Nodup
  · have := zcb hn (m := l) fun y hy => by
      obtain ⟨i,_,rfl⟩ := List.mem_map.mp hy
      exact mem i
    simp at this
    omega
  · apply Classical.byContradiction
    intro h
    apply hn
    rw [List.nodup_iff_pairwise_ne] at *
    rw [List.pairwise_map]
    refine List.Pairwise.imp_of_mem (R := fun i j => i < j) (fun hi hj hij e => ?_) List.pairwise_lt_range
    exact h ⟨_,_,hij,by have := List.mem_range.mp hj; omega,e⟩
theorem znA {P : Nat→Prop} : (∃ n,P n)→∃ n,P n∧∀ k,k < n→¬ P k := by
  rintro ⟨n,hn⟩
  induction n using Nat.strongRecOn with
  | _ n ih =>
    by_cases h : ∃ k,k < n∧P k
    · obtain ⟨k,h1,h2⟩ := h; exact ih k h1 h2
    · exact ⟨n,hn,fun k hk hp => h ⟨k,hk,hp⟩⟩
theorem zl0 {α : Type} (f : α→α) (a b : Nat) (x : α) : it f a (it f b x) = it f b (it f a x) := by
  rw [← zeg,← zeg,Nat.add_comm]
theorem zkx {f : Nat→Nat} {l : List Nat} (hcl : ∀ h∈l,f h∈l) (hne : l≠[]) : ∃ z p,z∈l∧0 < p∧p≤l.length∧it f p z = z∧∀ i,0 < i→i < p→z < it f i z := by
  have mem : ∀ x∈l,∀ i,it f i x∈l := by
    intro x hx i
    induction i with
    | zero => exact hx
    | succ i ih => rw [ze4]; exact hcl _ ih
  obtain ⟨x,hx⟩ := List.exists_mem_of_ne_nil l hne
  obtain ⟨i,j,hij,_,e⟩ := zlp hcl hx
  obtain ⟨z,⟨hz,k,hk⟩,hmin⟩ := znA (P := fun z => z∈l∧∃ k,it f (k + 1) z = z) ⟨it f i x,mem x hx i,j - i - 1,by
    rw [← zeg,show i + (j - i - 1 + 1) = j by omega]; exact e.symm⟩
  obtain ⟨p,hp,hpm⟩ := znA (P := fun p => it f (p + 1) z = z) ⟨k,hk⟩
  have ge : ∀ i,z≤it f i z := fun i => by
    have := hmin (it f i z)
    apply Classical.byContradiction
    intro h
    exact this (by omega) ⟨mem z hz i,p,by rw [zl0,hp]⟩
  have ne : ∀ i,0 < i→i < p + 1→it f i z≠z := fun i h1 h2 q => hpm (i - 1) (by omega) (by rw [show i - 1 + 1 = i by omega]; exact q)
  refine ⟨z,p + 1,hz,Nat.succ_pos _,?_,hp,fun i h1 h2 => by have := ge i; have := ne i h1 h2; omega⟩
  obtain ⟨i,j,hij,hj,e⟩ := zlp hcl hz
  apply Classical.byContradiction
  intro h
  have : it f (p + 1 - j + i) z = z := by
    have h1 : it f (p + 1 - j) (it f j z) = z := by rw [← zeg,show j + (p + 1 - j) = p + 1 by omega]; exact hp
    rw [← e,← zeg] at h1
    rw [Nat.add_comm]; exact h1
  exact ne _ (by omega) (by omega) this
noncomputable def zhN (f : Nat→Nat) (n first : Nat) : Nat→List Nat→Nat→Option (List Nat)
  | 0,_,_ => none
  | k + 1,ring,hand => if first < hand∧ring.length < n then zhN f n first k (ring++[hand]) (f hand) else if hand = first then some ring else none
noncomputable def zjy (f : Nat→Nat) (n first : Nat) : Option (List Nat) := zhN f n first (n + 1) [first] (f first)
noncomputable def orb (f : Nat→Nat) (x n : Nat) : List Nat := (List.range n).map fun i => it f i x
theorem zjF (f : Nat→Nat) (x n : Nat) : orb f x (n + 1) = orb f x n++[it f n x] := by
  unfold orb; rw [List.range_succ,List.map_append]; rfl
theorem zlz (f : Nat→Nat) (x n : Nat) : (orb f x n).length = n := by simp [orb]
theorem zkh {f : Nat→Nat} {n first : Nat} : ∀ {k i : Nat} {r : List Nat},zhN f n first k (orb f first i) (it f i first) = some r→∃ j,i≤j∧r = orb f first j∧it f j first = first := by
  intro k
  induction k with
  | zero => intro i r h; cases h
  | succ k ih =>
    intro i r h
    unfold zhN at h
    split at h
    · rw [← zjF,← ze4 f] at h
      obtain ⟨j,h1,h2⟩ := ih h
      exact ⟨j,by omega,h2⟩
    · split at h
      · rename_i e
        cases h
        exact ⟨i,Nat.le_refl _,rfl,e⟩
      · cases h
theorem zf2 {f : Nat→Nat} {n first : Nat} {r : List Nat} (h : zjy f n first = some r) : ∃ j,0 < j∧r = orb f first j∧it f j first = first := by
  have h' : zhN f n first (n + 1) (orb f first 1) (it f 1 first) = some r := h
  obtain ⟨j,h1,h2⟩ := zkh h'
  exact ⟨j,by omega,h2⟩
theorem ziL {f : Nat→Nat} {n z p : Nat} (hp : p≤n) (he : it f p z = z) (hg : ∀ i,0 < i→i < p→z < it f i z) : ∀ {k i : Nat},0 < i→i≤p→p < k + i→zhN f n z k (orb f z i) (it f i z) = some (orb f z p) := by
  intro k
  induction k with
  | zero => intro i h1 h2 h3; omega
  | succ k ih =>
    intro i h1 h2 h3
    unfold zhN
    by_cases hi : i = p
    · subst hi
      rw [if_neg (by rw [he]; omega),if_pos he]
    · rw [if_pos ⟨hg i h1 (by omega),by rw [zlz]; omega⟩,← zjF,← ze4 f]
      exact ih (by omega) (by omega) (by omega)
theorem zhX {f : Nat→Nat} {n z p : Nat} (h0 : 0 < p) (hp : p≤n) (he : it f p z = z) (hg : ∀ i,0 < i→i < p→z < it f i z) : zjy f n z = some (orb f z p) := by
  show zhN f n z (n + 1) (orb f z 1) (it f 1 z) = _
  exact ziL hp he hg (by omega) h0 (by omega)
noncomputable def zf1 (W : Nat→List Nat) (O : Nat→Option Nat) (s : S) : List (List Nat) := s.line.filterMap fun h => zjy (nxt W O s) s.line.length h
theorem zld {C : List Nat} (hC : ∀ h,h∈C→∃ r∈zf1 W O s,h∈r) (hC' : ∀ r∈zf1 W O s,∀ h∈r,h∈C) : Cyc W O s C := by
  have one : ∀ r∈zf1 W O s,∃ x j,x∈s.line∧0 < j∧r = orb (nxt W O s) x j∧it (nxt W O s) j x = x := fun r hr => by
    obtain ⟨x,h1,h2⟩ := List.mem_filterMap.mp hr
    obtain ⟨j,h3,h4,h5⟩ := zf2 h2
    exact ⟨x,j,h1,h3,h4,h5⟩
  have hm : ∀ x∈s.line,∀ i,it (nxt W O s) i x∈s.line := by
    intro x hx i
    induction i with
    | zero => exact hx
    | succ i ih => rw [ze4]; exact zlF (List.ne_nil_of_mem hx)
  refine ⟨fun h hh => ?_,fun h hh => ?_,fun h hh => ?_⟩
  · obtain ⟨r,hr,h1⟩ := hC h hh
    obtain ⟨x,j,hx,hj,rfl,he⟩ := one r hr
    obtain ⟨i,_,rfl⟩ := List.mem_map.mp h1
    exact hm x hx i
  · obtain ⟨r,hr,h1⟩ := hC h hh
    obtain ⟨x,j,hx,hj,rfl,he⟩ := one r hr
    obtain ⟨i,hi,rfl⟩ := List.mem_map.mp h1
    have hi := List.mem_range.mp hi
    refine hC' _ hr _ ?_
    rw [← ze4 (nxt W O s)]
    by_cases q : i + 1 = j
    · rw [q,he]; exact List.mem_map.mpr ⟨0,List.mem_range.mpr hj,rfl⟩
    · exact List.mem_map.mpr ⟨i + 1,List.mem_range.mpr (by omega),rfl⟩
  · obtain ⟨r,hr,h1⟩ := hC h hh
    obtain ⟨x,j,hx,hj,rfl,he⟩ := one r hr
    obtain ⟨i,hi,rfl⟩ := List.mem_map.mp h1
    exact ⟨j - 1,by rw [show j - 1 + 1 = j by omega,zl0,he]⟩
theorem zkn (hne : s.line≠[]) : zf1 W O s≠[] := by
  obtain ⟨z,p,h1,h2,h3,h4,h5⟩ := zkx (f := nxt W O s) (l := s.line) (fun h hh => zlF hne) hne
  exact List.ne_nil_of_mem (List.mem_filterMap.mpr ⟨z,h1,zhX h2 h3 h4 h5⟩)
noncomputable def gone (W : Nat→List Nat) (O : Nat→Option Nat) (s : S) : List Nat := (zf1 W O s).flatten
theorem zjT : Cyc W O s (gone W O s) := zld (fun h hh => List.mem_flatten.mp hh) (fun r hr h hh => List.mem_flatten.mpr ⟨r,hr,hh⟩)
theorem zlf {f : Nat→Nat} {n x : Nat} {r : List Nat} (h : zjy f n x = some r) : r≠[] := by
  obtain ⟨j,h1,rfl,_⟩ := zf2 h
  intro z
  have := zlz f x j
  rw [z] at this
  simp at this; omega
theorem zl8 (hne : s.line≠[]) : gone W O s≠[] := by
  have h := zkn (W := W) (O := O) hne
  cases q : zf1 W O s with
  | nil => exact absurd q h
  | cons r t =>
    have hr : r∈zf1 W O s := by rw [q]; exact List.mem_cons_self
    obtain ⟨x,_,h2⟩ := List.mem_filterMap.mp hr
    unfold gone
    rw [q,List.flatten_cons]
    intro z
    exact zlf h2 (List.append_eq_nil_iff.mp z).1
theorem zl9 (hne : s.line≠[]) : (minus W s (gone W O s)).line.length < s.line.length := by
  have h := zl8 (W := W) (O := O) hne
  obtain ⟨x,hx⟩ := List.exists_mem_of_ne_nil _ h
  have hx2 := (zjT (W := W) (O := O) (s := s)).sub x hx
  have := zdL (fun h => decide (h∉gone W O s)) s.line
  have h3 : 0 < (s.line.filter fun h => ! decide (h∉gone W O s)).length := List.length_pos_of_mem (List.mem_filter.mpr ⟨hx2,by simpa using hx⟩)
  show (s.line.filter _).length < _
  omega
noncomputable def deal (W : Nat→List Nat) (O : Nat→Option Nat) : Nat→S→Nat→Nat
  | 0,_,_ => 0
  | n + 1,s,h => if h∈gone W O s then tgt W s h else deal W O n (minus W s (gone W O s)) h
theorem zkV {b : Nat→Nat} (t : TTC W O a s) : (∀ h∈s.line,b h = a h)→TTC W O b s := by
  induction t with
  | nil h0 => exact fun _ => .nil h0
  | @step s C c ha t ih => exact fun e => .step C c (fun h hh => by rw [e h (c.sub h hh)]; exact ha h hh) (ih fun h hh => e h (List.mem_filter.mp hh).1)
theorem zsi : ∀ (n : Nat) (s : S),s.line.length < n→TTC W O (deal W O n s) s := by
  intro n
  induction n with
  | zero => intro s h; omega
  | succ n ih =>
    intro s h
    by_cases hl : s.line = []
    · exact .nil hl
    · have hlt := zl9 (W := W) (O := O) hl
      refine .step (gone W O s) zjT (fun h hh => ?_) (zkV (ih _ (by omega)) fun h hh => ?_)
      · show (if h∈gone W O s then _ else _) = _
        rw [if_pos hh]
      · have := (List.mem_filter.mp hh).2
        simp only [decide_eq_true_eq] at this
        show (if h∈gone W O s then _ else _) = _
        rw [if_neg this]
end
end Rg
end
section
namespace Rg
section
variable {W W' : Nat → List Nat} {O : Nat → Option Nat} {s : S} {a b : Nat → Nat}
end
end Rg
end
section
namespace Rg
section
variable (W : Nat → List Nat) (d : Nat → Nat)
noncomputable def Ser : List Nat→List Nat→Prop
  | [],_ => True
  | h::l,T => best (W h) T = d h∧Ser l (T.erase (d h))
noncomputable def serD : List Nat→List Nat→Nat→Nat
  | [],_ => fun _ => 0
  | h::l,T => fun x => if x = h then best (W h) T else serD l (T.erase (best (W h) T)) x
variable {W d}
theorem zfX {d' : Nat→Nat} : ∀ {o T : List Nat},(∀ x∈o,d x = d' x)→Ser W d o T→Ser W d' o T
  | [],_,_,_ => trivial
  | h::l,T,e,s => by
    have e1 := e h List.mem_cons_self
    exact ⟨by rw [← e1]; exact s.1,by rw [← e1]; exact zfX (fun x hx => e x (List.mem_cons_of_mem _ hx)) s.2⟩
theorem zhG : ∀ (o T : List Nat),o.Nodup→Ser W (serD W o T) o T
  | [],_,_ => trivial
  | h::l,T,hn => by
    have hn' := List.nodup_cons.mp hn
    have e : serD W (h::l) T h = best (W h) T := by simp [serD]
    refine ⟨e.symm,?_⟩
    rw [e]
    refine zfX (fun x hx => ?_) (zhG l _ hn'.2)
    have : x≠h := by rintro rfl; exact hn'.1 hx
    simp [serD,this]
theorem zfW : ∀ {o T : List Nat},Ser W d o T→T.Nodup→o.length≤T.length→(∀ h∈o,∀ x∈T,x∈W h)→(∀ h∈o,d h∈T)∧∀ h∈o,∀ l∈o,o.Nodup→d h = d l→h = l
  | [],_,_,_,_,_ => ⟨fun _ h => (nomatch h),fun _ h => (nomatch h)⟩
  | a::o,T,s,hT,hl,hr => by
    have hp : 0 < T.length := by simp at hl; omega
    have hx : T[0]∈T := List.getElem_mem _
    have hb : d a∈T := by
      rw [← s.1]
      exact zj3 ⟨T[0],hr a List.mem_cons_self _ hx,hx⟩
    have hlen : (T.erase (d a)).length = T.length - 1 := List.length_erase_of_mem hb
    obtain ⟨h1,h2⟩ := zfW s.2 (hT.erase _) (by rw [hlen]; simp at hl; omega) fun h hh x hx => hr h (List.mem_cons_of_mem _ hh) x (List.mem_of_mem_erase hx)
    have h3 : ∀ h∈o,d h≠d a := fun h hh e => by
      have := h1 h hh
      rw [e] at this
      exact (List.Nodup.mem_erase_iff hT).mp this |>.1 rfl
    refine ⟨fun h hh => ?_,fun h hh l hl' hn e => ?_⟩
    · rcases List.mem_cons.mp hh with rfl | hh
      · exact hb
      · exact List.mem_of_mem_erase (h1 h hh)
    · have hn' := List.nodup_cons.mp hn
      rcases List.mem_cons.mp hh with z | hh'
      · rcases List.mem_cons.mp hl' with z' | hl''
        · exact z.trans z'.symm
        · subst z; exact absurd e.symm (h3 l hl'')
      · rcases List.mem_cons.mp hl' with z' | hl''
        · subst z'; exact absurd e (h3 h hh')
        · exact h2 h hh' l hl'' hn'.2 e
end
end Rg
end
section
namespace Fq
theorem zjU (a : Int) (b : Nat) : Int.gcd a b = Int.gcd b (a % (b : Int)) := by
  refine Nat.dvd_antisymm (Int.dvd_gcd (Int.gcd_dvd_right _ _) ?_) (Int.dvd_gcd ?_ (Int.gcd_dvd_left _ _))
  · rw [Int.emod_def]
    exact Int.dvd_sub (Int.gcd_dvd_left _ _) (Int.dvd_trans (Int.gcd_dvd_right a b) (Int.dvd_mul_right _ _))
  · have h := Int.mul_ediv_add_emod a b
    rw [← h]
    exact Int.dvd_add (Int.dvd_trans (Int.gcd_dvd_left (b : Int) _) (Int.dvd_mul_right _ _)) (by rw [h]; exact Int.gcd_dvd_right _ _)
theorem zhp (t : Int) {b : Nat} (h : 0 < b) : 0 < Int.gcd t b := Nat.pos_of_ne_zero fun z => by
  have := Int.gcd_eq_zero_iff.mp z
  omega
noncomputable def low (t : Int) (b : Nat) : Int × Nat := (t / (Int.gcd t b : Int),b / Int.gcd t b)
noncomputable def zlo (a b : Int × Nat) : Int × Nat := low (a.1 * b.2 + b.1 * a.2) (a.2 * b.2)
noncomputable def Same (a b : Int × Nat) : Prop := a.1 * (b.2 : Int) = b.1 * (a.2 : Int)
theorem zlO (t : Int) {b : Nat} (h : 0 < b) : Int.gcd (low t b).1 ((low t b).2 : Nat) = 1 := by
  have := Int.gcd_ediv_gcd_ediv_gcd (zhp t h)
  unfold low
  rw [Int.natCast_ediv]
  exact this
theorem ziX (t : Int) {b : Nat} (h : 0 < b) : 0 < (low t b).2 := by
  have h1 : Int.gcd t b ∣ b := Int.natCast_dvd_natCast.mp (Int.gcd_dvd_right t b)
  exact Nat.div_pos (Nat.le_of_dvd h h1) (zhp t h)
theorem zrr (t : Int) (b : Nat) : (low t b).2≤b := Nat.div_le_self _ _
theorem zpy (t : Int) (b : Nat) : (low t b).1.natAbs≤t.natAbs := Int.natAbs_ediv_le_natAbs _ _
theorem zjK (t : Int) (b : Nat) : Same (low t b) (t,b) := by
  unfold Same low
  have h1 : (Int.gcd t b : Int) ∣ t := Int.gcd_dvd_left t b
  have h2 : (Int.gcd t b : Int) ∣ (b : Int) := Int.gcd_dvd_right t b
  obtain ⟨x,hx⟩ := h1
  obtain ⟨y,hy⟩ := h2
  generalize hg : (Int.gcd t b : Int) = g at hx hy
  show t / g * (b : Int) = t * ((b / Int.gcd t b : Nat) : Int)
  rw [Int.natCast_ediv,hg]
  by_cases z : g = 0
  · subst z
    rw [Int.zero_mul] at hx hy
    rw [hx,hy]; simp
  · rw [hx,hy,Int.mul_ediv_cancel_left _ z,Int.mul_ediv_cancel_left _ z]
    rw [← Int.mul_assoc,Int.mul_comm x g]
structure Bd (k : Nat) (a : Int × Nat) : Prop where
  pos : 0 < a.2
  bot : a.2 < 2 ^ k
  top : a.1.natAbs < 2 ^ k
theorem Bd.mono {k l : Nat} {a : Int × Nat} (h : Bd k a) (hl : k≤l) : Bd l a :=
  ⟨h.pos,Nat.lt_of_lt_of_le h.bot (Nat.pow_le_pow_right (by omega) hl),Nat.lt_of_lt_of_le h.top (Nat.pow_le_pow_right (by omega) hl)⟩
theorem Bd.low {k : Nat} {t : Int} {b : Nat} (h : 0 < b) (h1 : b < 2 ^ k) (h2 : t.natAbs < 2 ^ k) : Bd k (low t b) :=
  ⟨ziX t h,Nat.lt_of_le_of_lt (zrr t b) h1,Nat.lt_of_le_of_lt (zpy t b) h2⟩
theorem ze2 {a b k l : Nat} (h1 : a < 2 ^ k) (h2 : b < 2 ^ l) : a * b < 2 ^ (k + l) := by
  rw [Nat.pow_add]
  exact Nat.mul_lt_mul'' h1 h2
theorem zhj {k l : Nat} {a b : Int × Nat} (ha : Bd k a) (hb : Bd l b) : 0 < a.2 * b.2∧a.2 * b.2 < 2 ^ (k + l) := ⟨Nat.mul_pos ha.pos hb.pos,ze2 ha.bot hb.bot⟩
theorem zng {k l : Nat} {a b : Int × Nat} (ha : Bd k a) (hb : Bd l b) : (a.1 * b.2 + b.1 * a.2).natAbs < 2 ^ (k + l + 1) := by
  have h1 : (a.1 * (b.2 : Int)).natAbs < 2 ^ (k + l) := by rw [Int.natAbs_mul,Int.natAbs_natCast]; exact ze2 ha.top hb.bot
  have h2 : (b.1 * (a.2 : Int)).natAbs < 2 ^ (k + l) := by rw [Int.natAbs_mul,Int.natAbs_natCast,Nat.add_comm k l]; exact ze2 hb.top ha.bot
  have h3 := Int.natAbs_add_le (a.1 * (b.2 : Int)) (b.1 * (a.2 : Int))
  rw [Nat.pow_succ]
  omega
theorem Bd.plus {k l : Nat} {a b : Int × Nat} (ha : Bd k a) (hb : Bd l b) : Bd (k + l + 1) (zlo a b) := by
  obtain ⟨h1,h2⟩ := zhj ha hb
  exact Bd.low h1 (Nat.lt_of_lt_of_le h2 (Nat.pow_le_pow_right (by omega) (by omega))) (zng ha hb)
noncomputable def zsS (a b : Int × Nat) : Bool := decide (a.1 * (b.2 : Int) < b.1 * (a.2 : Int))
end Fq
end
section
namespace Rg
theorem zja {α : Type} (f : α→Nat) (os : List α) : ∀ P : List Nat,P.Nodup→(P.map fun t => os.countP fun o => decide (f o = t)).sum = os.countP fun o => decide (f o∈P)
  | [],_ => by simp
  | t::P,hn => by
    have hn' := List.nodup_cons.mp hn
    rw [List.map_cons,List.sum_cons,zja f os P hn'.2]
    clear hn
    induction os with
    | nil => rfl
    | cons o os ih =>
      rw [List.countP_cons,List.countP_cons,List.countP_cons,← ih]
      by_cases h1 : f o = t
      · have h2 : f o∉P := by rw [h1]; exact hn'.1
        simp [h1,hn'.1]; omega
      · by_cases h2 : f o∈P
        · simp [h1,h2]; omega
        · simp [h1,h2]
end Rg
namespace Fq
noncomputable def W (N : Nat) (a : Int × Nat) (S : Nat) : Prop := 0 < a.2∧a.1 * (N : Int) = (S : Int) * (a.2 : Int)
theorem W.low {N c : Nat} (hN : 0 < N) : W N (low c N) c := by
  have := zjK (c : Int) N
  exact ⟨ziX _ hN,this⟩
theorem W.plus {N S c : Nat} {a b : Int × Nat} (ha : W N a S) (hb : W N b c) : W N (zlo a b) (S + c) := by
  have hp : 0 < a.2 * b.2 := Nat.mul_pos ha.1 hb.1
  refine ⟨ziX _ hp,?_⟩
  have h := zjK (a.1 * (b.2 : Int) + b.1 * (a.2 : Int)) (a.2 * b.2)
  unfold Same at h
  unfold zlo
  generalize Fq.low (a.1 * (b.2 : Int) + b.1 * (a.2 : Int)) (a.2 * b.2) = p at h ⊢
  have h1 := ha.2
  have h2 := hb.2
  have hq : ((a.2 * b.2 : Nat) : Int)≠0 := by omega
  refine Int.eq_of_mul_eq_mul_right hq ?_
  have e1 : p.1 * (N : Int) * ((a.2 * b.2 : Nat) : Int) = (p.1 * ((a.2 * b.2 : Nat) : Int)) * (N : Int) := by
    rw [Int.mul_assoc,Int.mul_comm (N : Int),← Int.mul_assoc]
  rw [e1,h]
  show (a.1 * (b.2 : Int) + b.1 * (a.2 : Int)) * (p.2 : Int) * (N : Int) = (((S + c : Nat) : Int)) * (p.2 : Int) * ((a.2 * b.2 : Nat) : Int)
  have e2 : (a.1 * (b.2 : Int) + b.1 * (a.2 : Int)) * (p.2 : Int) * (N : Int) = ((a.1 * (N : Int)) * (b.2 : Int) + (b.1 * (N : Int)) * (a.2 : Int)) * (p.2 : Int) := by
    rw [Int.add_mul,Int.add_mul,Int.add_mul]
    congr 1
    · simp only [Int.mul_assoc,Int.mul_comm,Int.mul_left_comm]
    · simp only [Int.mul_assoc,Int.mul_comm,Int.mul_left_comm]
  rw [e2,h1,h2,Int.natCast_add,Int.natCast_mul]
  simp only [Int.add_mul]
  congr 1 <;> simp only [Int.mul_assoc,Int.mul_comm,Int.mul_left_comm]
theorem W.ge {N S S' : Nat} {a b : Int × Nat} (hN : 0 < N) (ha : W N a S) (hb : W N b S') (h : S'≤S) : zsS a b = false := by
  refine decide_eq_false fun hlt => ?_
  have h1 := Int.mul_lt_mul_of_pos_right hlt (show (0 : Int) < (N : Int) by omega)
  have e1 : a.1 * (b.2 : Int) * (N : Int) = (S : Int) * ((a.2 : Int) * (b.2 : Int)) := by
    rw [Int.mul_assoc,Int.mul_comm (b.2 : Int),← Int.mul_assoc,ha.2,Int.mul_assoc]
  have e2 : b.1 * (a.2 : Int) * (N : Int) = (S' : Int) * ((a.2 : Int) * (b.2 : Int)) := by
    rw [Int.mul_assoc,Int.mul_comm (a.2 : Int),← Int.mul_assoc,hb.2,Int.mul_assoc,Int.mul_comm (b.2 : Int)]
  rw [e1,e2] at h1
  have hp : (0 : Int)≤(a.2 : Int) * (b.2 : Int) := by
    rw [← Int.natCast_mul]; exact Int.natCast_nonneg _
  have := Int.lt_of_mul_lt_mul_right h1 hp
  omega
end Fq
end
section
namespace Rg
theorem zhu {row T T' : List Nat} (h : ∀ x,x∈T↔x∈T') : best row T = best row T' := by
  unfold best
  rw [show (fun x => decide (x∈T)) = fun x => decide (x∈T') from funext fun x => decide_eq_decide.mpr (h x)]
theorem zbT : ∀ {l m : List Nat},l.Nodup→(∀ x∈l,x∈m)→m.length≤l.length→l.Perm m
  | [],m,_,_,hl => by
    have : m = [] := List.eq_nil_of_length_eq_zero (by simpa using hl)
    rw [this]
  | a::l,m,hn,hs,hl => by
    have hn' := List.nodup_cons.mp hn
    have ha := hs a List.mem_cons_self
    refine List.Perm.trans ?_ (List.perm_cons_erase ha).symm
    refine List.Perm.cons a (zbT hn'.2 (fun x hx => ?_) ?_)
    · have : x≠a := by rintro rfl; exact hn'.1 hx
      exact (List.mem_erase_of_ne this).mpr (hs x (List.mem_cons_of_mem _ hx))
    · rw [List.length_erase_of_mem ha]; simp at hl; omega
theorem zcr {f : Nat→Nat} : ∀ {l : List Nat},l.Nodup→(∀ x∈l,∀ y∈l,f x = f y→x = y)→(l.map f).Nodup
  | [],_,_ => by simp
  | a::l,hn,hi => by
    have hn' := List.nodup_cons.mp hn
    rw [List.map_cons]
    refine List.nodup_cons.mpr ⟨fun z => ?_,zcr hn'.2 fun x hx y hy => hi x (List.mem_cons_of_mem _ hx) y (List.mem_cons_of_mem _ hy)⟩
    obtain ⟨b,hb,e⟩ := List.mem_map.mp z
    have := hi b (List.mem_cons_of_mem _ hb) a List.mem_cons_self e
    rw [this] at hb
    exact hn'.1 hb
theorem onto {f : Nat→Nat} {l : List Nat} (hn : l.Nodup) (hm : ∀ x∈l,f x∈l) (hi : ∀ x∈l,∀ y∈l,f x = f y→x = y) : ∀ y∈l,∃ x∈l,f x = y := by
  intro y hy
  have p := zbT (zcr hn hi) (m := l) (fun x hx => by obtain ⟨a,ha,rfl⟩ := List.mem_map.mp hx; exact hm a ha) (by simp)
  obtain ⟨a,ha,e⟩ := List.mem_map.mp (p.mem_iff.mpr hy)
  exact ⟨a,ha,e⟩
theorem it_cl {A : Nat→Prop} {f : Nat→Nat} (hc : ∀ x,A x→A (f x)) : ∀ (k x : Nat),A x→A (it f k x)
  | 0,_,h => h
  | k + 1,x,h => it_cl hc k (f x) (hc x h)
theorem zhn {A : Nat→Prop} {f g : Nat→Nat} (hc : ∀ x,A x→A (f x)) (he : ∀ x,A x→f x = g x) : ∀ (k x : Nat),A x→it f k x = it g k x
  | 0,_,_ => rfl
  | k + 1,x,h => by
    show it f k (f x) = it g k (g x)
    rw [zhn hc he k (f x) (hc x h),he x h]
theorem zot {A : Nat→Prop} {f : Nat→Nat} (hc : ∀ x,A x→A (f x)) (hi : ∀ x,A x→∀ y,A y→f x = f y→x = y) : ∀ (k x y : Nat),A x→A y→it f k x = it f k y→x = y
  | 0,_,_,_,_,e => e
  | k + 1,x,y,hx,hy,e => hi x hx y hy (zot hc hi k (f x) (f y) (hc x hx) (hc y hy) e)
section
variable (W : Nat → List Nat) (d : Nat → Nat)
noncomputable def Mn (o : List Nat) (x : Nat) : Prop := best (W x) (o.map d) = d x
noncomputable def SerM : List Nat→Prop
  | [] => True
  | v::o => Mn W d (v::o) v∧SerM o
noncomputable def Sv (o : List Nat) (f : Nat→Nat) (c : Nat) : Prop := c∈o∧∀ k,Mn W d o (it f k c)
noncomputable def Ps (v : Nat) (o : List Nat) (f : Nat→Nat) (c : Nat) : Prop := c∈o∧∀ k,Mn W d (v::o) (it f k c)
inductive Bl : List Nat→(Nat→Nat)→Prop where
  | nil : Bl [] id
  | alone {v : Nat} {o : List Nat} {f : Nat→Nat} : Bl o f→(∀ c,Ps W d v o f c→v < c)→Bl (v::o) (fun x => if x = v then v else f x)
  | ins {v c : Nat} {o : List Nat} {f : Nat→Nat} : Bl o f→Ps W d v o f c→(∀ b,Ps W d v o f b→c≤b)→c < v→Bl (v::o) (fun x => if x = v then f c else if x = c then v else f x)
variable {W d}
theorem zr8 : ∀ o : List Nat,o.Nodup→∃ f,Bl W d o f
  | [],_ => ⟨_,.nil⟩
  | v::o,hn => by
    have hn' := List.nodup_cons.mp hn
    obtain ⟨f,b⟩ := zr8 o hn'.2
    by_cases h : ∃ c,Ps W d v o f c∧c < v
    · obtain ⟨c,⟨h1,h2⟩,h3⟩ := znA h
      refine ⟨_,.ins b h1 (fun b hb => ?_) h2⟩
      apply Classical.byContradiction
      intro z
      exact h3 b (by omega) ⟨hb,by omega⟩
    · refine ⟨_,.alone b fun c hc => ?_⟩
      have h1 : ¬ c < v := fun z => h ⟨c,hc,z⟩
      have h2 : c≠v := by rintro rfl; exact hn'.1 hc.1
      omega
theorem zct {o : List Nat} {f : Nat→Nat} (b : Bl W d o f) : ∀ x∈o,f x∈o := by
  induction b with
  | nil => intro x hx; cases hx
  | @alone v o f b _ ih =>
    intro x hx
    show (if x = v then v else f x)∈_
    by_cases e : x = v
    · rw [if_pos e]; exact List.mem_cons_self
    · rw [if_neg e]; exact List.mem_cons_of_mem _ (ih x ((List.mem_cons.mp hx).resolve_left e))
  | @ins v c o f b hc _ _ ih =>
    intro x hx
    show (if x = v then f c else if x = c then v else f x)∈_
    by_cases e : x = v
    · rw [if_pos e]; exact List.mem_cons_of_mem _ (ih c hc.1)
    · rw [if_neg e]
      by_cases e2 : x = c
      · rw [if_pos e2]; exact List.mem_cons_self
      · rw [if_neg e2]; exact List.mem_cons_of_mem _ (ih x ((List.mem_cons.mp hx).resolve_left e))
theorem zjc {v : Nat} {o : List Nat} {t : Nat→Nat} (b : Bl W d (v::o) t) (hn : v∉o) (hv : Mn W d (v::o) v) :
    ∃ f,Bl W d o f∧(∀ x∈o,f x = if t x = v then t v else t x)∧(∀ h,Sv W d (v::o) t h↔h = v∨Ps W d v o f h)∧(∀ c,Sv W d (v::o) t c→(∀ a,Sv W d (v::o) t a→c≤a)→t c = v)∧(∀ x,x≠v→t x = v∨t x = f x)∧(∀ x∈o,x≠v)∧(t v = v∨∃ c∈o,t v = f c∧t c = v) := by
  have nev : ∀ x∈o,x≠v := fun x hx => by rintro rfl; exact hn hx
  have key : ∀ f,Bl W d o f→(∀ x∈o,f x = if t x = v then t v else t x)→(∀ x∈o,t x = v∨t x = f x)→(t v = v∨∃ c,Ps W d v o f c∧t v = f c)→∀ h,Sv W d (v::o) t h↔h = v∨Ps W d v o f h := by
    intro f bf e1 e2 e3 h
    have shift : ∀ x,Ps W d v o f x→Ps W d v o f (f x) := fun x hx => ⟨zct bf x hx.1,fun k => hx.2 (k + 1)⟩
    constructor
    · intro s
      by_cases e : h = v
      · exact .inl e
      · right
        have hA : ∀ x,Sv W d (v::o) t x∧x≠v→Sv W d (v::o) t (f x)∧f x≠v := by
          rintro x ⟨sx,nx⟩
          have hxo : x∈o := (List.mem_cons.mp sx.1).resolve_left nx
          have sh : ∀ y,Sv W d (v::o) t y→Sv W d (v::o) t (t y) := fun y hy => ⟨zct b y hy.1,fun k => hy.2 (k + 1)⟩
          refine ⟨?_,nev _ (zct bf x hxo)⟩
          rw [e1 x hxo]
          by_cases z : t x = v
          · rw [if_pos z]
            have := sh _ (sh x sx)
            rwa [z] at this
          · rw [if_neg z]; exact sh x sx
        exact ⟨(List.mem_cons.mp s.1).resolve_left e,fun k => (it_cl (A := fun x => Sv W d (v::o) t x∧x≠v) hA k h ⟨s,e⟩).1.2 0⟩
    · intro hh
      have hA : ∀ x,(x = v∨Ps W d v o f x)→(t x = v∨Ps W d v o f (t x)) := by
        rintro x (rfl | hx)
        · rcases e3 with z | ⟨c,hc,z⟩
          · exact .inl z
          · rw [z]; exact .inr (shift c hc)
        · rcases e2 x hx.1 with z | z
          · exact .inl z
          · rw [z]; exact .inr (shift x hx)
      refine ⟨hh.elim (fun e => by rw [e]; exact List.mem_cons_self) fun p => List.mem_cons_of_mem _ p.1,fun k => ?_⟩
      rcases it_cl (A := fun x => x = v∨Ps W d v o f x) hA k h hh with z | z
      · rw [z]; exact hv
      · exact z.2 0
  cases b with
  | @alone _ _ f b hlt =>
    have e1 : ∀ x∈o,f x = if (if x = v then v else f x) = v then (if v = v then v else f v) else (if x = v then v else f x) := fun x hx => by
      rw [if_neg (nev x hx),if_neg (nev _ (zct b x hx))]
    have k := key f b e1 (fun x hx => .inr (if_neg (nev x hx))) (.inl (if_pos rfl))
    refine ⟨f,b,e1,k,fun c hc hm => ?_,fun x hx => .inr (if_neg hx),nev,.inl (if_pos rfl)⟩
    have h1 := hm v ((k v).mpr (.inl rfl))
    rcases (k c).mp hc with z | z
    · rw [z]; exact if_pos rfl
    · have := hlt c z; omega
  | @ins _ c _ f b hc hmin hlt =>
    have hcv : c≠v := by omega
    have tv : (if v = v then f c else if v = c then v else f v) = f c := if_pos rfl
    have tc : (if c = v then f c else if c = c then v else f c) = v := by rw [if_neg hcv,if_pos rfl]
    have e1 : ∀ x∈o,f x = if (if x = v then f c else if x = c then v else f x) = v then (if v = v then f c else if v = c then v else f v) else (if x = v then f c else if x = c then v else f x) := fun x hx => by
      rw [if_neg (nev x hx),tv]
      by_cases e : x = c
      · rw [if_pos e,if_pos rfl,e]
      · rw [if_neg e,if_neg (nev _ (zct b x hx))]
    have k := key f b e1 (fun x hx => by
      show (if x = v then f c else if x = c then v else f x) = v∨(if x = v then f c else if x = c then v else f x) = f x
      rw [if_neg (nev x hx)]
      by_cases e : x = c
      · rw [if_pos e]; exact .inl rfl
      · rw [if_neg e]; exact .inr rfl) (.inr ⟨c,hc,tv⟩)
    refine ⟨f,b,e1,k,fun c2 hc2 hm => ?_,fun x hx => ?_,nev,.inr ⟨c,hc.1,tv,tc⟩⟩
    · have h1 := hm c ((k c).mpr (.inr hc))
      rcases (k c2).mp hc2 with z | z
      · omega
      · have h2 := hmin c2 z
        have : c2 = c := by omega
        rw [this]; exact tc
    · show (if x = v then f c else if x = c then v else f x) = v∨(if x = v then f c else if x = c then v else f x) = f x
      rw [if_neg hx]
      by_cases e : x = c
      · rw [if_pos e]; exact .inl rfl
      · rw [if_neg e]; exact .inr rfl
theorem zmF : ∀ {o : List Nat} {f : Nat→Nat},Bl W d o f→o.Nodup→∀ x∈o,∀ y∈o,f x = f y→x = y := by
  intro o f b
  induction b with
  | nil => intro _ x hx; cases hx
  | @alone v o f b _ ih =>
    intro hn x hx y hy e
    have hn' := List.nodup_cons.mp hn
    have e : (if x = v then v else f x) = (if y = v then v else f y) := e
    have fo : ∀ z∈o,f z≠v := fun z hz q => hn'.1 (q ▸ zct b z hz)
    by_cases h1 : x = v <;> by_cases h2 : y = v
    · rw [h1,h2]
    · rw [if_pos h1,if_neg h2] at e; exact absurd e.symm (fo y ((List.mem_cons.mp hy).resolve_left h2))
    · rw [if_neg h1,if_pos h2] at e; exact absurd e (fo x ((List.mem_cons.mp hx).resolve_left h1))
    · rw [if_neg h1,if_neg h2] at e; exact ih hn'.2 x ((List.mem_cons.mp hx).resolve_left h1) y ((List.mem_cons.mp hy).resolve_left h2) e
  | @ins v c o f b hc _ _ ih =>
    intro hn x hx y hy e
    have hn' := List.nodup_cons.mp hn
    have e : (if x = v then f c else if x = c then v else f x) = (if y = v then f c else if y = c then v else f y) := e
    have fo : ∀ z∈o,f z≠v := fun z hz q => hn'.1 (q ▸ zct b z hz)
    by_cases h1 : x = v <;> by_cases h2 : y = v
    · rw [h1,h2]
    · have hy' := (List.mem_cons.mp hy).resolve_left h2
      rw [if_pos h1,if_neg h2] at e
      by_cases h3 : y = c
      · rw [if_pos h3] at e; exact absurd e (fo c hc.1)
      · rw [if_neg h3] at e; exact absurd (ih hn'.2 c hc.1 y hy' e).symm h3
    · have hx' := (List.mem_cons.mp hx).resolve_left h1
      rw [if_neg h1,if_pos h2] at e
      by_cases h3 : x = c
      · rw [if_pos h3] at e; exact absurd e.symm (fo c hc.1)
      · rw [if_neg h3] at e; exact absurd (ih hn'.2 x hx' c hc.1 e) h3
    · have hx' := (List.mem_cons.mp hx).resolve_left h1
      have hy' := (List.mem_cons.mp hy).resolve_left h2
      rw [if_neg h1,if_neg h2] at e
      by_cases h3 : x = c <;> by_cases h4 : y = c
      · rw [h3,h4]
      · rw [if_pos h3,if_neg h4] at e; exact absurd e.symm (fo y hy')
      · rw [if_neg h3,if_pos h4] at e; exact absurd e (fo x hx')
      · rw [if_neg h3,if_neg h4] at e; exact ih hn'.2 x hx' y hy' e
theorem zor {o o' : List Nat} (h : ∀ x,x∈o↔x∈o') (x : Nat) : Mn W d o x↔Mn W d o' x := by
  unfold Mn
  rw [zhu (T := o.map d) (T' := o'.map d) fun y => by simp only [List.mem_map,h]]
theorem zmE : ∀ (o1 o2 : List Nat) (f1 f2 : Nat→Nat),Bl W d o1 f1→Bl W d o2 f2→o1.Nodup→o2.Nodup→SerM W d o1→SerM W d o2→(∀ x,x∈o1↔x∈o2)→(∀ x∈o1,f1 x = f2 x)→o1 = o2
  | [],[],_,_,_,_,_,_,_,_,_,_ => rfl
  | [],v::o,_,_,_,_,_,_,_,_,h,_ => absurd ((h v).mpr List.mem_cons_self) (by simp)
  | v::o,[],_,_,_,_,_,_,_,_,h,_ => absurd ((h v).mp List.mem_cons_self) (by simp)
  | v::o,v'::o',t,t',b,b',hn,hn',s,s',h,e => by
    have n1 := List.nodup_cons.mp hn
    have n2 := List.nodup_cons.mp hn'
    obtain ⟨f,bf,e1,k,l,_⟩ := zjc b n1.1 s.1
    obtain ⟨f',bf',e1',k',l',_⟩ := zjc b' n2.1 s'.1
    have same : ∀ c,Sv W d (v::o) t c↔Sv W d (v'::o') t' c := by
      intro c
      have ag : ∀ n x,x∈v::o→it t n x = it t' n x := zhn (A := fun x => x∈v::o) (fun x hx => zct b x hx) e
      unfold Sv
      rw [h c]
      constructor
      · rintro ⟨a,z⟩; exact ⟨a,fun n => by rw [← ag n c ((h c).mpr a)]; exact (zor h _).mp (z n)⟩
      · rintro ⟨a,z⟩; exact ⟨a,fun n => by rw [ag n c ((h c).mpr a)]; exact (zor h _).mpr (z n)⟩
    obtain ⟨c,hc,hm⟩ := znA (P := Sv W d (v::o) t) ⟨v,(k v).mpr (.inl rfl)⟩
    have hm' : ∀ a,Sv W d (v::o) t a→c≤a := fun a ha => Classical.byContradiction fun z => hm a (by omega) ha
    have q1 := l c hc hm'
    have q2 := l' c ((same c).mp hc) fun a ha => hm' a ((same a).mpr ha)
    rw [e c hc.1] at q1
    have hv : v = v' := q1.symm.trans q2
    subst hv
    have ho : ∀ x,x∈o↔x∈o' := fun x => by
      constructor
      · intro hx
        have : x≠v := by rintro rfl; exact n1.1 hx
        exact (List.mem_cons.mp ((h x).mp (List.mem_cons_of_mem _ hx))).resolve_left this
      · intro hx
        have : x≠v := by rintro rfl; exact n2.1 hx
        exact (List.mem_cons.mp ((h x).mpr (List.mem_cons_of_mem _ hx))).resolve_left this
    rw [zmE o o' f f' bf bf' n1.2 n2.2 s.2 s'.2 ho fun x hx => by
      rw [e1 x hx,e1' x ((ho x).mp hx),e x (List.mem_cons_of_mem _ hx),e v List.mem_cons_self]]
end
end Rg
end
section
namespace Rg
section
variable {W : Nat → List Nat} {d : Nat → Nat} {O O' : Nat → Option Nat} {L : List Nat}
theorem zgR {p q : Nat→Bool} : ∀ {l : List Nat},(∀ x∈l,p x = q x)→l.find? p = l.find? q
  | [],_ => rfl
  | a::l,h => by
    rw [List.find?_cons,List.find?_cons,h a List.mem_cons_self,zgR fun x hx => h x (List.mem_cons_of_mem _ hx)]
theorem zh7 {s : S} (h : ∀ x∈s.line,O x = O' x) (a : Nat) : nxt W O s a = nxt W O' s a := by
  unfold nxt pt
  rw [zgR (p := fun h => decide (O h = some (tgt W s a))) (q := fun h => decide (O' h = some (tgt W s a))) fun x hx => by rw [h x hx]]
theorem zg9 {a : Nat→Nat} {s : S} (t : TTC W O a s) : (∀ x∈s.line,O x = O' x)→TTC W O' a s := by
  induction t with
  | nil h => exact fun _ => .nil h
  | @step s C c ha t ih =>
    intro h
    refine .step C ⟨c.sub,fun x hx => ?_,fun x hx => ?_⟩ ha (ih fun x hx => h x (List.mem_filter.mp hx).1)
    · rw [← zh7 h]; exact c.cl x hx
    · obtain ⟨k,hk⟩ := c.per x hx
      refine ⟨k,?_⟩
      rw [show nxt W O' s = nxt W O s from funext fun y => (zh7 h y).symm]
      exact hk
noncomputable def st (L : List Nat) (d : Nat→Nat) (o : List Nat) : S := ⟨L.filter fun h => decide (h∈o),L.filter fun x => decide (x∈o.map d)⟩
structure Sce (W : Nat→List Nat) (L : List Nat) (d : Nat→Nat) (o : List Nat) : Prop where
  nl : L.Nodup
  no : o.Nodup
  ol : ∀ h∈o,h∈L
  dl : ∀ h∈o,d h∈L
  di : ∀ h∈o,∀ l∈o,d h = d l→h = l
  row : ∀ h∈o,∀ x∈L,x∈W h
theorem Sce.tail {v : Nat} {o : List Nat} (s : Sce W L d (v::o)) : Sce W L d o :=
  ⟨s.nl,(List.nodup_cons.mp s.no).2,fun h hh => s.ol h (List.mem_cons_of_mem _ hh),fun h hh => s.dl h (List.mem_cons_of_mem _ hh),fun h hh l hl => s.di h (List.mem_cons_of_mem _ hh) l (List.mem_cons_of_mem _ hl),fun h hh => s.row h (List.mem_cons_of_mem _ hh)⟩
theorem zcE {o : List Nat} (s : Sce W L d o) {h : Nat} : h∈(st L d o).line↔h∈o := by
  unfold st
  simp only [List.mem_filter,decide_eq_true_eq]
  exact ⟨fun z => z.2,fun z => ⟨s.ol h z,z⟩⟩
theorem ze3 {o : List Nat} (s : Sce W L d o) {x : Nat} : x∈(st L d o).things↔x∈o.map d := by
  unfold st
  simp only [List.mem_filter,decide_eq_true_eq]
  refine ⟨fun z => z.2,fun z => ⟨?_,z⟩⟩
  obtain ⟨h,hh,rfl⟩ := List.mem_map.mp z
  exact s.dl h hh
structure Owns (O : Nat→Option Nat) (d : Nat→Nat) (o : List Nat) (f : Nat→Nat) : Prop where
  inj : ∀ h k x,O h = some x→O k = some x→h = k
  by_ : ∀ h∈o,O (f h) = some (d h)
theorem zn6 {o : List Nat} {f : Nat→Nat} (s : Sce W L d o) (w : Owns O d o f) (hm : ∀ x∈o,f x∈o) (hi : ∀ x∈o,∀ y∈o,f x = f y→x = y) : Ok W O (st L d o) where
  nl := zbA s.nl
  nt := zbA s.nl
  le := by
    have h1 : ((st L d o).line.map d).Nodup := zcr (zbA s.nl) fun x hx y hy e => s.di x ((zcE s).mp hx) y ((zcE s).mp hy) e
    have := zcb h1 (m := (st L d o).things) fun x hx => by
      obtain ⟨h,hh,rfl⟩ := List.mem_map.mp hx
      exact (ze3 s).mpr (List.mem_map.mpr ⟨h,(zcE s).mp hh,rfl⟩)
    simpa using this
  row := fun h hh x hx => s.row h ((zcE s).mp hh) x (List.mem_filter.mp hx).1
  inj := w.inj
  own := fun h hh x hx => by
    obtain ⟨a,ha,e⟩ := onto s.no hm hi h ((zcE s).mp hh)
    have := w.by_ a ha
    rw [e,hx] at this
    cases this
    exact (ze3 s).mpr (List.mem_map.mpr ⟨a,ha,rfl⟩)
open Classical in
theorem zoB {o : List Nat} {f : Nat→Nat} {A : Nat→Prop} (s : Sce W L d o) (w : Owns O d o f) (hm : ∀ x∈o,f x∈o) (hi : ∀ x∈o,∀ y∈o,f x = f y→x = y) (hA : ∀ x,A x→x∈o) (hc : ∀ x,A x→A (f x)) (hb : ∀ x,A x→best (W x) (o.map d) = d x) :
    Cyc W O (st L d o) (L.filter fun x => decide (A x))∧∀ h∈L.filter (fun x => decide (A x)),d h = tgt W (st L d o) h := by
  have k := zn6 s w hm hi
  have mA : ∀ h,h∈L.filter (fun x => decide (A x))↔A h := fun h => by
    simp only [List.mem_filter,decide_eq_true_eq]
    exact ⟨fun z => z.2,fun z => ⟨s.ol h (hA h z),z⟩⟩
  have ht : ∀ h,A h→tgt W (st L d o) h = d h := fun h ha => by
    unfold tgt
    rw [zhu (T' := o.map d) fun x => ze3 s]
    exact hb h ha
  have hx : ∀ h,A h→nxt W O (st L d o) h = f h := fun h ha => by
    unfold nxt
    rw [ht h ha]
    exact zod k ((zcE s).mpr (hm h (hA h ha))) (w.by_ h (hA h ha))
  refine ⟨⟨fun h hh => (zcE s).mpr (hA h ((mA h).mp hh)),fun h hh => ?_,fun h hh => ?_⟩,fun h hh => (ht h ((mA h).mp hh)).symm⟩
  · rw [hx h ((mA h).mp hh)]
    exact (mA _).mpr (hc h ((mA h).mp hh))
  · have ha := (mA h).mp hh
    obtain ⟨i,j,hij,_,e⟩ := zlp (f := f) (l := o) hm (hA h ha)
    have e2 : it f (j - i) h = h := by
      refine (zot (A := fun x => x∈o) hm (fun x hx y hy => hi x hx y hy) i h (it f (j - i) h) (hA h ha) (it_cl hm _ _ (hA h ha)) ?_).symm
      rw [← zeg,show j - i + i = j by omega]; exact e
    refine ⟨j - i - 1,?_⟩
    rw [show j - i - 1 + 1 = j - i by omega]
    rw [zhn (A := A) (f := nxt W O (st L d o)) (g := f) (fun x hx' => by rw [hx x hx']; exact hc x hx') hx _ _ ha]
    exact e2
open Classical in
theorem zr7 : ∀ {o : List Nat} {f : Nat→Nat},Bl W d o f→∀ O : Nat→Option Nat,Sce W L d o→SerM W d o→Owns O d o f→TTC W O d (st L d o) := by
  intro o
  induction o with
  | nil =>
    intro f b O s _ w
    refine .nil ?_
    unfold st; simp
  | cons v o ih =>
    intro t b O s sm w
    have hn := List.nodup_cons.mp s.no
    obtain ⟨f,bf,e1,k,_,e2,nev,_⟩ := zjc b hn.1 sm.1
    have s' := s.tail
    have tm := zct b
    have ti := zmF b s.no
    have fm := zct bf
    have fi := zmF bf hn.2
    have w' : Owns (fun y => (o.find? fun h => decide (f h = y)).map d) d o f := by
      refine ⟨fun h l x e e' => ?_,fun h hh => ?_⟩
      · cases q : o.find? fun a => decide (f a = h) with
        | none => rw [q] at e; cases e
        | some a =>
          cases q' : o.find? fun a => decide (f a = l) with
          | none => rw [q'] at e'; cases e'
          | some a' =>
            rw [q] at e; rw [q'] at e'
            have z1 : d a = x := Option.some.inj e
            have z2 : d a' = x := Option.some.inj e'
            have := s'.di a (List.mem_of_find?_eq_some q) a' (List.mem_of_find?_eq_some q') (z1.trans z2.symm)
            have p1 := List.find?_some q
            have p2 := List.find?_some q'
            simp only [decide_eq_true_eq] at p1 p2
            rw [← p1,← p2,this]
      · show (o.find? fun a => decide (f a = f h)).map d = some (d h)
        cases q : o.find? fun a => decide (f a = f h) with
        | none => have := List.find?_eq_none.mp q h hh; simp at this
        | some a =>
          have p1 := List.find?_some q
          simp only [decide_eq_true_eq] at p1
          rw [fi a (List.mem_of_find?_eq_some q) h hh p1]; rfl
    have t' := ih bf _ s' sm.2 w'
    have psb : ∀ x,Ps W d v o f x→best (W x) (o.map d) = d x := fun x hx => by
      have h0 : best (W x) ((v::o).map d) = d x := hx.2 0
      have hin : d x∈o.map d := List.mem_map.mpr ⟨x,hx.1,rfl⟩
      rw [← h0]
      refine zj2 (fun y hy => List.mem_cons_of_mem _ hy) (by rw [h0]; exact hin) ?_
      rw [h0]
      exact s.row x (List.mem_cons_of_mem _ hx.1) _ (s'.dl x hx.1)
    obtain ⟨c',g'⟩ := zoB (A := Ps W d v o f) s' w' fm fi (fun x hx => hx.1) (fun x hx => ⟨fm x hx.1,fun n => hx.2 (n + 1)⟩) psb
    obtain ⟨c,g⟩ := zoB (A := Sv W d (v::o) t) s w tm ti (fun x hx => hx.1) (fun x hx => ⟨tm x hx.1,fun n => hx.2 (n + 1)⟩) (fun x hx => hx.2 0)
    have p := (zjk t' (zn6 s' w' fm fi) c').1
    refine .step _ c g ?_
    have mC : ∀ h,h∈L.filter (fun x => decide (Sv W d (v::o) t x))↔h = v∨Ps W d v o f h := fun h => by
      simp only [List.mem_filter,decide_eq_true_eq,k h]
      refine ⟨fun z => z.2,fun z => ⟨?_,z⟩⟩
      rcases z with rfl | z
      · exact s.ol _ List.mem_cons_self
      · exact s'.ol h z.1
    have mC' : ∀ h,h∈L.filter (fun x => decide (Ps W d v o f x))↔Ps W d v o f h := fun h => by
      simp only [List.mem_filter,decide_eq_true_eq]
      exact ⟨fun z => z.2,fun z => ⟨s'.ol h z.1,z⟩⟩
    have eq : minus W (st L d (v::o)) (L.filter fun x => decide (Sv W d (v::o) t x)) = minus W (st L d o) (L.filter fun x => decide (Ps W d v o f x)) := by
      have h1 : (minus W (st L d (v::o)) (L.filter fun x => decide (Sv W d (v::o) t x))).line = (minus W (st L d o) (L.filter fun x => decide (Ps W d v o f x))).line := by
        show ((L.filter _).filter _) = ((L.filter _).filter _)
        rw [List.filter_filter,List.filter_filter]
        refine zc5 fun x _ => ?_
        rw [Bool.eq_iff_iff]
        simp only [Bool.and_eq_true,decide_eq_true_eq]
        rw [mC,mC']
        constructor
        · rintro ⟨a,b⟩
          exact ⟨fun z => a (.inr z),(List.mem_cons.mp b).resolve_left fun z => a (.inl z)⟩
        · rintro ⟨a,b⟩
          exact ⟨fun z => z.elim (fun e => nev x b e) a,List.mem_cons_of_mem _ b⟩
      have h2 : (minus W (st L d (v::o)) (L.filter fun x => decide (Sv W d (v::o) t x))).things = (minus W (st L d o) (L.filter fun x => decide (Ps W d v o f x))).things := by
        show ((L.filter _).filter _) = ((L.filter _).filter _)
        rw [List.filter_filter,List.filter_filter]
        refine zc5 fun x _ => ?_
        rw [Bool.eq_iff_iff]
        simp only [Bool.and_eq_true,decide_eq_true_eq]
        have i1 : x∈(L.filter fun x => decide (Sv W d (v::o) t x)).map (tgt W (st L d (v::o)))↔∃ h,(h = v∨Ps W d v o f h)∧d h = x := by
          rw [List.mem_map]
          constructor
          · rintro ⟨h,hh,e⟩; exact ⟨h,(mC h).mp hh,(g h hh).trans e⟩
          · rintro ⟨h,hh,e⟩; exact ⟨h,(mC h).mpr hh,(g h ((mC h).mpr hh)).symm.trans e⟩
        have i2 : x∈(L.filter fun x => decide (Ps W d v o f x)).map (tgt W (st L d o))↔∃ h,Ps W d v o f h∧d h = x := by
          rw [List.mem_map]
          constructor
          · rintro ⟨h,hh,e⟩; exact ⟨h,(mC' h).mp hh,(g' h hh).trans e⟩
          · rintro ⟨h,hh,e⟩; exact ⟨h,(mC' h).mpr hh,(g' h ((mC' h).mpr hh)).symm.trans e⟩
        rw [i1,i2]
        constructor
        · rintro ⟨a,b⟩
          obtain ⟨h,hh,e⟩ := List.mem_map.mp b
          refine ⟨fun ⟨l,hl,el⟩ => a ⟨l,.inr hl,el⟩,List.mem_map.mpr ⟨h,(List.mem_cons.mp hh).resolve_left fun z => a ⟨h,.inl z,e⟩,e⟩⟩
        · rintro ⟨a,b⟩
          obtain ⟨h,hh,e⟩ := List.mem_map.mp b
          refine ⟨fun ⟨l,hl,el⟩ => ?_,List.mem_map.mpr ⟨h,List.mem_cons_of_mem _ hh,e⟩⟩
          rcases hl with rfl | hl
          · exact nev h hh (s.di h (List.mem_cons_of_mem _ hh) _ List.mem_cons_self (e.trans el.symm))
          · exact a ⟨l,hl,el⟩
      cases q1 : minus W (st L d (v::o)) (L.filter fun x => decide (Sv W d (v::o) t x))
      cases q2 : minus W (st L d o) (L.filter fun x => decide (Ps W d v o f x))
      rw [q1,q2] at h1 h2
      simp only at h1 h2
      rw [h1,h2]
    rw [eq]
    refine zg9 p fun y hy => ?_
    obtain ⟨hy1,hy2⟩ := List.mem_filter.mp hy
    simp only [decide_eq_true_eq] at hy2
    rw [mC'] at hy2
    have hyo := (zcE s').mp hy1
    obtain ⟨a,ha,ea⟩ := onto s.no tm ti y (List.mem_cons_of_mem _ hyo)
    have hav : a≠v := by
      rintro rfl
      have sv : Sv W d (a::o) t a := (k a).mpr (.inl rfl)
      have : Sv W d (a::o) t y := by rw [← ea]; exact ⟨tm a sv.1,fun n => sv.2 (n + 1)⟩
      rcases (k y).mp this with z | z
      · exact nev y hyo z
      · exact hy2 z
    have hao := (List.mem_cons.mp ha).resolve_left hav
    have fa : f a = y := by rw [e1 a hao,if_neg (by rw [ea]; exact nev y hyo),ea]
    have h1 := w.by_ a ha
    have h2 := w'.by_ a hao
    rw [ea] at h1
    rw [fa] at h2
    exact h2.trans h1.symm
end
end Rg
end
section
namespace Rg
theorem zdG {α : Type} [DecidableEq α] : ∀ {l m : List α},l.Nodup→(∀ x∈l,x∈m)→m.length≤l.length→l.Perm m
  | [],m,_,_,hl => by
    have : m = [] := List.eq_nil_of_length_eq_zero (by simpa using hl)
    rw [this]
  | a::l,m,hn,hs,hl => by
    have hn' := List.nodup_cons.mp hn
    have ha := hs a List.mem_cons_self
    refine List.Perm.trans ?_ (List.perm_cons_erase ha).symm
    refine List.Perm.cons a (zdG hn'.2 (fun x hx => ?_) ?_)
    · have : x≠a := by rintro rfl; exact hn'.1 hx
      exact (List.mem_erase_of_ne this).mpr (hs x (List.mem_cons_of_mem _ hx))
    · rw [List.length_erase_of_mem ha]; simp at hl; omega
theorem zgM {α β : Type} {f : α→β} : ∀ {l : List α},l.Nodup→(∀ x∈l,∀ y∈l,f x = f y→x = y)→(l.map f).Nodup
  | [],_,_ => by simp
  | a::l,hn,hi => by
    have hn' := List.nodup_cons.mp hn
    rw [List.map_cons]
    refine List.nodup_cons.mpr ⟨fun z => ?_,zgM hn'.2 fun x hx y hy => hi x (List.mem_cons_of_mem _ hx) y (List.mem_cons_of_mem _ hy)⟩
    obtain ⟨b,hb,e⟩ := List.mem_map.mp z
    have := hi b (List.mem_cons_of_mem _ hb) a List.mem_cons_self e
    rw [this] at hb
    exact hn'.1 hb
noncomputable def cl : Nat→List (List Nat)
  | 0 => [[]]
  | n + 1 => (cl n).flatMap fun r => (List.range (n + 1)).map fun a => r.take a++[n]++r.drop a
noncomputable def fcl : Nat→Nat
  | 0 => 1
  | i + 1 => fcl i * (i + 1)
theorem zs9 {n : Nat} (h : n≤5) : (cl n).Nodup∧(∀ r∈cl n,r.Perm (List.range n))∧(cl n).length = fcl n := by
  match n,h with
  | 0,_ => exact ⟨by decide +kernel,by decide +kernel,by decide +kernel⟩
  | 1,_ => exact ⟨by decide +kernel,by decide +kernel,by decide +kernel⟩
  | 2,_ => exact ⟨by decide +kernel,by decide +kernel,by decide +kernel⟩
  | 3,_ => exact ⟨by decide +kernel,by decide +kernel,by decide +kernel⟩
  | 4,_ => exact ⟨by decide +kernel,by decide +kernel,by decide +kernel⟩
  | 5,_ => exact ⟨by decide +kernel,by decide +kernel,by decide +kernel⟩
theorem zsc {n : Nat} (h : n≤5) {rs : List (List Nat)} (h1 : ∀ r : List Nat,r∈rs↔r.Perm (List.range n)) (h2 : rs.length = fcl n) : rs.Nodup := by
  obtain ⟨c1,c2,c3⟩ := zs9 h
  exact (zdG c1 (fun r hr => (h1 r).mpr (c2 r hr)) (by omega)).nodup_iff.mp c1
theorem zhz {n : Nat} {rs : List (List Nat)} (hn : rs.Nodup) (h1 : ∀ r : List Nat,r∈rs↔r.Perm (List.range n)) {f : List Nat→List Nat} (hm : ∀ r,r.Perm (List.range n)→(f r).Perm (List.range n)) (hi : ∀ r r',r.Perm (List.range n)→r'.Perm (List.range n)→f r = f r'→r = r') : (rs.map f).Perm rs := by
  refine zdG (zgM hn fun x hx y hy => hi x y ((h1 x).mp hx) ((h1 y).mp hy)) (fun x hx => ?_) (by simp)
  obtain ⟨r,hr,rfl⟩ := List.mem_map.mp hx
  exact (h1 _).mpr (hm r ((h1 r).mp hr))
section
variable {W : Nat → List Nat} {n : Nat}
theorem zjr {d : Nat→Nat} : ∀ {o T : List Nat},Ser W d o T→T.Perm (o.map d)→SerM W d o
  | [],_,_,_ => trivial
  | v::o,T,s,p => by
    refine ⟨?_,zjr s.2 ?_⟩
    · show best (W v) ((v::o).map d) = d v
      rw [zhu (T' := T) fun x => p.symm.mem_iff]
      exact s.1
    · have := p.erase (d v)
      rw [List.map_cons,List.erase_cons_head] at this
      exact this
noncomputable def dO (W : Nat→List Nat) (n : Nat) (o : List Nat) : Nat→Nat := fun h => if h < n then serD W o (List.range n) h else 0
theorem zr2 {o : List Nat} (hp : o.Perm (List.range n)) : Ser W (dO W n o) o (List.range n) :=
  zfX (fun x hx => by unfold dO; rw [if_pos (List.mem_range.mp (hp.mem_iff.mp hx))]) (zhG o (List.range n) (hp.nodup_iff.mpr List.nodup_range))
theorem zoh {w : List Nat} (hW : ∀ h,h < n→∀ x,x < n→x∈W h) (hw : w.Perm (List.range n)) : Ok W (fun k => w[k]?) ⟨List.range n,List.range n⟩ where
  nl := List.nodup_range
  nt := List.nodup_range
  le := Nat.le_refl _
  row := fun h hh x hx => hW h (List.mem_range.mp hh) x (List.mem_range.mp hx)
  inj := fun h k x e1 e2 => by
    have hl := (List.getElem?_eq_some_iff.mp e1).1
    exact (List.getElem?_inj hl (hw.nodup_iff.mpr List.nodup_range)).mp (e1.trans e2.symm)
  own := fun h _ x e => hw.mem_iff.mp (List.mem_of_getElem? e)
theorem phi1 (hW : ∀ h,h < n→∀ x,x < n→x∈W h) {o : List Nat} (hp : o.Perm (List.range n)) : ∃ (w : List Nat) (f : Nat→Nat),w.Perm (List.range n)∧TTC W (fun k => w[k]?) (dO W n o) ⟨List.range n,List.range n⟩∧Bl W (dO W n o) o f∧SerM W (dO W n o) o∧∀ h,h < n→w[f h]? = some (dO W n o h) := by
  have no : o.Nodup := hp.nodup_iff.mpr List.nodup_range
  have hs := zr2 (W := W) hp
  have mo : ∀ x,x∈o↔x < n := fun x => by rw [hp.mem_iff,List.mem_range]
  have lo : o.length = n := by rw [hp.length_eq]; simp
  obtain ⟨m1,m2⟩ := zfW hs List.nodup_range (by simp [lo]) (fun h hh x hx => hW h ((mo h).mp hh) x (List.mem_range.mp hx))
  generalize dO W n o = d at hs m1 m2 ⊢
  have di : ∀ h∈o,∀ l∈o,d h = d l→h = l := fun h hh l hl e => m2 h hh l hl no e
  have pm : (o.map d).Perm (List.range n) := zbT (zcr no di) (fun x hx => by obtain ⟨h,hh,rfl⟩ := List.mem_map.mp hx; exact m1 h hh) (by simp [lo])
  have sm := zjr hs pm.symm
  obtain ⟨f,b⟩ := zr8 (W := W) (d := d) o no
  have fm := zct b
  have fi := zmF b no
  have on := onto no fm fi
  have pre : ∀ y,y < n→∃ a,a < n∧f a = y∧((List.range n).find? fun a => decide (f a = y)) = some a := by
    intro y hy
    obtain ⟨a,ha,e⟩ := on y ((mo y).mpr hy)
    cases q : (List.range n).find? fun a => decide (f a = y) with
    | none => have := List.find?_eq_none.mp q a (List.mem_range.mpr ((mo a).mp ha)); simp [e] at this
    | some a' =>
      have p1 := List.find?_some q
      simp only [decide_eq_true_eq] at p1
      exact ⟨a',List.mem_range.mp (List.mem_of_find?_eq_some q),p1,rfl⟩
  have hw : ((List.range n).map fun y => d (((List.range n).find? fun a => decide (f a = y)).getD 0)).Nodup := zcr List.nodup_range fun x hx y hy e => by
    obtain ⟨a,a1,a2,a3⟩ := pre x (List.mem_range.mp hx)
    obtain ⟨c,c1,c2,c3⟩ := pre y (List.mem_range.mp hy)
    rw [a3,c3] at e
    have := di a ((mo a).mpr a1) c ((mo c).mpr c1) e
    rw [← a2,← c2,this]
  have at_ : ∀ h,h < n→((List.range n).map fun y => d (((List.range n).find? fun a => decide (f a = y)).getD 0))[f h]? = some (d h) := by
    intro h hh
    have hf : f h < n := (mo _).mp (fm h ((mo h).mpr hh))
    obtain ⟨a,a1,a2,a3⟩ := pre (f h) hf
    rw [List.getElem?_map,List.getElem?_range hf]
    show some (d (((List.range n).find? fun a => decide (f a = f h)).getD 0)) = _
    rw [a3]
    have := fi a ((mo a).mpr a1) h ((mo h).mpr hh) a2
    rw [this]; rfl
  refine ⟨(List.range n).map fun y => d (((List.range n).find? fun a => decide (f a = y)).getD 0),f,?_,?_,b,sm,at_⟩
  · refine zbT hw (fun x hx => ?_) (by simp)
    obtain ⟨y,hy,rfl⟩ := List.mem_map.mp hx
    obtain ⟨a,a1,a2,a3⟩ := pre y (List.mem_range.mp hy)
    rw [a3]
    exact m1 a ((mo a).mpr a1)
  · have t := zr7 (L := List.range n) b (fun k => ((List.range n).map fun y => d (((List.range n).find? fun a => decide (f a = y)).getD 0))[k]?) ⟨List.nodup_range,no,fun h hh => List.mem_range.mpr ((mo h).mp hh),m1,di,fun h hh x hx => hW h ((mo h).mp hh) x (List.mem_range.mp hx)⟩ sm
      ⟨fun h k x e1 e2 => (List.getElem?_inj (List.getElem?_eq_some_iff.mp e1).1 hw).mp (e1.trans e2.symm),fun h hh => at_ h ((mo h).mp hh)⟩
    have e : st (List.range n) d o = ⟨List.range n,List.range n⟩ := by
      unfold st
      congr 1
      · exact List.filter_eq_self.mpr fun x hx => by simpa using hp.mem_iff.mpr hx
      · exact List.filter_eq_self.mpr fun x hx => decide_eq_true (pm.mem_iff.mpr hx)
    rw [e] at t
    exact t
theorem zqU (hW : ∀ h,h < n→∀ x,x < n→x∈W h) : ∃ F : List Nat→List Nat,(∀ o,o.Perm (List.range n)→(F o).Perm (List.range n)∧TTC W (fun k => (F o)[k]?) (dO W n o) ⟨List.range n,List.range n⟩)∧∀ o o',o.Perm (List.range n)→o'.Perm (List.range n)→F o = F o'→o = o' := by
  have h : ∀ o : List Nat,∃ w : List Nat,o.Perm (List.range n)→∃ f : Nat→Nat,w.Perm (List.range n)∧TTC W (fun k => w[k]?) (dO W n o) ⟨List.range n,List.range n⟩∧Bl W (dO W n o) o f∧SerM W (dO W n o) o∧∀ h,h < n→w[f h]? = some (dO W n o h) := fun o => by
    by_cases hp : o.Perm (List.range n)
    · obtain ⟨w,f,z⟩ := phi1 hW hp
      exact ⟨w,fun _ => ⟨f,z⟩⟩
    · exact ⟨[],fun z => absurd z hp⟩
  obtain ⟨F,hF⟩ := Classical.axiomOfChoice h
  refine ⟨F,fun o hp => ?_,fun o o' hp hp' e => ?_⟩
  · obtain ⟨f,h1,h2,_⟩ := hF o hp
    exact ⟨h1,h2⟩
  · obtain ⟨f,h1,h2,h3,h4,h5⟩ := hF o hp
    obtain ⟨f',h1',h2',h3',h4',h5'⟩ := hF o' hp'
    rw [← e] at h1' h2' h5'
    have ed : dO W n o = dO W n o' := by
      funext h
      by_cases hh : h < n
      · exact zgF h2 (zoh hW h1) h2' h (List.mem_range.mpr hh)
      · unfold dO; rw [if_neg hh,if_neg hh]
    rw [← ed] at h3' h4' h5'
    have nw : (F o).Nodup := h1.nodup_iff.mpr List.nodup_range
    refine zmE o o' f f' h3 h3' (hp.nodup_iff.mpr List.nodup_range) (hp'.nodup_iff.mpr List.nodup_range) h4 h4' (fun x => by rw [hp.mem_iff,hp'.mem_iff]) fun x hx => ?_
    have hx' := List.mem_range.mp (hp.mem_iff.mp hx)
    have e1 := h5 x hx'
    have e2 := h5' x hx'
    exact (List.getElem?_inj (List.getElem?_eq_some_iff.mp e1).1 nw).mp (e1.trans e2.symm)
theorem zp0 (hW : ∀ h,h < n→∀ x,x < n→x∈W h) {rs : List (List Nat)} (hn : rs.Nodup) (h1 : ∀ r : List Nat,r∈rs↔r.Perm (List.range n)) (R : List Nat→Nat→Nat) (hR : ∀ w,w.Perm (List.range n)→TTC W (fun k => w[k]?) (R w) ⟨List.range n,List.range n⟩) {h : Nat} (hh : h < n) (x : Nat) :
    rs.countP (fun w => decide (R w h = x)) = rs.countP fun o => decide (serD W o (List.range n) h = x) := by
  obtain ⟨F,f1,f2⟩ := zqU hW
  have p := zhz hn h1 (fun r hr => (f1 r hr).1) f2
  rw [← p.countP_eq,List.countP_map]
  refine List.countP_congr fun o ho => ?_
  have hp := (h1 o).mp ho
  obtain ⟨q1,q2⟩ := f1 o hp
  have := zgF (hR _ q1) (zoh hW q1) q2 h (List.mem_range.mpr hh)
  simp only [Function.comp_apply,decide_eq_true_eq]
  rw [this]
  unfold dO
  rw [if_pos hh]
theorem zjs {W' : Nat→List Nat} {f : Nat→Nat} : ∀ (o T : List Nat) (h : Nat),(∀ a∈o,W' a = W (f a))→(∀ a∈o,f h = f a→h = a)→h∈o→serD W' o T h = serD W (o.map f) T (f h)
  | [],_,_,_,_,hh => by cases hh
  | v::o,T,h,e,hi,hh => by
    show (if h = v then best (W' v) T else serD W' o (T.erase (best (W' v) T)) h) = (if f h = f v then best (W (f v)) T else serD W (o.map f) (T.erase (best (W (f v)) T)) (f h))
    rw [e v List.mem_cons_self]
    by_cases z : h = v
    · rw [if_pos z,if_pos (by rw [z])]
    · rw [if_neg z,if_neg (fun q => z (hi v List.mem_cons_self q))]
      exact zjs o _ h (fun a ha => e a (List.mem_cons_of_mem _ ha)) (fun a ha => hi a (List.mem_cons_of_mem _ ha)) ((List.mem_cons.mp hh).resolve_left z)
theorem zpZ {W' : Nat→List Nat} {f : Nat→Nat} (hf : ∀ h,h < n→f h < n) (hi : ∀ h,h < n→∀ l,l < n→f h = f l→h = l) (e : ∀ h,h < n→W' h = W (f h)) {rs : List (List Nat)} (hn : rs.Nodup) (h1 : ∀ r : List Nat,r∈rs↔r.Perm (List.range n)) {h : Nat} (hh : h < n) (x : Nat) :
    rs.countP (fun o => decide (serD W' o (List.range n) h = x)) = rs.countP fun o => decide (serD W o (List.range n) (f h) = x) := by
  have mo : ∀ {o : List Nat},o.Perm (List.range n)→∀ y,y∈o↔y < n := fun hp y => by rw [hp.mem_iff,List.mem_range]
  have p : (rs.map fun o => o.map f).Perm rs := by
    refine zhz hn h1 (fun r hr => ?_) fun r r' hr hr' q => ?_
    · refine zbT (zcr (hr.nodup_iff.mpr List.nodup_range) fun a ha b hb => hi a ((mo hr a).mp ha) b ((mo hr b).mp hb)) (fun y hy => ?_) (by rw [List.length_map,hr.length_eq]; exact Nat.le_refl _)
      obtain ⟨a,ha,rfl⟩ := List.mem_map.mp hy
      exact List.mem_range.mpr (hf a ((mo hr a).mp ha))
    · have : ∀ (l l' : List Nat),(∀ a∈l,a < n)→(∀ a∈l',a < n)→l.map f = l'.map f→l = l' := by
        intro l
        induction l with
        | nil => intro l' _ _ q; cases l' with
          | nil => rfl
          | cons _ _ => cases q
        | cons a l ih => intro l' h1 h2 q; cases l' with
          | nil => cases q
          | cons b l' =>
            rw [List.map_cons,List.map_cons] at q
            injection q with q1 q2
            rw [hi a (h1 a List.mem_cons_self) b (h2 b List.mem_cons_self) q1,ih l' (fun z hz => h1 z (List.mem_cons_of_mem _ hz)) (fun z hz => h2 z (List.mem_cons_of_mem _ hz)) q2]
      exact this r r' (fun a ha => (mo hr a).mp ha) (fun a ha => (mo hr' a).mp ha) q
  have key : rs.countP (fun o => decide (serD W' o (List.range n) h = x)) = rs.countP ((fun o => decide (serD W o (List.range n) (f h) = x)) ∘ fun o => o.map f) := by
    refine List.countP_congr fun o ho => ?_
    have hp := (h1 o).mp ho
    simp only [Function.comp_apply,decide_eq_true_eq]
    rw [zjs o (List.range n) h (fun a ha => e a ((mo hp a).mp ha)) (fun a ha => hi h hh a ((mo hp a).mp ha)) ((mo hp h).mpr hh)]
  rw [key,← List.countP_map,p.countP_eq]
theorem zs8 (hW : ∀ h,h < n→∀ x,x < n→x∈W h) {rs : List (List Nat)} (h1 : ∀ r∈rs,r.Perm (List.range n)) {x : Nat} (hx : x < n) : ((List.range n).map fun h => rs.countP fun o => decide (serD W o (List.range n) h = x)).sum = rs.length := by
  have key : ∀ h∈List.range n,rs.countP (fun o => decide (serD W o (List.range n) h = x)) = rs.countP fun o => decide ((((List.range n).find? fun a => decide (serD W o (List.range n) a = x)).getD n) = h) := by
    intro h hh
    refine List.countP_congr fun o ho => ?_
    simp only [decide_eq_true_eq]
    have hp := h1 o ho
    have no : o.Nodup := hp.nodup_iff.mpr List.nodup_range
    have mo : ∀ y,y∈o↔y < n := fun y => by rw [hp.mem_iff,List.mem_range]
    obtain ⟨_,m2⟩ := zfW (zhG (W := W) o (List.range n) no) List.nodup_range (by simp [hp.length_eq]) (fun a ha y hy => hW a ((mo a).mp ha) y (List.mem_range.mp hy))
    constructor
    · intro e
      cases q : (List.range n).find? fun a => decide (serD W o (List.range n) a = x) with
      | none => have := List.find?_eq_none.mp q h hh; simp [e] at this
      | some a =>
        have p1 := List.find?_some q
        simp only [decide_eq_true_eq] at p1
        exact m2 a ((mo a).mpr (List.mem_range.mp (List.mem_of_find?_eq_some q))) h ((mo h).mpr (List.mem_range.mp hh)) no (p1.trans e.symm)
    · intro e
      cases q : (List.range n).find? fun a => decide (serD W o (List.range n) a = x) with
      | none => rw [q] at e; have := List.mem_range.mp hh; simp at e; omega
      | some a =>
        have p1 := List.find?_some q
        simp only [decide_eq_true_eq] at p1
        rw [q] at e
        rw [← e]; exact p1
  rw [List.map_congr_left key,zja _ rs (List.range n) List.nodup_range]
  refine List.countP_eq_length.mpr fun o ho => ?_
  have hp := h1 o ho
  have no : o.Nodup := hp.nodup_iff.mpr List.nodup_range
  have mo : ∀ y,y∈o↔y < n := fun y => by rw [hp.mem_iff,List.mem_range]
  obtain ⟨m1,m2⟩ := zfW (zhG (W := W) o (List.range n) no) List.nodup_range (by simp [hp.length_eq]) (fun a ha y hy => hW a ((mo a).mp ha) y (List.mem_range.mp hy))
  have pm : (o.map (serD W o (List.range n))).Perm (List.range n) := zbT (zcr no fun a ha b hb e => m2 a ha b hb no e) (fun y hy => by obtain ⟨a,ha,rfl⟩ := List.mem_map.mp hy; exact m1 a ha) (by simp [hp.length_eq])
  obtain ⟨a,ha,e⟩ := List.mem_map.mp (pm.mem_iff.mpr (List.mem_range.mpr hx))
  simp only [decide_eq_true_eq]
  cases q : (List.range n).find? fun a => decide (serD W o (List.range n) a = x) with
  | none => have := List.find?_eq_none.mp q a (List.mem_range.mpr ((mo a).mp ha)); simp [e] at this
  | some b => exact List.mem_of_find?_eq_some q
theorem zsz (hW : ∀ h,h < n→∀ x,x < n→x∈W h) {rs : List (List Nat)} (h1 : ∀ r∈rs,r.Perm (List.range n)) {h : Nat} (hh : h < n) : ((List.range n).map fun x => rs.countP fun o => decide (serD W o (List.range n) h = x)).sum = rs.length := by
  rw [zja (fun o => serD W o (List.range n) h) rs (List.range n) List.nodup_range]
  refine List.countP_eq_length.mpr fun o ho => ?_
  have hp := h1 o ho
  have no : o.Nodup := hp.nodup_iff.mpr List.nodup_range
  have mo : ∀ y,y∈o↔y < n := fun y => by rw [hp.mem_iff,List.mem_range]
  obtain ⟨m1,_⟩ := zfW (zhG (W := W) o (List.range n) no) List.nodup_range (by simp [hp.length_eq]) (fun a ha y hy => hW a ((mo a).mp ha) y (List.mem_range.mp hy))
  simpa using m1 h ((mo h).mpr hh)
end
end Rg
end
section
namespace Law
open PySem PySem.Spec PyProof.Rows L2 DL
noncomputable abbrev gv (i : Nat) : DL.FE := fun r => DL.getV r i
noncomputable abbrev ci (i : Int) : DL.FE := fun _ => .ok (.int i)
noncomputable abbrev q0 : List DL.Md := [.bw,.bw]
noncomputable abbrev q101 : List DL.Md := [.sh,.sh,.sh]
noncomputable abbrev q102 : List DL.Md := [.sh,.ow,.sh,.sh,.sh,.sh,.sh,.sh]
noncomputable abbrev q103 : List DL.Md := [.bw,.bw,.bw,.sh]
noncomputable abbrev q104 : List DL.Md := [.bw,.sh]
noncomputable abbrev q105 : List DL.Md := [.bw,.bw,.ow,.sh,.sh]
noncomputable abbrev q106 : List DL.Md := [.bw,.bw,.sh,.sh]
noncomputable abbrev q107 : List DL.Md := [.sh,.sh]
noncomputable abbrev q108 : List DL.Md := [.bw,.bw,.bw]
noncomputable abbrev q109 : List DL.Md := [.sh,.bw,.bw,.ow,.sh]
noncomputable abbrev q110 : List DL.Md := [.bw,.bw,.bw,.sh,.sh,.ow,.sh,.sh,.sh]
noncomputable abbrev q111 : List DL.Md := [.bw,.sh,.sh]
noncomputable abbrev q112 : List DL.Md := [.bw,.sh,.sh,.sh,.sh,.sh]
noncomputable abbrev q113 : List DL.Md := [.bw,.bw,.ow,.ow,.sh]
noncomputable abbrev q114 : List DL.Md := [.bw,.bw,.ow,.sh,.sh,.sh,.sh]
noncomputable abbrev q115 : List DL.Md := [.sh,.bw,.ow,.sh]
noncomputable abbrev q116 : List DL.Md := [.bw,.bw,.bw,.bw,.ow,.ow,.sh,.sh]
noncomputable abbrev q117 : List DL.Md := [.bw,.bw,.bw,.sh,.sh,.sh,.sh,.sh,.sh]
noncomputable abbrev q118 : List DL.Md := [.bw,.bw,.sh,.ow,.sh]
noncomputable abbrev q119 : List DL.Md := [.bw,.bw,.sh,.sh,.sh]
noncomputable abbrev q120 : List DL.Md := [.bw,.sh,.sh,.ow,.sh,.sh]
noncomputable abbrev q121 : List DL.Md := [.bw,.bw,.sh,.sh,.sh,.sh,.sh]
noncomputable abbrev q122 : List DL.Md := [.bw,.ow,.sh,.sh,.sh]
noncomputable abbrev q123 : List DL.Md := [.bw,.sh,.sh,.sh,.sh]
noncomputable abbrev q124 : List DL.Md := [.bw,.bw,.bw,.bw,.ow,.ow,.sh,.ow]
noncomputable abbrev q125 : List DL.Md := [.bw,.bw,.bw,.ow,.sh,.ow,.sh,.sh,.sh]
noncomputable abbrev q126 : List DL.Md := [.bw,.bw,.bw,.ow,.ow,.ow,.sh,.sh,.sh]
theorem zfE {α : Type} (us : List α) (h : us.length = 1) : ∃ a0,us = [a0] := by
  match us,h with
  | [_],_ => exact ⟨_,rfl⟩
theorem zdK {α : Type} (us : List α) (h : us.length = 2) : ∃ a0 a1,us = [a0,a1] := by
  match us,h with
  | [_,_],_ => exact ⟨_,_,rfl⟩
theorem zkw {α : Type} (us : List α) (h : us.length = 3) : ∃ a0 a1 a2,us = [a0,a1,a2] := by
  match us,h with
  | [_,_,_],_ => exact ⟨_,_,_,rfl⟩
theorem zsT {α : Type} (us : List α) (h : us.length = 4) : ∃ a0 a1 a2 a3,us = [a0,a1,a2,a3] := by
  match us,h with
  | [_,_,_,_],_ => exact ⟨_,_,_,_,rfl⟩
noncomputable def top (i : Nat) : Stmt := PySem.Challenge.pw_ringtrade_k25_whole_both_lots_alike.main.body.getD i (.Pass ⟨0,0,0,0⟩)
structure Txt (K : PySem.W.Frag) (mg : Str→Option Value) : Prop where
  b_len : mg "len" = none
  b_abs : mg "abs" = none
  b_isinstance : mg "isinstance" = none
  b_bool : mg "bool" = none
  b_int : mg "int" = none
  b_range : mg "range" = none
  b_tuple : mg "tuple" = none
  b_enumerate : mg "enumerate" = none
  b_list : mg "list" = none
  b_all : mg "all" = none
  b_sorted : mg "sorted" = none
  k_MOST_HANDS_IN_LOTS : ∃ t,mg "MOST_HANDS_IN_LOTS" = some (.int 5 t)
noncomputable abbrev zba : Stmt := top 34
noncomputable abbrev zbk : List Str := ["wishes"]
noncomputable abbrev zaA : List Str := ["wishes"]
theorem zco : FnScope zbk zaA (zab zba) := ⟨rfl,rfl,rfl,by decide +kernel,rfl,by decide +kernel,by decide +kernel⟩
noncomputable def zar : FS :=
  (seqF (ifF [Md.bw] (zaL (f2 (fC (zac (gv 0) lNil) lenD) (ci 5) gtI)) (seqF (fun _ => Out.stuck) zak) zak) zak)
noncomputable def zap : List D→Res D := fun ds => outR false (zar (zao zbk.length ds))
theorem zf5 {P : Program} {w : World} {K : PySem.W.Frag} {mg : Str→Option Value} {base : Heap} (T : Txt K mg) (A : DefAt K mg "refuse_too_many_for_lots" zba) : Callee P w K mg base "refuse_too_many_for_lots" zaA [] 1 false [Md.bw] zap := by
  refine zaM (k := 0) (fs := zar) (m' := [Md.bw]) A zco rfl (fun _ _ _ _ _ _ us hl => by obtain ⟨u0,rfl⟩ := zfE us hl; kernel_rfl) fun f cdv A outer s H g E hr => ?_
  have hu1 := za2 hr
  have hu64 := hr.units
  exact (zaa (s_if (q_gt (SE.toB (zcT (by rfl) T.b_len (zaq (vb_ 0) zaP))) (SE.toB (zoS (by rfl) T.k_MOST_HANDS_IN_LOTS))) (zaa zhd
      zaf)
      zaf)
      zaf)
noncomputable abbrev zcl : Stmt := top 17
noncomputable abbrev zcH : List Str := ["one","other","rest"]
noncomputable abbrev zbJ : List Str := ["one","other"]
theorem zaX : FnScope zcH zbJ (zab zcl) := ⟨rfl,rfl,rfl,by decide +kernel,rfl,by decide +kernel,by decide +kernel⟩
noncomputable abbrev zd6 : FQ :=
  (zaL (f2 (gv 1) (ci 0) neD))
noncomputable abbrev zd7 : FS :=
  (seqF (setF q101 2 (f2 (gv 0) (gv 1) modI)) (seqF (setF q101 0 (gv 1)) (seqF (setF q101 1 (gv 2)) zak)))
noncomputable def zcP : FS :=
  (seqF (zbo q101 zd6 zd7 1000) (seqF (retF q101 (fC (zac (gv 0) lNil) absD)) zak))
noncomputable def za5 : List D→Res D := fun ds => outR false (zcP (zao zcH.length ds))
theorem ziO {P : Program} {w : World} {K : PySem.W.Frag} {mg : Str→Option Value} {base : Heap} (T : Txt K mg) (A : DefAt K mg "greatest_divisor" zcl) : Callee P w K mg base "greatest_divisor" zbJ [] 1 false q107 za5 := by
  refine zaM (k := 0) (fs := zcP) (m' := q101) A zaX rfl (fun _ _ _ _ _ _ us hl => by obtain ⟨u0,u1,rfl⟩ := zdK us hl; kernel_rfl) fun f cdv A outer s H g E hr => ?_
  have hu1 := za2 hr
  have hu64 := hr.units
  exact (zaa (zhc 1000 PassesOwn.never (q_ne hu64 (vb_ 1) (SE.toB zas)) (zaa (zbm 2 zaX.nd (by rfl) (by first | exact Or.inl rfl | exact Or.inr rfl) (zfB (vb_ 0) (vb_ 1)))
      (zaa (zbm 0 zaX.nd (by rfl) (by first | exact Or.inl rfl | exact Or.inr rfl) (v_ 1))
      (zaa (zbm 1 zaX.nd (by rfl) (by first | exact Or.inl rfl | exact Or.inr rfl) (v_ 2))
      zaf))))
      (zaa (zaO (zqz (by rfl) T.b_abs (zaq (vb_ 0) zaP)))
      zaf))
noncomputable abbrev zfO : Stmt := top 7
noncomputable abbrev zgW : List Str := ["value"]
noncomputable abbrev zdT : List Str := ["value"]
theorem ziI : FnScope zgW zdT (zab zfO) := ⟨rfl,rfl,rfl,by decide +kernel,rfl,by decide +kernel,by decide +kernel⟩
noncomputable def zg7 : FS :=
  (seqF (retF [Md.bw] (vAnd (f1 (gv 0) (isiD "int")) (vNot (f1 (gv 0) (isiD "bool"))))) zak)
noncomputable def zbD : List D→Res D := fun ds => outR false (zg7 (zao zgW.length ds))
theorem zpm {P : Program} {w : World} {K : PySem.W.Frag} {mg : Str→Option Value} {base : Heap} (T : Txt K mg) (A : DefAt K mg "is_whole" zfO) : Callee P w K mg base "is_whole" zdT [] 1 false [Md.bw] zbD := by
  refine zaM (k := 0) (fs := zg7) (m' := [Md.bw]) A ziI rfl (fun _ _ _ _ _ _ us hl => by obtain ⟨u0,rfl⟩ := zfE us hl; kernel_rfl) fun f cdv A outer s H g E hr => ?_
  have hu1 := za2 hr
  have hu64 := hr.units
  exact (zaa (zaO (zk5 (ziK "int" "int" rfl (zlR _) (by rfl) T.b_isinstance (by rfl) T.b_int (vb_ 0)) (zk0 (zsw (ziK "bool" "bool" rfl (zjO _) (by rfl) T.b_isinstance (by rfl) T.b_bool (vb_ 0))))))
      zaf)
noncomputable abbrev zfQ : Stmt := top 18
noncomputable abbrev zgY : List Str := ["top","bottom","divisor"]
noncomputable abbrev ze7 : List Str := ["top","bottom"]
theorem zel : FnScope zgY ze7 (zab zfQ) := ⟨rfl,rfl,rfl,by decide +kernel,rfl,by decide +kernel,by decide +kernel⟩
noncomputable def zd0 : FS :=
  (seqF (ifF q101 (fOr (fNot (fTru (zat (zac (gv 0) lNil) [] zbD))) (fOr (fNot (fTru (zat (zac (gv 1) lNil) [] zbD))) (zaL (f2 (gv 1) (ci 0) eqD)))) (seqF (fun _ => Out.stuck) zak) zak) (seqF (setF q101 2 (zat (zac (gv 0) (zac (gv 1) lNil)) [] za5)) (seqF (ifF q101 (zaL (f2 (gv 1) (ci 0) ltI)) (seqF (setF q101 2 (f1 (gv 2) negI)) zak) zak) (seqF (retF q101 (mkT (zac (f2 (gv 0) (gv 2) zi3) (zac (f2 (gv 1) (gv 2) zi3) lNil)))) zak))))
noncomputable def zdW : List D→Res D := fun ds => outR false (zd0 (zao zgY.length ds))
theorem zpo {P : Program} {w : World} {K : PySem.W.Frag} {mg : Str→Option Value} {base : Heap} (T : Txt K mg) (A : DefAt K mg "fraction" zfQ) (c_is_whole : Callee P w K mg base "is_whole" zdT [] 1 false [Md.bw] zbD) (c_greatest_divisor : Callee P w K mg base "greatest_divisor" zbJ [] 1 false q107 za5) : Callee P w K mg base "fraction" ze7 [] 2 false q107 zdW := by
  refine zaM (k := 1) (fs := zd0) (m' := q101) A zel rfl (fun _ _ _ _ _ _ us hl => by obtain ⟨u0,u1,rfl⟩ := zdK us hl; kernel_rfl) fun f cdv A outer s H g E hr => ?_
  have hu1 := za2 hr
  have hu64 := hr.units
  exact (zaa (s_if (SW.toQ (q_or (ze0 (zen (SE.toB (zan (dds := []) c_is_whole (hr.mono (by decide)) (m_bw (vb_ 0) zaz))))) (q_or (ze0 (zen (SE.toB (zan (dds := []) c_is_whole (hr.mono (by decide)) (m_bw (vb_ 1) zaz))))) (zhZ (q_eq hu64 (vb_ 1) (SE.toB zas)))))) (zaa zhd
      zaf)
      zaf)
      (zaa (zbm 2 zel.nd (by rfl) (by first | exact Or.inl rfl | exact Or.inr rfl) (zan (dds := []) c_greatest_divisor (hr.mono (by decide)) (m_sh (v_ 0) (m_sh (v_ 1) zaz))))
      (zaa (s_if (q_lt (vb_ 1) (SE.toB zas)) (zaa (zbm 2 zel.nd (by rfl) (by first | exact Or.inl rfl | exact Or.inr rfl) (zsx (vb_ 2)))
      zaf)
      zaf)
      (zaa (zaO (zke (zaV (zhf (vb_ 0) (vb_ 2)) (zaV (zhf (vb_ 1) (vb_ 2)) zb4))))
      zaf))))
noncomputable abbrev zby : Stmt := top 36
noncomputable abbrev zbW : List Str := ["dealings","things","table","hand","got"]
noncomputable abbrev zdm : List Str := ["dealings","things"]
theorem zbz : FnScope zbW zdm (zab zby) := ⟨rfl,rfl,rfl,by decide +kernel,rfl,by decide +kernel,by decide +kernel⟩
noncomputable abbrev zeT : FS :=
  (seqF (setF q105 4 (zcV 1 [3] (fSeq zbn (gv 0)) (ftN 0) (fun _ => Res.ok true) (f2 (gv 0) (gv 1) ixA))) (seqF (mutF "list" q105 2 (zac (fC (zac (zcV 1 [0,4] (fRng rng1 (zac (gv 1) lNil)) (ftN 0) (fun _ => Res.ok true) (zat (zac (fM "list" (gv 2) (zac (gv 0) lNil) zjZ) (zac (fC (zac (gv 1) lNil) lenD) lNil)) [] zdW)) lNil) tupD) lNil) appD) zak))
noncomputable def zdv : FS :=
  (seqF (setF q119 2 (mkL lNil)) (seqF (zca q105 (fRng rng1 (zac (fC (zac (f2 (gv 0) (ci 0) ixA) lNil) lenD) lNil)) (ftN 3) zeT) (seqF (retF q105 (fC (zac (gv 2) lNil) tupD)) zak)))
noncomputable def zbX : List D→Res D := fun ds => outR false (zdv (zao zbW.length ds))
theorem zok {P : Program} {w : World} {K : PySem.W.Frag} {mg : Str→Option Value} {base : Heap} (T : Txt K mg) (A : DefAt K mg "shares_in" zby) (c_fraction : Callee P w K mg base "fraction" ze7 [] 2 false q107 zdW) : Callee P w K mg base "shares_in" zdm [] 3 false q0 zbX := by
  refine zaM (k := 2) (fs := zdv) (m' := q105) A zbz rfl (fun _ _ _ _ _ _ us hl => by obtain ⟨u0,u1,rfl⟩ := zdK us hl; kernel_rfl) fun f cdv A outer s H g E hr => ?_
  have hu1 := za2 hr
  have hu64 := hr.units
  exact (zaa (zcq 2 zbz.nd (by rfl) (by first | exact Or.inl rfl | exact Or.inr rfl) (zgA zb4))
      (zaa (zfC PassesOwn.never rfl (zcd (by rfl) T.b_range (zaq (SE.toB (zcT (by rfl) T.b_len (zaq (SE.toB (zbE hu1 (vb_ 0) (SE.toB zas))) zaP))) zaP)) (zaF 3 zbz.nd (by rfl) (by first | exact Or.inl rfl | exact Or.inr rfl)) (zaa (zbm 4 zbz.nd (by rfl) (by first | exact Or.inl rfl | exact Or.inr rfl) (SO.toE (zfl (X := (cxOf CX0 P w K mg base zbW "shares_in" (zab zby) f cdv A outer s H E).nox) (N' := ["dealing","hand"]) (nl := 1) (cap := [3]) zbz.nd rfl (zaS (osc := (zab zby)) (ON := zbW) rfl rfl (by decide +kernel)) (zcF (vb_ 0)) (fun _ _ _ _ _ _ => (zaF 0 (show List.Nodup (["dealing","hand"] : List Str) by decide +kernel) (by rfl) (by first | exact Or.inl rfl | exact Or.inr rfl))) (zc2 (by decide)) (fun _ _ _ _ _ _ => zeK) (fun _ _ _ _ _ _ => (zbE hu1 (vb_ 0) (vb_ 1))))))
      (zaa (zhe 2 rfl PySem.F.plainAttrs_list PySem.F.slot_list_append PySem.F.type_list_append zc1 zix (by rfl) (by first | exact Or.inl rfl | exact Or.inr (Or.inl rfl) | exact Or.inr (Or.inr rfl)) (zaV (zem (by rfl) T.b_tuple (zaq (SO.toB (zfl (X := (cxOf CX0 P w K mg base zbW "shares_in" (zab zby) f cdv A outer s H E).nox) (N' := ["thing","dealings","got"]) (nl := 1) (cap := [0,4]) zbz.nd rfl (zaS (osc := (zab zby)) (ON := zbW) rfl rfl (by decide +kernel)) (SIt.toC (zcd (by rfl) T.b_range (zaq (vb_ 1) zaP))) (fun _ _ _ _ _ _ => (zaF 0 (show List.Nodup (["thing","dealings","got"] : List Str) by decide +kernel) (by rfl) (by first | exact Or.inl rfl | exact Or.inr rfl))) (zc2 (by decide)) (fun _ _ _ _ _ _ => zeK) (fun _ _ _ _ _ _ => (zan (dds := []) c_fraction (hr.mono (by decide)) (m_sh (s_bm PySem.F.plainAttrs_list PySem.F.slot_list_count PySem.F.type_list_count zlK zmt (vb_ 2) (zaq (vb_ 0) zaP)) (m_sh (zcT (by rfl) T.b_len (zaq (vb_ 1) zaP)) zaz)))))) zaP)) zb4))
      zaf)))
      (zaa (zaO (zem (by rfl) T.b_tuple (zaq (vb_ 2) zaP)))
      zaf)))
noncomputable abbrev zfP : Stmt := top 8
noncomputable abbrev zgX : List Str := ["value","bound"]
noncomputable abbrev ze6 : List Str := ["value","bound"]
theorem ziJ : FnScope zgX ze6 (zab zfP) := ⟨rfl,rfl,rfl,by decide +kernel,rfl,by decide +kernel,by decide +kernel⟩
noncomputable def zdZ : FS :=
  (seqF (retF q0 (vAnd (zat (zac (gv 0) lNil) [] zbD) (zij (ci 0) (gv 0) (gv 1) leI ltI))) zak)
noncomputable def zc9 : List D→Res D := fun ds => outR false (zdZ (zao zgX.length ds))
theorem zpn {P : Program} {w : World} {K : PySem.W.Frag} {mg : Str→Option Value} {base : Heap} (T : Txt K mg) (A : DefAt K mg "is_below" zfP) (c_is_whole : Callee P w K mg base "is_whole" zdT [] 1 false [Md.bw] zbD) : Callee P w K mg base "is_below" ze6 [] 2 false q0 zc9 := by
  refine zaM (k := 1) (fs := zdZ) (m' := q0) A ziJ rfl (fun _ _ _ _ _ _ us hl => by obtain ⟨u0,u1,rfl⟩ := zdK us hl; kernel_rfl) fun f cdv A outer s H g E hr => ?_
  have hu1 := za2 hr
  have hu64 := hr.units
  exact (zaa (zaO (zk5 (zan (dds := []) c_is_whole (hr.mono (by decide)) (m_bw (vb_ 0) zaz)) (zk0 (zm1 zsK zrb zsM zsL (SE.toB zas) (vb_ 0) (vb_ 1)))))
      zaf)
noncomputable abbrev zd8 : Stmt := top 9
noncomputable abbrev zeR : List Str := ["numbers","bound","ahead","place","number"]
noncomputable abbrev zdn : List Str := ["numbers","bound"]
theorem zbY : FnScope zeR zdn (zab zd8) := ⟨rfl,rfl,rfl,by decide +kernel,rfl,by decide +kernel,by decide +kernel⟩
noncomputable abbrev zcw : FS :=
  (seqF (ifF q105 (fOr (fNot (fTru (zat (zac (gv 4) (zac (gv 1) lNil)) [] zc9))) (zaL (f2 (gv 4) (gv 2) inD))) (seqF (retF q105 (gv 3)) zak) zak) (seqF (putF q105 2 (gv 4) (fun _ => Res.ok (D.bl true))) zak))
noncomputable def zcg : FS :=
  (seqF (setF q119 2 (fun _ => Res.ok (D.dic []))) (seqF (zca q105 (fEnu (gv 0)) (ftT (zc3 (ftN 3) (zc3 (ftN 4) zi0))) zcw) (seqF (retF q105 (fC (zac (gv 0) lNil) lenD)) zak)))
noncomputable def zcf : List D→Res D := fun ds => outR false (zcg (zao zeR.length ds))
theorem zmO {P : Program} {w : World} {K : PySem.W.Frag} {mg : Str→Option Value} {base : Heap} (T : Txt K mg) (A : DefAt K mg "first_wrong" zd8) (c_is_below : Callee P w K mg base "is_below" ze6 [] 2 false q0 zc9) : Callee P w K mg base "first_wrong" zdn [] 3 false q0 zcf := by
  refine zaM (k := 2) (fs := zcg) (m' := q105) A zbY rfl (fun _ _ _ _ _ _ us hl => by obtain ⟨u0,u1,rfl⟩ := zdK us hl; kernel_rfl) fun f cdv A outer s H g E hr => ?_
  have hu1 := za2 hr
  have hu64 := hr.units
  exact (zaa (zcq 2 zbY.nd (by rfl) (by first | exact Or.inl rfl | exact Or.inr rfl) zf6)
      (zaa (zk3 PassesOwn.never rfl (zpG (by rfl) T.b_enumerate (vw_ 0)) (zpI rfl (zgQ (zaF 3 zbY.nd (by rfl) (by first | exact Or.inl rfl | exact Or.inr rfl)) (zgQ (zaF 4 zbY.nd (by rfl) (by first | exact Or.inl rfl | exact Or.inr rfl)) zpJ))) (zaa (s_if (SW.toQ (q_or (ze0 (zen (SE.toB (zan (dds := []) c_is_below (hr.mono (by decide)) (m_bw (vb_ 4) (m_bw (vb_ 1) zaz)))))) (zhZ (q_in hu1 (vb_ 4) (vb_ 2))))) (zaa (zaO (v_ 3))
      zaf)
      zaf)
      (zaa (zkg 2 hu1 rfl (by rfl) (by first | exact Or.inl rfl | exact Or.inr (Or.inl rfl) | exact Or.inr (Or.inr rfl)) (vb_ 4) s_bl)
      zaf)))
      (zaa (zaO (zcT (by rfl) T.b_len (zaq (vb_ 0) zaP)))
      zaf)))
noncomputable abbrev zeC : Stmt := top 10
noncomputable abbrev zfs : List Str := ["numbers","bound"]
noncomputable abbrev zdN : List Str := ["numbers","bound"]
theorem zhb : FnScope zfs zdN (zab zeC) := ⟨rfl,rfl,rfl,by decide +kernel,rfl,by decide +kernel,by decide +kernel⟩
noncomputable def zcR : FS :=
  (seqF (retF q0 (f2 (zat (zac (gv 0) (zac (gv 1) lNil)) [] zcf) (fC (zac (gv 0) lNil) lenD) eqD)) zak)
noncomputable def zcN : List D→Res D := fun ds => outR false (zcR (zao zfs.length ds))
theorem znq {P : Program} {w : World} {K : PySem.W.Frag} {mg : Str→Option Value} {base : Heap} (T : Txt K mg) (A : DefAt K mg "are_unlike" zeC) (c_first_wrong : Callee P w K mg base "first_wrong" zdn [] 3 false q0 zcf) : Callee P w K mg base "are_unlike" zdN [] 4 false q0 zcN := by
  refine zaM (k := 3) (fs := zcR) (m' := q0) A zhb rfl (fun _ _ _ _ _ _ us hl => by obtain ⟨u0,u1,rfl⟩ := zdK us hl; kernel_rfl) fun f cdv A outer s H g E hr => ?_
  have hu1 := za2 hr
  have hu64 := hr.units
  exact (zaa (zaO (s_eq hu64 (SE.toB (zan (dds := []) c_first_wrong (hr.mono (by decide)) (m_bw (vb_ 0) (m_bw (vb_ 1) zaz)))) (SE.toB (zcT (by rfl) T.b_len (zaq (vb_ 0) zaP)))))
      zaf)
noncomputable abbrev zdA : Stmt := top 11
noncomputable abbrev zdO : List Str := ["numbers","bound"]
noncomputable abbrev zcu : List Str := ["numbers","bound"]
theorem zfA : FnScope zdO zcu (zab zdA) := ⟨rfl,rfl,rfl,by decide +kernel,rfl,by decide +kernel,by decide +kernel⟩
noncomputable def zbP : FS :=
  (seqF (retF q0 (vAnd (f2 (fC (zac (gv 0) lNil) lenD) (gv 1) eqD) (zat (zac (gv 0) (zac (gv 1) lNil)) [] zcN))) zak)
noncomputable def zbN : List D→Res D := fun ds => outR false (zbP (zao zdO.length ds))
theorem zkO {P : Program} {w : World} {K : PySem.W.Frag} {mg : Str→Option Value} {base : Heap} (T : Txt K mg) (A : DefAt K mg "has_each_once" zdA) (c_are_unlike : Callee P w K mg base "are_unlike" zdN [] 4 false q0 zcN) : Callee P w K mg base "has_each_once" zcu [] 5 false q0 zbN := by
  refine zaM (k := 4) (fs := zbP) (m' := q0) A zfA rfl (fun _ _ _ _ _ _ us hl => by obtain ⟨u0,u1,rfl⟩ := zdK us hl; kernel_rfl) fun f cdv A outer s H g E hr => ?_
  have hu1 := za2 hr
  have hu64 := hr.units
  exact (zaa (zaO (zk5 (s_eq hu64 (SE.toB (zcT (by rfl) T.b_len (zaq (vb_ 0) zaP))) (vb_ 1)) (zk0 (zan (dds := []) c_are_unlike (hr.mono (by decide)) (m_bw (vb_ 0) (m_bw (vb_ 1) zaz))))))
      zaf)
noncomputable abbrev zfN : Stmt := top 15
noncomputable abbrev zgV : List Str := ["wishes","order"]
noncomputable abbrev zdS : List Str := ["wishes","order"]
theorem ziH : FnScope zgV zdS (zab zfN) := ⟨rfl,rfl,rfl,by decide +kernel,rfl,by decide +kernel,by decide +kernel⟩
noncomputable def zck : FS :=
  (seqF (ifF q0 (zaL (f2 (gv 1) (fun _ => Res.ok D.non) isD)) (seqF (retF q0 (fC (zac (fC (zac (gv 0) lNil) lenD) lNil) ziW)) zak) zak) (seqF (ifF q0 (fNot (fTru (zat (zac (gv 1) (zac (fC (zac (gv 0) lNil) lenD) lNil)) [] zbN))) (seqF (fun _ => Out.stuck) zak) zak) (seqF (retF q0 (fC (zac (gv 1) lNil) zkv)) zak)))
noncomputable def zbC : List D→Res D := fun ds => outR false (zck (zao zgV.length ds))
theorem zpl {P : Program} {w : World} {K : PySem.W.Frag} {mg : Str→Option Value} {base : Heap} (T : Txt K mg) (A : DefAtD K mg "order_of" zfN [Value.none]) (c_has_each_once : Callee P w K mg base "has_each_once" zcu [] 5 false q0 zbN) : Callee P w K mg base "order_of" zdS [] 6 false q0 zbC := by
  refine zf7 (ds := []) (k := 5) (fs := zck) (m' := q0) A ziH rfl 2 rfl (fun _ _ _ _ _ _ _ us hl => by obtain ⟨u0,u1,rfl⟩ := zdK us hl; exact ⟨_,rfl,rfl⟩) fun f cdv A outer s H g E hr => ?_
  have hu1 := za2 hr
  have hu64 := hr.units
  exact (zaa (s_if (q_is (vb_ 1) (SE.toB zk1)) (zaa (zaO (SO.toE (ziR rfl (by rfl) T.b_list (by rfl) T.b_range (zaq (SE.toB (zcT (by rfl) T.b_len (zaq (vb_ 0) zaP))) zaP))))
      zaf)
      zaf)
      (zaa (s_if (ze0 (zen (SE.toB (zan (dds := []) c_has_each_once (hr.mono (by decide)) (m_bw (vb_ 1) (m_bw (SE.toB (zcT (by rfl) T.b_len (zaq (vb_ 0) zaP))) zaz)))))) (zaa zhd
      zaf)
      zaf)
      (zaa (zaO (SO.toE (zrl (by rfl) T.b_list (zaq (vb_ 1) zaP))))
      zaf)))
noncomputable abbrev zb9 : Stmt := top 23
noncomputable abbrev zcI : List Str := ["got"]
noncomputable abbrev zb1 : List Str := ["got"]
theorem zeH : FnScope zcI zb1 (zab zb9) := ⟨rfl,rfl,rfl,by decide +kernel,rfl,by decide +kernel,by decide +kernel⟩
noncomputable def zcQ : FS :=
  (seqF (retF [Md.bw] (fC (zac (zcV 1 [0] (fRng rng1 (zac (fC (zac (gv 0) lNil) lenD) lNil)) (ftN 0) (fun _ => Res.ok true) (f2 (gv 1) (gv 0) ixA)) lNil) tupD)) zak)
noncomputable def zbe : List D→Res D := fun ds => outR false (zcQ (zao zcI.length ds))
theorem znp {P : Program} {w : World} {K : PySem.W.Frag} {mg : Str→Option Value} {base : Heap} (T : Txt K mg) (A : DefAt K mg "dealing_of" zb9) : Callee P w K mg base "dealing_of" zb1 [] 1 false [Md.bw] zbe := by
  refine zaM (k := 0) (fs := zcQ) (m' := [Md.bw]) A zeH rfl (fun _ _ _ _ _ _ us hl => by obtain ⟨u0,rfl⟩ := zfE us hl; kernel_rfl) fun f cdv A outer s H g E hr => ?_
  have hu1 := za2 hr
  have hu64 := hr.units
  exact (zaa (zaO (zem (by rfl) T.b_tuple (zaq (SO.toB (zfl (X := (cxOf CX0 P w K mg base zcI "dealing_of" (zab zb9) f cdv A outer s H E).nox) (N' := ["hand","got"]) (nl := 1) (cap := [0]) zeH.nd rfl (zaS (osc := (zab zb9)) (ON := zcI) rfl rfl (by decide +kernel)) (SIt.toC (zcd (by rfl) T.b_range (zaq (SE.toB (zcT (by rfl) T.b_len (zaq (vb_ 0) zaP))) zaP))) (fun _ _ _ _ _ _ => (zaF 0 (show List.Nodup (["hand","got"] : List Str) by decide +kernel) (by rfl) (by first | exact Or.inl rfl | exact Or.inr rfl))) (zc2 (by decide)) (fun _ _ _ _ _ _ => zeK) (fun _ _ _ _ _ _ => (zbE hu1 (vb_ 1) (vb_ 0))))) zaP)))
      zaf)
noncomputable abbrev zcA : Stmt := top 20
noncomputable abbrev zdp : List Str := ["row","things"]
noncomputable abbrev zdo : List Str := ["row","things"]
theorem zfi : FnScope zdp zdo (zab zcA) := ⟨rfl,rfl,rfl,by decide +kernel,rfl,by decide +kernel,by decide +kernel⟩
noncomputable def zdy : FS :=
  (seqF (retF q0 (f2 (zcV 1 [1] (fSeq zbn (gv 0)) (ftN 0) (zaL (f2 (gv 0) (gv 1) inD)) (gv 0)) (ci 0) ixA)) zak)
noncomputable def zbf : List D→Res D := fun ds => outR false (zdy (zao zdp.length ds))
theorem zoo {P : Program} {w : World} {K : PySem.W.Frag} {mg : Str→Option Value} {base : Heap} (T : Txt K mg) (A : DefAt K mg "best_left" zcA) : Callee P w K mg base "best_left" zdo [] 1 false q0 zbf := by
  refine zaM (k := 0) (fs := zdy) (m' := q0) A zfi rfl (fun _ _ _ _ _ _ us hl => by obtain ⟨u0,u1,rfl⟩ := zdK us hl; kernel_rfl) fun f cdv A outer s H g E hr => ?_
  have hu1 := za2 hr
  have hu64 := hr.units
  exact (zaa (zaO (zbE hu1 (SO.toB (zfl (X := (cxOf CX0 P w K mg base zdp "best_left" (zab zcA) f cdv A outer s H E).nox) (N' := ["thing","things"]) (nl := 1) (cap := [1]) zfi.nd rfl (zaS (osc := (zab zcA)) (ON := zdp) rfl rfl (by decide +kernel)) (zcF (vb_ 0)) (fun _ _ _ _ _ _ => (zaF 0 (show List.Nodup (["thing","things"] : List Str) by decide +kernel) (by rfl) (by first | exact Or.inl rfl | exact Or.inr rfl))) (zc2 (by decide)) (fun _ _ _ _ _ _ => (zjA (q_in hu1 (vb_ 0) (vb_ 1)))) (fun _ _ _ _ _ _ => (v_ 0)))) (SE.toB zas)))
      zaf)
noncomputable abbrev zfd : Stmt := top 12
noncomputable abbrev zgq : List Str := ["wishes"]
noncomputable abbrev zbx : List Str := ["wishes"]
theorem zhH : FnScope zgq zbx (zab zfd) := ⟨rfl,rfl,rfl,by decide +kernel,rfl,by decide +kernel,by decide +kernel⟩
noncomputable def zdu : FS :=
  (seqF (retF [Md.bw] (fC (zac (f2 (gv 0) (ci 0) ixA) lNil) lenD)) zak)
noncomputable def zaD : List D→Res D := fun ds => outR false (zdu (zao zgq.length ds))
theorem zoj {P : Program} {w : World} {K : PySem.W.Frag} {mg : Str→Option Value} {base : Heap} (T : Txt K mg) (A : DefAt K mg "things_in" zfd) : Callee P w K mg base "things_in" zbx [] 1 false [Md.bw] zaD := by
  refine zaM (k := 0) (fs := zdu) (m' := [Md.bw]) A zhH rfl (fun _ _ _ _ _ _ us hl => by obtain ⟨u0,rfl⟩ := zfE us hl; kernel_rfl) fun f cdv A outer s H g E hr => ?_
  have hu1 := za2 hr
  have hu64 := hr.units
  exact (zaa (zaO (zcT (by rfl) T.b_len (zaq (SE.toB (zbE hu1 (vb_ 0) (SE.toB zas))) zaP)))
      zaf)
noncomputable abbrev zfR : Stmt := top 25
noncomputable abbrev zg0 : List Str := ["wishes","order","things","got","hand"]
noncomputable abbrev ze8 : List Str := ["wishes","order"]
theorem zde : FnScope zg0 ze8 (zab zfR) := ⟨rfl,rfl,rfl,by decide +kernel,rfl,by decide +kernel,by decide +kernel⟩
noncomputable abbrev zfv : FS :=
  (seqF (putF q113 3 (gv 4) (zat (zac (f2 (gv 0) (gv 4) ixA) (zac (gv 2) lNil)) [] zbf)) (seqF (mutF "list" q113 2 (zac (f2 (gv 3) (gv 4) ixA) lNil) remD) zak))
noncomputable def zd1 : FS :=
  (seqF (setF q119 2 (fC (zac (zat (zac (gv 0) lNil) [] zaD) lNil) ziW)) (seqF (setF q105 3 (fun _ => Res.ok (D.dic []))) (seqF (zca q113 (fSeq zbn (zat (zac (gv 0) (zac (gv 1) lNil)) [] zbC)) (ftN 4) zfv) (seqF (retF q113 (zat (zac (gv 3) lNil) [] zbe)) zak))))
noncomputable def zda : List D→Res D := fun ds => outR false (zd1 (zao zg0.length ds))
theorem zpq {P : Program} {w : World} {K : PySem.W.Frag} {mg : Str→Option Value} {base : Heap} (T : Txt K mg) (A : DefAtD K mg "by_order" zfR [Value.none]) (c_things_in : Callee P w K mg base "things_in" zbx [] 1 false [Md.bw] zaD) (c_order_of : Callee P w K mg base "order_of" zdS [] 6 false q0 zbC) (c_best_left : Callee P w K mg base "best_left" zdo [] 1 false q0 zbf) (c_dealing_of : Callee P w K mg base "dealing_of" zb1 [] 1 false [Md.bw] zbe) : Callee P w K mg base "by_order" ze8 [] 7 false q0 zda := by
  refine zf7 (ds := []) (k := 6) (fs := zd1) (m' := q113) A zde rfl 2 rfl (fun _ _ _ _ _ _ _ us hl => by obtain ⟨u0,u1,rfl⟩ := zdK us hl; exact ⟨_,rfl,rfl⟩) fun f cdv A outer s H g E hr => ?_
  have hu1 := za2 hr
  have hu64 := hr.units
  exact (zaa (zcq 2 zde.nd (by rfl) (by first | exact Or.inl rfl | exact Or.inr rfl) (ziR rfl (by rfl) T.b_list (by rfl) T.b_range (zaq (SE.toB (zan (dds := []) c_things_in (hr.mono (by decide)) (m_bw (vb_ 0) zaz))) zaP)))
      (zaa (zcq 3 zde.nd (by rfl) (by first | exact Or.inl rfl | exact Or.inr rfl) zf6)
      (zaa (zfC PassesOwn.never rfl (zl4 (zan (dds := []) c_order_of (hr.mono (by decide)) (m_bw (vb_ 0) (m_bw (vb_ 1) zaz)))) (zaF 4 zde.nd (by rfl) (by first | exact Or.inl rfl | exact Or.inr rfl)) (zaa (zkg 3 hu1 rfl (by rfl) (by first | exact Or.inl rfl | exact Or.inr (Or.inl rfl) | exact Or.inr (Or.inr rfl)) (vb_ 4) (zan (dds := []) c_best_left (hr.mono (by decide)) (m_bw (SE.toB (zbE hu1 (vb_ 0) (vb_ 4))) (m_bw (vb_ 2) zaz))))
      (zaa (zhe 2 rfl PySem.F.plainAttrs_list PySem.F.slot_list_remove PySem.F.type_list_remove zlI zqF (by rfl) (by first | exact Or.inl rfl | exact Or.inr (Or.inl rfl) | exact Or.inr (Or.inr rfl)) (zaV (zbE hu1 (vb_ 3) (vb_ 4)) zb4))
      zaf)))
      (zaa (zaO (zan (dds := []) c_dealing_of (hr.mono (by decide)) (m_bw (vb_ 3) zaz)))
      zaf))))
noncomputable abbrev zeD : Stmt := top 35
noncomputable abbrev zft : List Str := ["many","orders","number","longer","order","place"]
noncomputable abbrev zcG : List Str := ["many"]
theorem zaY : FnScope zft zcG (zab zeD) := ⟨rfl,rfl,rfl,by decide +kernel,rfl,by decide +kernel,by decide +kernel⟩
noncomputable abbrev zej : FS :=
  (seqF (mutF "list" q120 3 (zac (f2 (f2 (fSl (gv 4) (fun _ => Res.ok none) (zd5 (gv 5))) (mkL (zac (gv 2) lNil)) addE) (fSl (gv 4) (zd5 (gv 5)) (fun _ => Res.ok none)) addE) lNil) appD) zak)
noncomputable abbrev zei : FS :=
  (seqF (zca q120 (fRng rng1 (zac (f2 (gv 2) (ci 1) addA) lNil)) (ftN 5) zej) zak)
noncomputable abbrev zeh : FS :=
  (seqF (setF q112 3 (mkL lNil)) (seqF (zca q120 (fSeq zbn (gv 1)) (ftN 4) zei) (seqF (setF q112 1 (gv 3)) zak)))
noncomputable def zcS : FS :=
  (seqF (setF q112 1 (mkL (zac (mkL lNil) lNil))) (seqF (zca q112 (fRng rng1 (zac (gv 0) lNil)) (ftN 2) zeh) (seqF (retF q112 (gv 1)) zak)))
noncomputable def zaW : List D→Res D := fun ds => outR false (zcS (zao zft.length ds))
theorem znr {P : Program} {w : World} {K : PySem.W.Frag} {mg : Str→Option Value} {base : Heap} (T : Txt K mg) (A : DefAt K mg "all_orders" zeD) : Callee P w K mg base "all_orders" zcG [] 1 false [Md.bw] zaW := by
  refine zaM (k := 0) (fs := zcS) (m' := q112) A zaY rfl (fun _ _ _ _ _ _ us hl => by obtain ⟨u0,rfl⟩ := zfE us hl; kernel_rfl) fun f cdv A outer s H g E hr => ?_
  have hu1 := za2 hr
  have hu64 := hr.units
  exact (zaa (zbm 1 zaY.nd (by rfl) (by first | exact Or.inl rfl | exact Or.inr rfl) (SO.toE (zgA (zaV (SO.toE (zgA zb4)) zb4))))
      (zaa (zfC PassesOwn.never rfl (zcd (by rfl) T.b_range (zaq (vb_ 0) zaP)) (zaF 2 zaY.nd (by rfl) (by first | exact Or.inl rfl | exact Or.inr rfl)) (zaa (zcq 3 zaY.nd (by rfl) (by first | exact Or.inl rfl | exact Or.inr rfl) (zgA zb4))
      (zaa (zfC PassesOwn.never rfl (zl4 (v_ 1)) (zaF 4 zaY.nd (by rfl) (by first | exact Or.inl rfl | exact Or.inr rfl)) (zaa (zfC PassesOwn.never rfl (zcd (by rfl) T.b_range (zaq (SE.toB (zcY (vb_ 2) (SE.toB zas))) zaP)) (zaF 5 zaY.nd (by rfl) (by first | exact Or.inl rfl | exact Or.inr rfl)) (zaa (zhe 3 rfl PySem.F.plainAttrs_list PySem.F.slot_list_append PySem.F.type_list_append zc1 zix (by rfl) (by first | exact Or.inl rfl | exact Or.inr (Or.inl rfl) | exact Or.inr (Or.inr rfl)) (zaV (zhM (SE.toB (zhM (SE.toB (zqp (vb_ 4) zfk (zdI (vb_ 5)))) (SO.toB (zgA (zaV (v_ 2) zb4))))) (SE.toB (zqp (vb_ 4) (zdI (vb_ 5)) zfk))) zb4))
      zaf))
      zaf))
      (zaa (zm0 3 rfl (zbm 1 zaY.nd (by rfl) (by first | exact Or.inl rfl | exact Or.inr rfl) (v_ 3)))
      zaf))))
      (zaa (zaO (v_ 1))
      zaf)))
noncomputable abbrev zjq : Stmt := top 37
noncomputable abbrev znW : List Str := ["wishes","dealings"]
noncomputable abbrev zpX : List Str := ["wishes"]
theorem zn7 : FnScope znW zpX (zab zjq) := ⟨rfl,rfl,rfl,by decide +kernel,rfl,by decide +kernel,by decide +kernel⟩
noncomputable def znY : FS :=
  (seqF (zkG q104 (zat (zac (gv 0) lNil) [] zap)) (seqF (setF q104 1 (zcV 1 [0] (fSeq zbn (zat (zac (fC (zac (gv 0) lNil) lenD) lNil) [] zaW)) (ftN 0) (fun _ => Res.ok true) (zat (zac (gv 1) (zac (gv 0) lNil)) [] zda))) (seqF (retF [.bw,.ow] (zat (zac (gv 1) (zac (zat (zac (gv 0) lNil) [] zaD) lNil)) [] zbX)) zak)))
noncomputable def zmM : List D→Res D := fun ds => outR false (znY (zao znW.length ds))
theorem ztc {P : Program} {w : World} {K : PySem.W.Frag} {mg : Str→Option Value} {base : Heap} (T : Txt K mg) (A : DefAt K mg "lot" zjq) (c_refuse_too_many_for_lots : Callee P w K mg base "refuse_too_many_for_lots" zaA [] 1 false [Md.bw] zap) (c_all_orders : Callee P w K mg base "all_orders" zcG [] 1 false [Md.bw] zaW) (c_by_order : Callee P w K mg base "by_order" ze8 [] 7 false q0 zda) (c_things_in : Callee P w K mg base "things_in" zbx [] 1 false [Md.bw] zaD) (c_shares_in : Callee P w K mg base "shares_in" zdm [] 3 false q0 zbX) : Callee P w K mg base "lot" zpX [] 8 false [Md.bw] zmM := by
  refine zaM (k := 7) (fs := znY) (m' := [.bw,.ow]) A zn7 rfl (fun _ _ _ _ _ _ us hl => by obtain ⟨u0,rfl⟩ := zfE us hl; kernel_rfl) fun f cdv A outer s H g E hr => ?_
  have hu1 := za2 hr
  have hu64 := hr.units
  exact (zaa (zk4 (zan (dds := []) c_refuse_too_many_for_lots (hr.mono (by decide)) (m_bw (vb_ 0) zaz)))
      (zaa (zdF 1 (X := (cxOf CX0 P w K mg base znW "lot" (zab zjq) f cdv A outer s H E).nox) (m := q104) (N' := ["order","wishes"]) (nl := 1) (cap := [0]) zn7.nd rfl (by rfl) (by rfl) (zaS (osc := (zab zjq)) (ON := znW) rfl rfl (by decide +kernel)) (zcF (SE.toB (zan (dds := []) c_all_orders (hr.mono (by decide)) (m_bw (SE.toB (zcT (by rfl) T.b_len (zaq (vb_ 0) zaP))) zaz)))) (fun _ _ _ _ _ _ => (zaF 0 (show List.Nodup (["order","wishes"] : List Str) by decide +kernel) (by rfl) (by first | exact Or.inl rfl | exact Or.inr rfl))) (zc2 (by decide)) (fun _ _ _ _ _ _ => zeK) (fun _ _ _ _ _ _ => (zan (dds := []) c_by_order (hr.mono (by decide)) (m_bw (vb_ 1) (m_bw (vb_ 0) zaz)))))
      (zaa (zaO (zan (dds := []) c_shares_in (hr.mono (by decide)) (m_bw (vb_ 1) (m_bw (SE.toB (zan (dds := []) c_things_in (hr.mono (by decide)) (m_bw (vb_ 0) zaz))) zaz))))
      zaf)))
noncomputable abbrev zfU : Stmt := top 47
noncomputable abbrev zg3 : List Str := ["_law_script","_law_many","_law_found","_law_k","_law_total","_law_j","_law_part"]
noncomputable abbrev zfb : List Str := ["_law_script","_law_many"]
theorem zbv : FnScope zg3 zfb (zab zfU) := ⟨rfl,rfl,rfl,by decide +kernel,rfl,by decide +kernel,by decide +kernel⟩
noncomputable abbrev zfy : FS :=
  (seqF (setF q114 4 (f2 (gv 4) (f2 (f2 (gv 5) (ci 1) addA) (f2 (gv 6) (f2 (ci 10) (ci 30) powI) modI) mulI) addA)) zak)
noncomputable abbrev zfx : FS :=
  (seqF (setF q114 4 (ci 0)) (seqF (zca q114 (fEnu (fSlS (gv 0) (zd5 (f2 (ci 1) (gv 3) addA)) (zd5 (ci 64)) (zd5 (gv 1)))) (ftT (zc3 (ftN 5) (zc3 (ftN 6) zi0))) zfy) (seqF (mutF "list" q114 2 (zac (gv 4) lNil) appD) zak)))
noncomputable def zd4 : FS :=
  (seqF (setF q121 2 (mkL lNil)) (seqF (zca q114 (fRng rng1 (zac (gv 1) lNil)) (ftN 3) zfx) (seqF (retF q121 (gv 2)) zak)))
noncomputable def zdY : List D→Res D := fun ds => outR false (zd4 (zao zg3.length ds))
theorem zpt {P : Program} {w : World} {K : PySem.W.Frag} {mg : Str→Option Value} {base : Heap} (T : Txt K mg) (A : DefAt K mg "_law_all" zfU) : Callee P w K mg base "_law_all" zfb [] 1 false q0 zdY := by
  refine zaM (k := 0) (fs := zd4) (m' := q121) A zbv rfl (fun _ _ _ _ _ _ us hl => by obtain ⟨u0,u1,rfl⟩ := zdK us hl; kernel_rfl) fun f cdv A outer s H g E hr => ?_
  have hu1 := za2 hr
  have hu64 := hr.units
  exact (zaa (zcq 2 zbv.nd (by rfl) (by first | exact Or.inl rfl | exact Or.inr rfl) (zgA zb4))
      (zaa (zfC PassesOwn.never rfl (zcd (by rfl) T.b_range (zaq (vb_ 1) zaP)) (zaF 3 zbv.nd (by rfl) (by first | exact Or.inl rfl | exact Or.inr rfl)) (zaa (zbm 4 zbv.nd (by rfl) (by first | exact Or.inl rfl | exact Or.inr rfl) zas)
      (zaa (zfC PassesOwn.never rfl (zrJ (by rfl) T.b_enumerate (zsv (vb_ 0) (zdI (SE.toB (zcY (SE.toB zas) (vb_ 3)))) (zdI (SE.toB zas)) (zdI (vb_ 1)))) (zpI rfl (zgQ (zaF 5 zbv.nd (by rfl) (by first | exact Or.inl rfl | exact Or.inr rfl)) (zgQ (zaF 6 zbv.nd (by rfl) (by first | exact Or.inl rfl | exact Or.inr rfl)) zpJ))) (zaa (zbm 4 zbv.nd (by rfl) (by first | exact Or.inl rfl | exact Or.inr rfl) (zcY (vb_ 4) (SE.toB (zhK (SE.toB (zcY (vb_ 5) (SE.toB zas))) (SE.toB (zfB (vb_ 6) (SE.toB (zqq (SE.toB zas) (SE.toB zas)))))))))
      zaf))
      (zaa (zhe 2 rfl PySem.F.plainAttrs_list PySem.F.slot_list_append PySem.F.type_list_append zc1 zix (by rfl) (by first | exact Or.inl rfl | exact Or.inr (Or.inl rfl) | exact Or.inr (Or.inr rfl)) (zaV (v_ 4) zb4))
      zaf))))
      (zaa (zm0 2 rfl (zaO (v_ 2)))
      zaf)))
noncomputable abbrev zfh : Stmt := top 40
noncomputable abbrev zgu : List Str := ["_law_script","_law_k","_law_cell_here","_law_stirred"]
noncomputable abbrev zex : List Str := ["_law_script","_law_k"]
theorem zcD : FnScope zgu zex (zab zfh) := ⟨rfl,rfl,rfl,by decide +kernel,rfl,by decide +kernel,by decide +kernel⟩
noncomputable def zcx : FS :=
  (seqF (setF q106 2 (ci 0)) (seqF (ifF q106 (zaL (f2 (gv 1) (fC (zac (gv 0) lNil) lenD) ltI)) (seqF (setF q106 2 (f2 (f2 (gv 0) (gv 1) ixA) (f2 (ci 10) (ci 60) powI) modI)) zak) zak) (seqF (ifF q106 (fAnd (zaL (f2 (fC (zac (gv 0) lNil) lenD) (ci 0) gtI)) (zaL (f2 (f2 (f2 (gv 0) (ci 0) ixA) (ci 2) modI) (ci 0) eqD))) (seqF (retF q106 (gv 2)) zak) zak) (seqF (setF q106 3 (f2 (f2 (f2 (f2 (f2 (f2 (f2 (gv 2) (f2 (f2 (ci 7) (gv 1) mulI) (gv 1) mulI) addA) (f2 (ci 13) (gv 1) mulI) addA) (ci 5) addA) (ci 48271) mulI) (ci 2147483647) modI) (ci 69621) mulI) (ci 1000000007) modI)) (seqF (retF q106 (f2 (f2 (f2 (f2 (f2 (gv 3) (ci 1) addA) (ci 40692) mulI) (ci 2147483629) modI) (ci 39373) mulI) (ci 999999937) modI)) zak)))))
noncomputable def zbg : List D→Res D := fun ds => outR false (zcx (zao zgu.length ds))
theorem zoq {P : Program} {w : World} {K : PySem.W.Frag} {mg : Str→Option Value} {base : Heap} (T : Txt K mg) (A : DefAt K mg "_law_cell" zfh) : Callee P w K mg base "_law_cell" zex [] 1 false q0 zbg := by
  refine zaM (k := 0) (fs := zcx) (m' := q106) A zcD rfl (fun _ _ _ _ _ _ us hl => by obtain ⟨u0,u1,rfl⟩ := zdK us hl; kernel_rfl) fun f cdv A outer s H g E hr => ?_
  have hu1 := za2 hr
  have hu64 := hr.units
  exact (zaa (zbm 2 zcD.nd (by rfl) (by first | exact Or.inl rfl | exact Or.inr rfl) zas)
      (zaa (s_if (q_lt (vb_ 1) (SE.toB (zcT (by rfl) T.b_len (zaq (vb_ 0) zaP)))) (zaa (zbm 2 zcD.nd (by rfl) (by first | exact Or.inl rfl | exact Or.inr rfl) (zfB (SE.toB (zbE hu1 (vb_ 0) (vb_ 1))) (SE.toB (zqq (SE.toB zas) (SE.toB zas)))))
      zaf)
      zaf)
      (zaa (s_if (SW.toQ (zqN (q_gt (SE.toB (zcT (by rfl) T.b_len (zaq (vb_ 0) zaP))) (SE.toB zas)) (zob (q_eq hu64 (SE.toB (zfB (SE.toB (zbE hu1 (vb_ 0) (SE.toB zas))) (SE.toB zas))) (SE.toB zas))))) (zaa (zaO (v_ 2))
      zaf)
      zaf)
      (zaa (zbm 3 zcD.nd (by rfl) (by first | exact Or.inl rfl | exact Or.inr rfl) (zfB (SE.toB (zhK (SE.toB (zfB (SE.toB (zhK (SE.toB (zcY (SE.toB (zcY (SE.toB (zcY (vb_ 2) (SE.toB (zhK (SE.toB (zhK (SE.toB zas) (vb_ 1))) (vb_ 1))))) (SE.toB (zhK (SE.toB zas) (vb_ 1))))) (SE.toB zas))) (SE.toB zas))) (SE.toB zas))) (SE.toB zas))) (SE.toB zas)))
      (zaa (zaO (zfB (SE.toB (zhK (SE.toB (zfB (SE.toB (zhK (SE.toB (zcY (vb_ 3) (SE.toB zas))) (SE.toB zas))) (SE.toB zas))) (SE.toB zas))) (SE.toB zas)))
      zaf)))))
noncomputable abbrev zfS : Stmt := top 41
noncomputable abbrev zg1 : List Str := ["_law_cell_here","_law_m","_law_row_here","_law_thing"]
noncomputable abbrev ze9 : List Str := ["_law_cell_here","_law_m"]
theorem zdf : FnScope zg1 ze9 (zab zfS) := ⟨rfl,rfl,rfl,by decide +kernel,rfl,by decide +kernel,by decide +kernel⟩
noncomputable abbrev zfw : FS :=
  (seqF (mutF "list" q115 2 (zac (f2 (gv 0) (f2 (gv 3) (ci 1) addA) modI) (zac (gv 3) lNil)) insD) (seqF (setF q115 0 (f2 (gv 0) (f2 (gv 3) (ci 1) addA) zmf)) zak))
noncomputable def zd2 : FS :=
  (seqF (setF [.sh,.bw,.sh,.sh] 2 (mkL lNil)) (seqF (zca q115 (fRng rng1 (zac (gv 1) lNil)) (ftN 3) zfw) (seqF (retF q115 (fC (zac (gv 2) lNil) tupD)) zak)))
noncomputable def zcj : List D→Res D := fun ds => outR false (zd2 (zao zg1.length ds))
theorem zpr {P : Program} {w : World} {K : PySem.W.Frag} {mg : Str→Option Value} {base : Heap} (T : Txt K mg) (A : DefAt K mg "_law_row" zfS) : Callee P w K mg base "_law_row" ze9 [] 1 false [.sh,.bw] zcj := by
  refine zaM (k := 0) (fs := zd2) (m' := q115) A zdf rfl (fun _ _ _ _ _ _ us hl => by obtain ⟨u0,u1,rfl⟩ := zdK us hl; kernel_rfl) fun f cdv A outer s H g E hr => ?_
  have hu1 := za2 hr
  have hu64 := hr.units
  exact (zaa (zcq 2 zdf.nd (by rfl) (by first | exact Or.inl rfl | exact Or.inr rfl) (zgA zb4))
      (zaa (zfC PassesOwn.never rfl (zcd (by rfl) T.b_range (zaq (vb_ 1) zaP)) (zaF 3 zdf.nd (by rfl) (by first | exact Or.inl rfl | exact Or.inr rfl)) (zaa (zhe 2 rfl PySem.F.plainAttrs_list PySem.F.slot_list_insert PySem.F.type_list_insert zlJ zrH (by rfl) (by first | exact Or.inl rfl | exact Or.inr (Or.inl rfl) | exact Or.inr (Or.inr rfl)) (zaV (zfB (vb_ 0) (SE.toB (zcY (vb_ 3) (SE.toB zas)))) (zaV (v_ 3) zb4)))
      (zaa (zbm 0 zdf.nd (by rfl) (by first | exact Or.inl rfl | exact Or.inr rfl) (zqu (vb_ 0) (SE.toB (zcY (vb_ 3) (SE.toB zas)))))
      zaf)))
      (zaa (zaO (zem (by rfl) T.b_tuple (zaq (vb_ 2) zaP)))
      zaf)))
noncomputable abbrev zd9 : Stmt := top 42
noncomputable abbrev zeS : List Str := ["_law_one","_law_other","_law_rest"]
noncomputable abbrev zce : List Str := ["_law_one","_law_other"]
theorem zbZ : FnScope zeS zce (zab zd9) := ⟨rfl,rfl,rfl,by decide +kernel,rfl,by decide +kernel,by decide +kernel⟩
noncomputable abbrev zbc : FQ :=
  (zaL (f2 (gv 1) (ci 0) neD))
noncomputable abbrev zbd : FS :=
  (seqF (setF q101 2 (f2 (gv 0) (gv 1) modI)) (seqF (setF q101 0 (gv 1)) (seqF (setF q101 1 (gv 2)) zak)))
noncomputable def zch : FS :=
  (seqF (zbo q101 zbc zbd 1000) (seqF (retF q101 (fC (zac (gv 0) lNil) absD)) zak))
noncomputable def zbi : List D→Res D := fun ds => outR false (zch (zao zeS.length ds))
theorem zmP {P : Program} {w : World} {K : PySem.W.Frag} {mg : Str→Option Value} {base : Heap} (T : Txt K mg) (A : DefAt K mg "_law_common" zd9) : Callee P w K mg base "_law_common" zce [] 1 false q107 zbi := by
  refine zaM (k := 0) (fs := zch) (m' := q101) A zbZ rfl (fun _ _ _ _ _ _ us hl => by obtain ⟨u0,u1,rfl⟩ := zdK us hl; kernel_rfl) fun f cdv A outer s H g E hr => ?_
  have hu1 := za2 hr
  have hu64 := hr.units
  exact (zaa (zhc 1000 PassesOwn.never (q_ne hu64 (vb_ 1) (SE.toB zas)) (zaa (zbm 2 zbZ.nd (by rfl) (by first | exact Or.inl rfl | exact Or.inr rfl) (zfB (vb_ 0) (vb_ 1)))
      (zaa (zbm 0 zbZ.nd (by rfl) (by first | exact Or.inl rfl | exact Or.inr rfl) (v_ 1))
      (zaa (zbm 1 zbZ.nd (by rfl) (by first | exact Or.inl rfl | exact Or.inr rfl) (v_ 2))
      zaf))))
      (zaa (zaO (zqz (by rfl) T.b_abs (zaq (vb_ 0) zaP)))
      zaf))
noncomputable abbrev zcn : Stmt := top 45
noncomputable abbrev zcK : List Str := ["_law_found","_law_one"]
noncomputable abbrev zbL : List Str := ["_law_found"]
theorem zcp : FnScope zcK zbL (zab zcn) := ⟨rfl,rfl,rfl,by decide +kernel,rfl,by decide +kernel,by decide +kernel⟩
noncomputable abbrev zb8 : FS :=
  (seqF (ifF q104 (fOr (fNot (fTru (f1 (gv 1) (isiD "int")))) (fTru (f1 (gv 1) (isiD "bool")))) (seqF (retF q104 (fun _ => Res.ok (D.bl false))) zak) zak) zak)
noncomputable def za8 : FS :=
  (seqF (ifF q104 (fOr (fNot (fTru (f1 (gv 0) (isiD "tuple")))) (zaL (f2 (fC (zac (gv 0) lNil) lenD) (ci 2) neD))) (seqF (retF q104 (fun _ => Res.ok (D.bl false))) zak) zak) (seqF (zca q104 (fSeq zbn (gv 0)) (ftN 1) zb8) (seqF (retF q104 (vAnd (f2 (f2 (gv 0) (ci 1) ixA) (ci 0) gtI) (f2 (zat (zac (f2 (gv 0) (ci 0) ixA) (zac (f2 (gv 0) (ci 1) ixA) lNil)) [] zbi) (ci 1) eqD))) zak)))
noncomputable def za6 : List D→Res D := fun ds => outR false (za8 (zao zcK.length ds))
theorem ziQ {P : Program} {w : World} {K : PySem.W.Frag} {mg : Str→Option Value} {base : Heap} (T : Txt K mg) (A : DefAt K mg "_law_is_fraction" zcn) (c__law_common : Callee P w K mg base "_law_common" zce [] 1 false q107 zbi) : Callee P w K mg base "_law_is_fraction" zbL [] 2 false [Md.bw] za6 := by
  refine zaM (k := 1) (fs := za8) (m' := q104) A zcp rfl (fun _ _ _ _ _ _ us hl => by obtain ⟨u0,rfl⟩ := zfE us hl; kernel_rfl) fun f cdv A outer s H g E hr => ?_
  have hu1 := za2 hr
  have hu64 := hr.units
  exact (zaa (s_if (SW.toQ (q_or (ze0 (zen (SE.toB (ziK "tuple" "tuple" rfl (zgb _) (by rfl) T.b_isinstance (by rfl) T.b_tuple (vb_ 0))))) (zhZ (q_ne hu64 (SE.toB (zcT (by rfl) T.b_len (zaq (vb_ 0) zaP))) (SE.toB zas))))) (zaa (zaO s_bl)
      zaf)
      zaf)
      (zaa (zju PassesOwn.never rfl (zcF (vb_ 0)) (fun _ => (zaF 1 zcp.nd (by rfl) (by first | exact Or.inl rfl | exact Or.inr rfl))) (fun _ => (zaa (s_if (SW.toQ (q_or (ze0 (zen (SE.toB (ziK "int" "int" rfl (zlR _) (by rfl) T.b_isinstance (by rfl) T.b_int (vb_ 1))))) (zhZ (zen (SE.toB (ziK "bool" "bool" rfl (zjO _) (by rfl) T.b_isinstance (by rfl) T.b_bool (vb_ 1))))))) (zaa (zaO s_bl)
      zaf)
      zaf)
      zaf)))
      (zaa (zaO (zk5 (s_gt (SE.toB (zbE hu1 (vb_ 0) (SE.toB zas))) (SE.toB zas)) (zk0 (s_eq hu64 (SE.toB (zan (dds := []) c__law_common (hr.mono (by decide)) (m_sh (zbE hu1 (vb_ 0) (SE.toB zas)) (m_sh (zbE hu1 (vb_ 0) (SE.toB zas)) zaz)))) (SE.toB zas)))))
      zaf)))
noncomputable abbrev zbq : Stmt := top 46
noncomputable abbrev zbM : List Str := ["_law_found","_law_n","_law_m","_law_row_here"]
noncomputable abbrev zcv : List Str := ["_law_found","_law_n","_law_m"]
theorem zb2 : FnScope zbM zcv (zab zbq) := ⟨rfl,rfl,rfl,by decide +kernel,rfl,by decide +kernel,by decide +kernel⟩
noncomputable abbrev zc8 : FS :=
  (seqF (ifF q103 (fOr (fNot (fTru (f1 (gv 3) (isiD "tuple")))) (fOr (zaL (f2 (fC (zac (gv 3) lNil) lenD) (gv 2) neD)) (fNot (fTru (fC (zac (zcV 1 [] (fSeq zbn (gv 3)) (ftN 0) (fun _ => Res.ok true) (zat (zac (gv 0) lNil) [] za6)) lNil) allD))))) (seqF (retF q103 (fun _ => Res.ok (D.bl false))) zak) zak) zak)
noncomputable def zbQ : FS :=
  (seqF (ifF q103 (fOr (fNot (fTru (f1 (gv 0) (isiD "tuple")))) (zaL (f2 (fC (zac (gv 0) lNil) lenD) (gv 1) neD))) (seqF (retF q103 (fun _ => Res.ok (D.bl false))) zak) zak) (seqF (zca q103 (fSeq zbn (gv 0)) (ftN 3) zc8) (seqF (retF q103 (fun _ => Res.ok (D.bl true))) zak)))
noncomputable def zbO : List D→Res D := fun ds => outR false (zbQ (zao zbM.length ds))
theorem zkP {P : Program} {w : World} {K : PySem.W.Frag} {mg : Str→Option Value} {base : Heap} (T : Txt K mg) (A : DefAt K mg "_law_is_table" zbq) (c__law_is_fraction : Callee P w K mg base "_law_is_fraction" zbL [] 2 false [Md.bw] za6) : Callee P w K mg base "_law_is_table" zcv [] 3 false q108 zbO := by
  refine zaM (k := 2) (fs := zbQ) (m' := q103) A zb2 rfl (fun _ _ _ _ _ _ us hl => by obtain ⟨u0,u1,u2,rfl⟩ := zkw us hl; kernel_rfl) fun f cdv A outer s H g E hr => ?_
  have hu1 := za2 hr
  have hu64 := hr.units
  exact (zaa (s_if (SW.toQ (q_or (ze0 (zen (SE.toB (ziK "tuple" "tuple" rfl (zgb _) (by rfl) T.b_isinstance (by rfl) T.b_tuple (vb_ 0))))) (zhZ (q_ne hu64 (SE.toB (zcT (by rfl) T.b_len (zaq (vb_ 0) zaP))) (vb_ 1))))) (zaa (zaO s_bl)
      zaf)
      zaf)
      (zaa (zju PassesOwn.never rfl (zcF (vb_ 0)) (fun _ => (zaF 3 zb2.nd (by rfl) (by first | exact Or.inl rfl | exact Or.inr rfl))) (fun _ => (zaa (s_if (SW.toQ (q_or (ze0 (zen (SE.toB (ziK "tuple" "tuple" rfl (zgb _) (by rfl) T.b_isinstance (by rfl) T.b_tuple (vb_ 3))))) (q_or (q_ne hu64 (SE.toB (zcT (by rfl) T.b_len (zaq (vb_ 3) zaP))) (vb_ 2)) (zhZ (ze0 (zen (SE.toB (zsy rfl (by rfl) T.b_all (zaq (SO.toB (zfl (X := (cxOf CX0 P w K mg base zbM "_law_is_table" (zab zbq) f cdv A outer s H E).nox) (N' := ["_law_one"]) (nl := 1) (cap := []) zb2.nd rfl (zaS (osc := (zab zbq)) (ON := zbM) rfl rfl (by decide +kernel)) (zcF (vb_ 3)) (fun _ _ _ _ _ _ => (zaF 0 (show List.Nodup (["_law_one"] : List Str) by decide +kernel) (by rfl) (by first | exact Or.inl rfl | exact Or.inr rfl))) (zc2 (by decide)) (fun _ _ _ _ _ _ => zeK) (fun _ _ _ _ _ _ => (zan (dds := []) c__law_is_fraction (hr.mono (by decide)) (m_bw (vb_ 0) zaz))))) zaP))))))))) (zaa (zaO s_bl)
      zaf)
      zaf)
      zaf)))
      (zaa (zaO s_bl)
      zaf)))
noncomputable abbrev zff : Stmt := top 13
noncomputable abbrev zgs : List Str := ["wishes"]
noncomputable abbrev zev : List Str := ["wishes"]
theorem zhI : FnScope zgs zev (zab zff) := ⟨rfl,rfl,rfl,by decide +kernel,rfl,by decide +kernel,by decide +kernel⟩
noncomputable def zdx : FS :=
  (seqF (retF [Md.bw] (f2 (zat (zac (gv 0) lNil) [] zaD) (fC (zac (gv 0) lNil) lenD) eqD)) zak)
noncomputable def zdr : List D→Res D := fun ds => outR false (zdx (zao zgs.length ds))
theorem zom {P : Program} {w : World} {K : PySem.W.Frag} {mg : Str→Option Value} {base : Heap} (T : Txt K mg) (A : DefAt K mg "is_square" zff) (c_things_in : Callee P w K mg base "things_in" zbx [] 1 false [Md.bw] zaD) : Callee P w K mg base "is_square" zev [] 2 false [Md.bw] zdr := by
  refine zaM (k := 1) (fs := zdx) (m' := [Md.bw]) A zhI rfl (fun _ _ _ _ _ _ us hl => by obtain ⟨u0,rfl⟩ := zfE us hl; kernel_rfl) fun f cdv A outer s H g E hr => ?_
  have hu1 := za2 hr
  have hu64 := hr.units
  exact (zaa (zaO (s_eq hu64 (SE.toB (zan (dds := []) c_things_in (hr.mono (by decide)) (m_bw (vb_ 0) zaz))) (SE.toB (zcT (by rfl) T.b_len (zaq (vb_ 0) zaP)))))
      zaf)
noncomputable abbrev zbF : Stmt := top 14
noncomputable abbrev zbR : List Str := ["wishes"]
noncomputable abbrev za4 : List Str := ["wishes"]
theorem zdd : FnScope zbR za4 (zab zbF) := ⟨rfl,rfl,rfl,by decide +kernel,rfl,by decide +kernel,by decide +kernel⟩
noncomputable def zaC : FS :=
  (seqF (ifF [Md.bw] (fNot (fTru (zat (zac (gv 0) lNil) [] zdr))) (seqF (fun _ => Out.stuck) zak) zak) zak)
noncomputable def zaN : List D→Res D := fun ds => outR false (zaC (zao zbR.length ds))
theorem zhk {P : Program} {w : World} {K : PySem.W.Frag} {mg : Str→Option Value} {base : Heap} (T : Txt K mg) (A : DefAt K mg "refuse_unless_square" zbF) (c_is_square : Callee P w K mg base "is_square" zev [] 2 false [Md.bw] zdr) : Callee P w K mg base "refuse_unless_square" za4 [] 3 false [Md.bw] zaN := by
  refine zaM (k := 2) (fs := zaC) (m' := [Md.bw]) A zdd rfl (fun _ _ _ _ _ _ us hl => by obtain ⟨u0,rfl⟩ := zfE us hl; kernel_rfl) fun f cdv A outer s H g E hr => ?_
  have hu1 := za2 hr
  have hu64 := hr.units
  exact (zaa (s_if (ze0 (zen (SE.toB (zan (dds := []) c_is_square (hr.mono (by decide)) (m_bw (vb_ 0) zaz))))) (zaa zhd
      zaf)
      zaf)
      zaf)
noncomputable abbrev zeB : Stmt := top 21
noncomputable abbrev zfr : List Str := ["owns","line","thing","hand"]
noncomputable abbrev zdM : List Str := ["owns","line","thing"]
theorem zeG : FnScope zfr zdM (zab zeB) := ⟨rfl,rfl,rfl,by decide +kernel,rfl,by decide +kernel,by decide +kernel⟩
noncomputable abbrev zbp : FS :=
  (seqF (ifF q103 (zaL (f2 (f2 (gv 0) (gv 3) ixA) (gv 2) eqD)) (seqF (retF q103 (gv 3)) zak) zak) zak)
noncomputable def zcO : FS :=
  (seqF (zca q103 (fSeq zbn (gv 1)) (ftN 3) zbp) (seqF (retF q103 (fun _ => Res.ok D.non)) zak))
noncomputable def zcM : List D→Res D := fun ds => outR false (zcO (zao zfr.length ds))
theorem zno {P : Program} {w : World} {K : PySem.W.Frag} {mg : Str→Option Value} {base : Heap} (T : Txt K mg) (A : DefAt K mg "owner_left" zeB) : Callee P w K mg base "owner_left" zdM [] 1 false q108 zcM := by
  refine zaM (k := 0) (fs := zcO) (m' := q103) A zeG rfl (fun _ _ _ _ _ _ us hl => by obtain ⟨u0,u1,u2,rfl⟩ := zkw us hl; kernel_rfl) fun f cdv A outer s H g E hr => ?_
  have hu1 := za2 hr
  have hu64 := hr.units
  exact (zaa (zju PassesOwn.never rfl (zcF (vb_ 1)) (fun _ => (zaF 3 zeG.nd (by rfl) (by first | exact Or.inl rfl | exact Or.inr rfl))) (fun _ => (zaa (s_if (q_eq hu64 (SE.toB (zbE hu1 (vb_ 0) (vb_ 3))) (vb_ 2)) (zaa (zaO (v_ 3))
      zaf)
      zaf)
      zaf)))
      (zaa (zaO zk1)
      zaf))
noncomputable abbrev zcz : Stmt := top 27
noncomputable abbrev zc7 : List Str := ["owns","line","thing","owner"]
noncomputable abbrev zbV : List Str := ["owns","line","thing"]
theorem zcC : FnScope zc7 zbV (zab zcz) := ⟨rfl,rfl,rfl,by decide +kernel,rfl,by decide +kernel,by decide +kernel⟩
noncomputable def zbj : FS :=
  (seqF (setF q103 3 (zat (zac (gv 0) (zac (gv 1) (zac (gv 2) lNil))) [] zcM)) (seqF (retF q103 (fIf (zaL (f2 (gv 3) (fun _ => Res.ok D.non) isD)) (f2 (gv 1) (ci 0) ixA) (gv 3))) zak))
noncomputable def zaT : List D→Res D := fun ds => outR false (zbj (zao zc7.length ds))
theorem zjG {P : Program} {w : World} {K : PySem.W.Frag} {mg : Str→Option Value} {base : Heap} (T : Txt K mg) (A : DefAt K mg "hand_pointed_at" zcz) (c_owner_left : Callee P w K mg base "owner_left" zdM [] 1 false q108 zcM) : Callee P w K mg base "hand_pointed_at" zbV [] 2 false q108 zaT := by
  refine zaM (k := 1) (fs := zbj) (m' := q103) A zcC rfl (fun _ _ _ _ _ _ us hl => by obtain ⟨u0,u1,u2,rfl⟩ := zkw us hl; kernel_rfl) fun f cdv A outer s H g E hr => ?_
  have hu1 := za2 hr
  have hu64 := hr.units
  exact (zaa (zbm 3 zcC.nd (by rfl) (by first | exact Or.inl rfl | exact Or.inr rfl) (zan (dds := []) c_owner_left (hr.mono (by decide)) (m_bw (vb_ 0) (m_bw (vb_ 1) (m_bw (vb_ 2) zaz)))))
      (zaa (zaO (zqs (q_is (vb_ 3) (SE.toB zk1)) (zbE hu1 (vb_ 1) (SE.toB zas)) (v_ 3)))
      zaf))
noncomputable abbrev zfe : Stmt := top 28
noncomputable abbrev zgr : List Str := ["first","targets","behind","ring","hand"]
noncomputable abbrev zeu : List Str := ["first","targets","behind"]
theorem zcB : FnScope zgr zeu (zab zfe) := ⟨rfl,rfl,rfl,by decide +kernel,rfl,by decide +kernel,by decide +kernel⟩
noncomputable abbrev zdl : FQ :=
  (fAnd (zaL (f2 (gv 4) (gv 0) gtI)) (zaL (f2 (fC (zac (gv 3) lNil) lenD) (fC (zac (gv 1) lNil) lenD) ltI)))
noncomputable abbrev zeU : FS :=
  (seqF (mutF "list" q109 3 (zac (mkT (zac (gv 4) (zac (f2 (gv 1) (gv 4) ixA) lNil))) lNil) appD) (seqF (setF q109 4 (f2 (gv 2) (gv 4) ixA)) zak))
noncomputable def zdw : FS :=
  (seqF (setF [.sh,.bw,.bw,.sh,.sh] 3 (mkL (zac (mkT (zac (gv 0) (zac (f2 (gv 1) (gv 0) ixA) lNil))) lNil))) (seqF (setF q109 4 (f2 (gv 2) (gv 0) ixA)) (seqF (zbo q109 zdl zeU 64) (seqF (retF q109 (fIf (zaL (f2 (gv 4) (gv 0) eqD)) (fC (zac (gv 3) lNil) tupD) (fun _ => Res.ok D.non))) zak))))
noncomputable def zdq : List D→Res D := fun ds => outR false (zdw (zao zgr.length ds))
theorem zol {P : Program} {w : World} {K : PySem.W.Frag} {mg : Str→Option Value} {base : Heap} (T : Txt K mg) (A : DefAt K mg "ring_from" zfe) : Callee P w K mg base "ring_from" zeu [] 1 false [.sh,.bw,.bw] zdq := by
  refine zaM (k := 0) (fs := zdw) (m' := q109) A zcB rfl (fun _ _ _ _ _ _ us hl => by obtain ⟨u0,u1,u2,rfl⟩ := zkw us hl; kernel_rfl) fun f cdv A outer s H g E hr => ?_
  have hu1 := za2 hr
  have hu64 := hr.units
  exact (zaa (zcq 3 zcB.nd (by rfl) (by first | exact Or.inl rfl | exact Or.inr rfl) (zgA (zaV (zke (zaV (v_ 0) (zaV (zbE hu1 (vb_ 1) (vb_ 0)) zb4))) zb4)))
      (zaa (zbm 4 zcB.nd (by rfl) (by first | exact Or.inl rfl | exact Or.inr rfl) (zbE hu1 (vb_ 2) (vb_ 0)))
      (zaa (zhc 64 PassesOwn.never (SW.toQ (zqN (q_gt (vb_ 4) (vb_ 0)) (zob (q_lt (SE.toB (zcT (by rfl) T.b_len (zaq (vb_ 3) zaP))) (SE.toB (zcT (by rfl) T.b_len (zaq (vb_ 1) zaP))))))) (zaa (zhe 3 rfl PySem.F.plainAttrs_list PySem.F.slot_list_append PySem.F.type_list_append zc1 zix (by rfl) (by first | exact Or.inl rfl | exact Or.inr (Or.inl rfl) | exact Or.inr (Or.inr rfl)) (zaV (zke (zaV (v_ 4) (zaV (zbE hu1 (vb_ 1) (vb_ 4)) zb4))) zb4))
      (zaa (zbm 4 zcB.nd (by rfl) (by first | exact Or.inl rfl | exact Or.inr rfl) (zbE hu1 (vb_ 2) (vb_ 4)))
      zaf)))
      (zaa (zaO (zqs (q_eq hu64 (vb_ 4) (vb_ 0)) (zem (by rfl) T.b_tuple (zaq (vb_ 3) zaP)) zk1))
      zaf))))
noncomputable abbrev zaJ : Stmt := top 29
noncomputable abbrev zaQ : List Str := ["wishes","owns","line","things","targets","behind","hand","walks"]
noncomputable abbrev zb5 : List Str := ["wishes","owns","line","things"]
theorem zaK : FnScope zaQ zb5 (zab zaJ) := ⟨rfl,rfl,rfl,by decide +kernel,rfl,by decide +kernel,by decide +kernel⟩
noncomputable abbrev zcL : FS :=
  (seqF (putF q116 4 (gv 6) (zat (zac (f2 (gv 0) (gv 6) ixA) (zac (gv 3) lNil)) [] zbf)) (seqF (putF q116 5 (gv 6) (zat (zac (gv 1) (zac (gv 2) (zac (f2 (gv 4) (gv 6) ixA) lNil))) [] zaT)) zak))
noncomputable def zbt : FS :=
  (seqF (setF [.bw,.bw,.bw,.bw,.sh,.sh,.sh,.sh] 4 (fun _ => Res.ok (D.dic []))) (seqF (setF [.bw,.bw,.bw,.bw,.ow,.sh,.sh,.sh] 5 (fun _ => Res.ok (D.dic []))) (seqF (zca q116 (fSeq zbn (gv 2)) (ftN 6) zcL) (seqF (setF q116 7 (zcV 1 [4,5] (fSeq zbn (gv 2)) (ftN 0) (fun _ => Res.ok true) (zat (zac (gv 0) (zac (gv 1) (zac (gv 2) lNil))) [] zdq))) (seqF (retF q124 (fC (zac (zcV 1 [] (fSeq zbn (gv 7)) (ftN 0) (zaL (f2 (gv 0) (fun _ => Res.ok D.non) isnD)) (gv 0)) lNil) zmV)) zak)))))
noncomputable def zbs : List D→Res D := fun ds => outR false (zbt (zao zaQ.length ds))
theorem zkq {P : Program} {w : World} {K : PySem.W.Frag} {mg : Str→Option Value} {base : Heap} (T : Txt K mg) (A : DefAt K mg "rings_of_round" zaJ) (c_best_left : Callee P w K mg base "best_left" zdo [] 1 false q0 zbf) (c_hand_pointed_at : Callee P w K mg base "hand_pointed_at" zbV [] 2 false q108 zaT) (c_ring_from : Callee P w K mg base "ring_from" zeu [] 1 false [.sh,.bw,.bw] zdq) : Callee P w K mg base "rings_of_round" zb5 [] 3 false [.bw,.bw,.bw,.bw] zbs := by
  refine zaM (k := 2) (fs := zbt) (m' := q124) A zaK rfl (fun _ _ _ _ _ _ us hl => by obtain ⟨u0,u1,u2,u3,rfl⟩ := zsT us hl; kernel_rfl) fun f cdv A outer s H g E hr => ?_
  have hu1 := za2 hr
  have hu64 := hr.units
  exact (zaa (zcq 4 zaK.nd (by rfl) (by first | exact Or.inl rfl | exact Or.inr rfl) zf6)
      (zaa (zcq 5 zaK.nd (by rfl) (by first | exact Or.inl rfl | exact Or.inr rfl) zf6)
      (zaa (zk3 PassesOwn.never rfl (zou (vw_ 2)) (zaF 6 zaK.nd (by rfl) (by first | exact Or.inl rfl | exact Or.inr rfl)) (zaa (zkg 4 hu1 rfl (by rfl) (by first | exact Or.inl rfl | exact Or.inr (Or.inl rfl) | exact Or.inr (Or.inr rfl)) (vb_ 6) (zan (dds := []) c_best_left (hr.mono (by decide)) (m_bw (SE.toB (zbE hu1 (vb_ 0) (vb_ 6))) (m_bw (vb_ 3) zaz))))
      (zaa (zkg 5 hu1 rfl (by rfl) (by first | exact Or.inl rfl | exact Or.inr (Or.inl rfl) | exact Or.inr (Or.inr rfl)) (vb_ 6) (zan (dds := []) c_hand_pointed_at (hr.mono (by decide)) (m_bw (vb_ 1) (m_bw (vb_ 2) (m_bw (SE.toB (zbE hu1 (vb_ 4) (vb_ 6))) zaz)))))
      zaf)))
      (zaa (zdF 7 (X := (cxOf CX0 P w K mg base zaQ "rings_of_round" (zab zaJ) f cdv A outer s H E).nox) (m := q116) (N' := ["hand","targets","behind"]) (nl := 1) (cap := [4,5]) zaK.nd rfl (by rfl) (by rfl) (zaS (osc := (zab zaJ)) (ON := zaQ) rfl rfl (by decide +kernel)) (zcF (vb_ 2)) (fun _ _ _ _ _ _ => (zaF 0 (show List.Nodup (["hand","targets","behind"] : List Str) by decide +kernel) (by rfl) (by first | exact Or.inl rfl | exact Or.inr rfl))) (zc2 (by decide)) (fun _ _ _ _ _ _ => zeK) (fun _ _ _ _ _ _ => (zan (dds := []) c_ring_from (hr.mono (by decide)) (m_sh (v_ 0) (m_bw (vb_ 1) (m_bw (vb_ 2) zaz))))))
      (zaa (zaO (SO.toE (zns hr (by rfl) T.b_sorted (zaq (SO.toB (zfl (X := (cxOf CX0 P w K mg base zaQ "rings_of_round" (zab zaJ) f cdv A outer s H E).nox) (N' := ["ring"]) (nl := 1) (cap := []) zaK.nd rfl (zaS (osc := (zab zaJ)) (ON := zaQ) rfl rfl (by decide +kernel)) (zcF (vb_ 7)) (fun _ _ _ _ _ _ => (zaF 0 (show List.Nodup (["ring"] : List Str) by decide +kernel) (by rfl) (by first | exact Or.inl rfl | exact Or.inr rfl))) (zc2 (by decide)) (fun _ _ _ _ _ _ => (zjA (zsB (vb_ 0) (SE.toB zk1)))) (fun _ _ _ _ _ _ => (v_ 0)))) zaP))))
      zaf)))))
noncomputable abbrev zhB : Stmt := top 22
noncomputable abbrev zj5 : List Str := ["rings","got","ring","hand","thing"]
noncomputable abbrev zeQ : List Str := ["rings"]
theorem zdE : FnScope zj5 zeQ (zab zhB) := ⟨rfl,rfl,rfl,by decide +kernel,rfl,by decide +kernel,by decide +kernel⟩
noncomputable abbrev zg6 : FS :=
  (seqF (putF q122 1 (gv 3) (gv 4)) zak)
noncomputable abbrev zg5 : FS :=
  (seqF (zca q122 (fSeq zbn (gv 2)) (ftT (zc3 (ftN 3) (zc3 (ftN 4) zi0))) zg6) zak)
noncomputable def zfL : FS :=
  (seqF (setF q123 1 (fun _ => Res.ok (D.dic []))) (seqF (zca q122 (fSeq zbn (gv 0)) (ftN 2) zg5) (seqF (retF q123 (gv 1)) zak)))
noncomputable def zds : List D→Res D := fun ds => outR false (zfL (zao zj5.length ds))
theorem zrj {P : Program} {w : World} {K : PySem.W.Frag} {mg : Str→Option Value} {base : Heap} (T : Txt K mg) (A : DefAt K mg "got_in" zhB) : Callee P w K mg base "got_in" zeQ [] 1 false [Md.bw] zds := by
  refine zaM (k := 0) (fs := zfL) (m' := q123) A zdE rfl (fun _ _ _ _ _ _ us hl => by obtain ⟨u0,rfl⟩ := zfE us hl; kernel_rfl) fun f cdv A outer s H g E hr => ?_
  have hu1 := za2 hr
  have hu64 := hr.units
  exact (zaa (zcq 1 zdE.nd (by rfl) (by first | exact Or.inl rfl | exact Or.inr rfl) zf6)
      (zaa (zk3 PassesOwn.never rfl (zou (vw_ 0)) (zaF 2 zdE.nd (by rfl) (by first | exact Or.inl rfl | exact Or.inr rfl)) (zaa (zfC PassesOwn.never rfl (zl4 (v_ 2)) (zpI rfl (zgQ (zaF 3 zdE.nd (by rfl) (by first | exact Or.inl rfl | exact Or.inr rfl)) (zgQ (zaF 4 zdE.nd (by rfl) (by first | exact Or.inl rfl | exact Or.inr rfl)) zpJ))) (zaa (zkg 1 hu1 rfl (by rfl) (by first | exact Or.inl rfl | exact Or.inr (Or.inl rfl) | exact Or.inr (Or.inr rfl)) (vb_ 3) (v_ 4))
      zaf))
      zaf))
      (zaa (zm0 1 rfl (zaO (v_ 1)))
      zaf)))
noncomputable abbrev zcW : Stmt := top 30
noncomputable abbrev zdV : List Str := ["wishes","owns","order","line","things","told","rings","got","taken"]
noncomputable abbrev zfJ : List Str := ["wishes","owns","order"]
theorem zbG : FnScope zdV zfJ (zab zcW) := ⟨rfl,rfl,rfl,by decide +kernel,rfl,by decide +kernel,by decide +kernel⟩
noncomputable abbrev zgU : FQ :=
  (fTru (gv 3))
noncomputable abbrev zg4 : FS :=
  (seqF (setF q110 6 (zat (zac (gv 0) (zac (gv 1) (zac (gv 3) (zac (gv 4) lNil)))) [] zbs)) (seqF (setF q110 7 (zat (zac (gv 6) lNil) [] zds)) (seqF (setF q110 8 (f1 (gv 7) zoD)) (seqF (setF q110 3 (zcV 1 [7] (fSeq zbn (gv 3)) (ftN 0) (zaL (f2 (gv 0) (gv 1) ninD)) (gv 0))) (seqF (setF q125 4 (zcV 1 [8] (fSeq zbn (gv 4)) (ftN 0) (zaL (f2 (gv 0) (gv 1) ninD)) (gv 0))) (seqF (mutF "list" q126 5 (zac (gv 6) lNil) appD) zak))))))
noncomputable def zfK : FS :=
  (seqF (setF q117 3 (zat (zac (gv 0) (zac (gv 2) lNil)) [] zbC)) (seqF (setF q117 4 (fC (zac (zat (zac (gv 0) lNil) [] zaD) lNil) ziW)) (seqF (setF q117 5 (mkL lNil)) (seqF (zbo q110 zgU zg4 64) (seqF (retF q117 (gv 5)) zak)))))
noncomputable def zeV : List D→Res D := fun ds => outR false (zfK (zao zdV.length ds))
theorem zri {P : Program} {w : World} {K : PySem.W.Frag} {mg : Str→Option Value} {base : Heap} (T : Txt K mg) (A : DefAtD K mg "rounds" zcW [Value.none]) (c_order_of : Callee P w K mg base "order_of" zdS [] 6 false q0 zbC) (c_things_in : Callee P w K mg base "things_in" zbx [] 1 false [Md.bw] zaD) (c_rings_of_round : Callee P w K mg base "rings_of_round" zb5 [] 3 false [.bw,.bw,.bw,.bw] zbs) (c_got_in : Callee P w K mg base "got_in" zeQ [] 1 false [Md.bw] zds) : Callee P w K mg base "rounds" zfJ [] 7 false q108 zeV := by
  refine zf7 (ds := []) (k := 6) (fs := zfK) (m' := q117) A zbG rfl 3 rfl (fun _ _ _ _ _ _ _ us hl => by obtain ⟨u0,u1,u2,rfl⟩ := zkw us hl; exact ⟨_,rfl,rfl⟩) fun f cdv A outer s H g E hr => ?_
  have hu1 := za2 hr
  have hu64 := hr.units
  exact (zaa (zbm 3 zbG.nd (by rfl) (by first | exact Or.inl rfl | exact Or.inr rfl) (zan (dds := []) c_order_of (hr.mono (by decide)) (m_bw (vb_ 0) (m_bw (vb_ 2) zaz))))
      (zaa (zbm 4 zbG.nd (by rfl) (by first | exact Or.inl rfl | exact Or.inr rfl) (SO.toE (ziR rfl (by rfl) T.b_list (by rfl) T.b_range (zaq (SE.toB (zan (dds := []) c_things_in (hr.mono (by decide)) (m_bw (vb_ 0) zaz))) zaP))))
      (zaa (zcq 5 zbG.nd (by rfl) (by first | exact Or.inl rfl | exact Or.inr rfl) (zgA zb4))
      (zaa (zhc 64 PassesOwn.never (zen (vb_ 3)) (zhC (m' := [.bw,.bw,.bw,.sh,.ow,.ow,.sh,.sh,.sh]) 4 (zhC (m' := q126) 3 (zaa (zbm 6 zbG.nd (by rfl) (by first | exact Or.inl rfl | exact Or.inr rfl) (zan (dds := []) c_rings_of_round (hr.mono (by decide)) (m_bw (vb_ 0) (m_bw (vb_ 1) (m_bw (vb_ 3) (m_bw (vb_ 4) zaz))))))
      (zaa (zbm 7 zbG.nd (by rfl) (by first | exact Or.inl rfl | exact Or.inr rfl) (zan (dds := []) c_got_in (hr.mono (by decide)) (m_bw (vb_ 6) zaz)))
      (zaa (zbm 8 zbG.nd (by rfl) (by first | exact Or.inl rfl | exact Or.inr rfl) (SO.toE (zrk rfl (by rfl) T.b_list (vb_ 7))))
      (zaa (zdF 3 (X := (cxOf CX0 P w K mg base zdV "rounds" (zab zcW) f cdv A outer s H E).nox) (m := q110) (N' := ["hand","got"]) (nl := 1) (cap := [7]) zbG.nd rfl (by rfl) (by rfl) (zaS (osc := (zab zcW)) (ON := zdV) rfl rfl (by decide +kernel)) (zcF (vb_ 3)) (fun _ _ _ _ _ _ => (zaF 0 (show List.Nodup (["hand","got"] : List Str) by decide +kernel) (by rfl) (by first | exact Or.inl rfl | exact Or.inr rfl))) (zc2 (by decide)) (fun _ _ _ _ _ _ => (zjA (zqM hu1 (vb_ 0) (vb_ 1)))) (fun _ _ _ _ _ _ => (v_ 0)))
      (zaa (zdF 4 (X := (cxOf CX0 P w K mg base zdV "rounds" (zab zcW) f cdv A outer s H E).nox) (m := q125) (N' := ["thing","taken"]) (nl := 1) (cap := [8]) zbG.nd rfl (by rfl) (by rfl) (zaS (osc := (zab zcW)) (ON := zdV) rfl rfl (by decide +kernel)) (zcF (vb_ 4)) (fun _ _ _ _ _ _ => (zaF 0 (show List.Nodup (["thing","taken"] : List Str) by decide +kernel) (by rfl) (by first | exact Or.inl rfl | exact Or.inr rfl))) (zc2 (by decide)) (fun _ _ _ _ _ _ => (zjA (zqM hu1 (vb_ 0) (vb_ 1)))) (fun _ _ _ _ _ _ => (v_ 0)))
      (zaa (zhe 5 rfl PySem.F.plainAttrs_list PySem.F.slot_list_append PySem.F.type_list_append zc1 zix (by rfl) (by first | exact Or.inl rfl | exact Or.inr (Or.inl rfl) | exact Or.inr (Or.inr rfl)) (zaV (v_ 6) zb4))
      zaf)))))) rfl) rfl))
      (zaa (zm0 5 rfl (zaO (v_ 5)))
      zaf)))))
noncomputable abbrev zek : Stmt := top 31
noncomputable abbrev zgZ : List Str := ["wishes","owns","order","got","rings"]
noncomputable abbrev zdU : List Str := ["wishes","owns","order"]
theorem zbS : FnScope zgZ zdU (zab zek) := ⟨rfl,rfl,rfl,by decide +kernel,rfl,by decide +kernel,by decide +kernel⟩
noncomputable abbrev zfu : FS :=
  (seqF (mutF "dict" q118 3 (zac (zat (zac (gv 4) lNil) [] zds) lNil) updD) zak)
noncomputable def zdb : FS :=
  (seqF (setF q119 3 (fun _ => Res.ok (D.dic []))) (seqF (zca q118 (fSeq zbn (zat (zac (gv 0) (zac (gv 1) (zac (gv 2) lNil))) [] zeV)) (ftN 4) zfu) (seqF (retF q118 (zat (zac (gv 3) lNil) [] zbe)) zak)))
noncomputable def zci : List D→Res D := fun ds => outR false (zdb (zao zgZ.length ds))
theorem zpp {P : Program} {w : World} {K : PySem.W.Frag} {mg : Str→Option Value} {base : Heap} (T : Txt K mg) (A : DefAtD K mg "by_rings" zek [Value.none]) (c_rounds : Callee P w K mg base "rounds" zfJ [] 7 false q108 zeV) (c_got_in : Callee P w K mg base "got_in" zeQ [] 1 false [Md.bw] zds) (c_dealing_of : Callee P w K mg base "dealing_of" zb1 [] 1 false [Md.bw] zbe) : Callee P w K mg base "by_rings" zdU [] 8 false [.bw,.bw,.sh] zci := by
  refine zf7 (ds := []) (k := 7) (fs := zdb) (m' := q118) A zbS rfl 3 rfl (fun _ _ _ _ _ _ _ us hl => by obtain ⟨u0,u1,u2,rfl⟩ := zkw us hl; exact ⟨_,rfl,rfl⟩) fun f cdv A outer s H g E hr => ?_
  have hu1 := za2 hr
  have hu64 := hr.units
  exact (zaa (zcq 3 zbS.nd (by rfl) (by first | exact Or.inl rfl | exact Or.inr rfl) zf6)
      (zaa (zfC PassesOwn.never rfl (zl4 (zan (dds := []) c_rounds (hr.mono (by decide)) (m_bw (vb_ 0) (m_bw (vb_ 1) (m_bw (vb_ 2) zaz))))) (zaF 4 zbS.nd (by rfl) (by first | exact Or.inl rfl | exact Or.inr rfl)) (zaa (zhe 3 rfl PySem.F.plainAttrs_dict PySem.F.slot_dict_update PySem.F.type_dict_update zh8 zn1 (by rfl) (by first | exact Or.inl rfl | exact Or.inr (Or.inl rfl) | exact Or.inr (Or.inr rfl)) (zaV (zan (dds := []) c_got_in (hr.mono (by decide)) (m_bw (vb_ 4) zaz)) zb4))
      zaf))
      (zaa (zaO (zan (dds := []) c_dealing_of (hr.mono (by decide)) (m_bw (vb_ 3) zaz)))
      zaf)))
theorem zon {P : Program} {w : World} {K : PySem.W.Frag} {mg : Str→Option Value} {base : Heap} (T : Txt K mg) (A : DefAtD K mg "by_rings" zek [Value.none]) (c_rounds : Callee P w K mg base "rounds" zfJ [] 7 false q108 zeV) (c_got_in : Callee P w K mg base "got_in" zeQ [] 1 false [Md.bw] zds) (c_dealing_of : Callee P w K mg base "dealing_of" zb1 [] 1 false [Md.bw] zbe) : Callee P w K mg base "by_rings" zdU [Value.none] 8 false [.bw,.bw,.sh] zci := by
  refine zf7 (ds := [Value.none]) (k := 7) (fs := zdb) (m' := q118) A zbS rfl 2 rfl (fun _ _ _ _ _ _ _ us hl => by obtain ⟨u0,u1,rfl⟩ := zdK us hl; exact ⟨_,rfl,rfl⟩) fun f cdv A outer s H g E hr => ?_
  have hu1 := za2 hr
  have hu64 := hr.units
  exact (zaa (zcq 3 zbS.nd (by rfl) (by first | exact Or.inl rfl | exact Or.inr rfl) zf6)
      (zaa (zfC PassesOwn.never rfl (zl4 (zan (dds := []) c_rounds (hr.mono (by decide)) (m_bw (vb_ 0) (m_bw (vb_ 1) (m_bw (vb_ 2) zaz))))) (zaF 4 zbS.nd (by rfl) (by first | exact Or.inl rfl | exact Or.inr rfl)) (zaa (zhe 3 rfl PySem.F.plainAttrs_dict PySem.F.slot_dict_update PySem.F.type_dict_update zh8 zn1 (by rfl) (by first | exact Or.inl rfl | exact Or.inr (Or.inl rfl) | exact Or.inr (Or.inr rfl)) (zaV (zan (dds := []) c_got_in (hr.mono (by decide)) (m_bw (vb_ 4) zaz)) zb4))
      zaf))
      (zaa (zaO (zan (dds := []) c_dealing_of (hr.mono (by decide)) (m_bw (vb_ 3) zaz)))
      zaf)))
noncomputable abbrev zbh : Stmt := top 38
noncomputable abbrev zbr : List Str := ["wishes","dealings"]
noncomputable abbrev zb6 : List Str := ["wishes"]
theorem zcX : FnScope zbr zb6 (zab zbh) := ⟨rfl,rfl,rfl,by decide +kernel,rfl,by decide +kernel,by decide +kernel⟩
noncomputable def zbu : FS :=
  (seqF (zkG q104 (zat (zac (gv 0) lNil) [] zaN)) (seqF (zkG q104 (zat (zac (gv 0) lNil) [] zap)) (seqF (setF q104 1 (zcV 1 [0] (fSeq zbn (zat (zac (fC (zac (gv 0) lNil) lenD) lNil) [] zaW)) (ftN 0) (fun _ => Res.ok true) (zat (zac (gv 1) (zac (fC (zac (gv 0) lNil) tupD) lNil)) [D.non] zci))) (seqF (retF [.bw,.ow] (zat (zac (gv 1) (zac (zat (zac (gv 0) lNil) [] zaD) lNil)) [] zbX)) zak))))
noncomputable def za1 : List D→Res D := fun ds => outR false (zbu (zao zbr.length ds))
theorem zkr {P : Program} {w : World} {K : PySem.W.Frag} {mg : Str→Option Value} {base : Heap} (T : Txt K mg) (A : DefAt K mg "lot_of_ownings" zbh) (c_refuse_unless_square : Callee P w K mg base "refuse_unless_square" za4 [] 3 false [Md.bw] zaN) (c_refuse_too_many_for_lots : Callee P w K mg base "refuse_too_many_for_lots" zaA [] 1 false [Md.bw] zap) (c_all_orders : Callee P w K mg base "all_orders" zcG [] 1 false [Md.bw] zaW) (c_by_rings' : Callee P w K mg base "by_rings" zdU [Value.none] 8 false [.bw,.bw,.sh] zci) (c_things_in : Callee P w K mg base "things_in" zbx [] 1 false [Md.bw] zaD) (c_shares_in : Callee P w K mg base "shares_in" zdm [] 3 false q0 zbX) : Callee P w K mg base "lot_of_ownings" zb6 [] 9 false [Md.bw] za1 := by
  refine zaM (k := 8) (fs := zbu) (m' := [.bw,.ow]) A zcX rfl (fun _ _ _ _ _ _ us hl => by obtain ⟨u0,rfl⟩ := zfE us hl; kernel_rfl) fun f cdv A outer s H g E hr => ?_
  have hu1 := za2 hr
  have hu64 := hr.units
  exact (zaa (zk4 (zan (dds := []) c_refuse_unless_square (hr.mono (by decide)) (m_bw (vb_ 0) zaz)))
      (zaa (zk4 (zan (dds := []) c_refuse_too_many_for_lots (hr.mono (by decide)) (m_bw (vb_ 0) zaz)))
      (zaa (zdF 1 (X := (cxOf CX0 P w K mg base zbr "lot_of_ownings" (zab zbh) f cdv A outer s H E).nox) (m := q104) (N' := ["things","wishes"]) (nl := 1) (cap := [0]) zcX.nd rfl (by rfl) (by rfl) (zaS (osc := (zab zbh)) (ON := zbr) rfl rfl (by decide +kernel)) (zcF (SE.toB (zan (dds := []) c_all_orders (hr.mono (by decide)) (m_bw (SE.toB (zcT (by rfl) T.b_len (zaq (vb_ 0) zaP))) zaz)))) (fun _ _ _ _ _ _ => (zaF 0 (show List.Nodup (["things","wishes"] : List Str) by decide +kernel) (by rfl) (by first | exact Or.inl rfl | exact Or.inr rfl))) (zc2 (by decide)) (fun _ _ _ _ _ _ => zeK) (fun _ _ _ _ _ _ => (zan (dvs := [.non]) (dds := [D.non]) c_by_rings' (hr.mono (by decide)) (m_bw (vb_ 1) (m_bw (SE.toB (zem (by rfl) T.b_tuple (zaq (vb_ 0) zaP))) zaz)) (hd := .cons rfl .nil) (hsc := .cons .non .nil))))
      (zaa (zaO (zan (dds := []) c_shares_in (hr.mono (by decide)) (m_bw (vb_ 1) (m_bw (SE.toB (zan (dds := []) c_things_in (hr.mono (by decide)) (m_bw (vb_ 0) zaz))) zaz))))
      zaf))))
noncomputable abbrev zfT : Stmt := top 43
noncomputable abbrev zg2 : List Str := ["_law_top","_law_bottom","_law_by"]
noncomputable abbrev zfa : List Str := ["_law_top","_law_bottom"]
theorem zfY : FnScope zg2 zfa (zab zfT) := ⟨rfl,rfl,rfl,by decide +kernel,rfl,by decide +kernel,by decide +kernel⟩
noncomputable def zd3 : FS :=
  (seqF (setF q101 2 (zat (zac (gv 0) (zac (gv 1) lNil)) [] zbi)) (seqF (retF q101 (mkT (zac (f2 (gv 0) (gv 2) zi3) (zac (f2 (gv 1) (gv 2) zi3) lNil)))) zak))
noncomputable def zdX : List D→Res D := fun ds => outR false (zd3 (zao zg2.length ds))
theorem zps {P : Program} {w : World} {K : PySem.W.Frag} {mg : Str→Option Value} {base : Heap} (T : Txt K mg) (A : DefAt K mg "_law_low" zfT) (c__law_common : Callee P w K mg base "_law_common" zce [] 1 false q107 zbi) : Callee P w K mg base "_law_low" zfa [] 2 false q107 zdX := by
  refine zaM (k := 1) (fs := zd3) (m' := q101) A zfY rfl (fun _ _ _ _ _ _ us hl => by obtain ⟨u0,u1,rfl⟩ := zdK us hl; kernel_rfl) fun f cdv A outer s H g E hr => ?_
  have hu1 := za2 hr
  have hu64 := hr.units
  exact (zaa (zbm 2 zfY.nd (by rfl) (by first | exact Or.inl rfl | exact Or.inr rfl) (zan (dds := []) c__law_common (hr.mono (by decide)) (m_sh (v_ 0) (m_sh (v_ 1) zaz))))
      (zaa (zaO (zke (zaV (zhf (vb_ 0) (vb_ 2)) (zaV (zhf (vb_ 1) (vb_ 2)) zb4))))
      zaf))
noncomputable abbrev zfg : Stmt := top 44
noncomputable abbrev zgt : List Str := ["_law_a","_law_b"]
noncomputable abbrev zew : List Str := ["_law_a","_law_b"]
theorem zhJ : FnScope zgt zew (zab zfg) := ⟨rfl,rfl,rfl,by decide +kernel,rfl,by decide +kernel,by decide +kernel⟩
noncomputable def zdz : FS :=
  (seqF (retF q0 (zat (zac (f2 (f2 (f2 (gv 0) (ci 0) ixA) (f2 (gv 1) (ci 1) ixA) mulW) (f2 (f2 (gv 1) (ci 0) ixA) (f2 (gv 0) (ci 1) ixA) mulW) addA) (zac (f2 (f2 (gv 0) (ci 1) ixA) (f2 (gv 1) (ci 1) ixA) mulW) lNil)) [] zdX)) zak)
noncomputable def zdt : List D→Res D := fun ds => outR false (zdz (zao zgt.length ds))
theorem zop {P : Program} {w : World} {K : PySem.W.Frag} {mg : Str→Option Value} {base : Heap} (T : Txt K mg) (A : DefAt K mg "_law_plus" zfg) (c__law_low : Callee P w K mg base "_law_low" zfa [] 2 false q107 zdX) : Callee P w K mg base "_law_plus" zew [] 3 false q0 zdt := by
  refine zaM (k := 2) (fs := zdz) (m' := q0) A zhJ rfl (fun _ _ _ _ _ _ us hl => by obtain ⟨u0,u1,rfl⟩ := zdK us hl; kernel_rfl) fun f cdv A outer s H g E hr => ?_
  have hu1 := za2 hr
  have hu64 := hr.units
  exact (zaa (zaO (zan (dds := []) c__law_low (hr.mono (by decide)) (m_sh (zcY (SE.toB (zk2 (SE.toB (zbE hu1 (vb_ 0) (SE.toB zas))) (SE.toB (zbE hu1 (vb_ 1) (SE.toB zas))))) (SE.toB (zk2 (SE.toB (zbE hu1 (vb_ 1) (SE.toB zas))) (SE.toB (zbE hu1 (vb_ 0) (SE.toB zas)))))) (m_sh (zk2 (SE.toB (zbE hu1 (vb_ 0) (SE.toB zas))) (SE.toB (zbE hu1 (vb_ 1) (SE.toB zas)))) zaz))))
      zaf)
noncomputable abbrev zcm : Stmt := top 48
noncomputable abbrev zcJ : List Str := ["_law_shares","_law_total","_law_share"]
noncomputable abbrev zbK : List Str := ["_law_shares"]
theorem zaZ : FnScope zcJ zbK (zab zcm) := ⟨rfl,rfl,rfl,by decide +kernel,rfl,by decide +kernel,by decide +kernel⟩
noncomputable abbrev zb7 : FS :=
  (seqF (ifF q111 (zaL (f2 (f2 (gv 2) (ci 0) ixA) (ci 0) ltI)) (seqF (retF q111 (fun _ => Res.ok (D.bl false))) zak) zak) (seqF (setF q111 1 (zat (zac (gv 1) (zac (gv 2) lNil)) [] zdt)) zak))
noncomputable def za7 : FS :=
  (seqF (setF q111 1 (mkT (zac (ci 0) (zac (ci 1) lNil)))) (seqF (zca q111 (fSeq zbn (gv 0)) (ftN 2) zb7) (seqF (retF q111 (f2 (gv 1) (mkT (zac (ci 1) (zac (ci 1) lNil))) eqD)) zak)))
noncomputable def zax : List D→Res D := fun ds => outR false (za7 (zao zcJ.length ds))
theorem ziP {P : Program} {w : World} {K : PySem.W.Frag} {mg : Str→Option Value} {base : Heap} (T : Txt K mg) (A : DefAt K mg "_law_sums_to_one" zcm) (c__law_plus : Callee P w K mg base "_law_plus" zew [] 3 false q0 zdt) : Callee P w K mg base "_law_sums_to_one" zbK [] 4 false [Md.bw] zax := by
  refine zaM (k := 3) (fs := za7) (m' := q111) A zaZ rfl (fun _ _ _ _ _ _ us hl => by obtain ⟨u0,rfl⟩ := zfE us hl; kernel_rfl) fun f cdv A outer s H g E hr => ?_
  have hu1 := za2 hr
  have hu64 := hr.units
  exact (zaa (zbm 1 zaZ.nd (by rfl) (by first | exact Or.inl rfl | exact Or.inr rfl) (zke (zaV zas (zaV zas zb4))))
      (zaa (zju PassesOwn.never rfl (zcF (vb_ 0)) (fun _ => (zaF 2 zaZ.nd (by rfl) (by first | exact Or.inl rfl | exact Or.inr rfl))) (fun _ => (zaa (s_if (q_lt (SE.toB (zbE hu1 (vb_ 2) (SE.toB zas))) (SE.toB zas)) (zaa (zaO s_bl)
      zaf)
      zaf)
      (zaa (zbm 1 zaZ.nd (by rfl) (by first | exact Or.inl rfl | exact Or.inr rfl) (zan (dds := []) c__law_plus (hr.mono (by decide)) (m_bw (vb_ 1) (m_bw (vb_ 2) zaz))))
      zaf))))
      (zaa (zaO (s_eq hu64 (vb_ 1) (SE.toB (zke (zaV zas (zaV zas zb4))))))
      zaf)))
noncomputable abbrev zgG : Stmt := top 49
noncomputable abbrev zkM : List Str := ["_law_script","_law_cells","_law_n","_law_wanted","_law_table","_law_k","_law_at","_law_turned"]
noncomputable abbrev zsf : List Str := ["_law_script"]
theorem zea : FnScope zkM zsf (zab zgG) := ⟨rfl,rfl,rfl,by decide +kernel,rfl,by decide +kernel,by decide +kernel⟩
noncomputable abbrev zmL : FS :=
  (seqF (ifF q102 (fOr (fNot (fTru (zat (zac (f2 (gv 4) (gv 5) ixA) lNil) [] zax))) (fNot (fTru (zat (zac (zcV 1 [5] (fSeq zbn (gv 4)) (ftN 0) (fun _ => Res.ok true) (f2 (gv 0) (gv 1) ixA)) lNil) [] zax)))) (seqF (retF q102 (fun _ => Res.ok (D.bl false))) zak) zak) zak)
noncomputable def znZ : FS :=
  (seqF (setF [.sh,.sh,.sh,.sh,.sh,.sh,.sh,.sh] 1 (f2 (mkL (zac (ci 0) lNil)) (zat (zac (gv 0) (zac (ci 7) lNil)) [] zdY) catL)) (seqF (ifF q102 (zaL (f2 (fC (zac (gv 0) lNil) lenD) (ci 0) gtI)) (seqF (putF q102 1 (ci 0) (f2 (gv 0) (ci 0) ixA)) zak) zak) (seqF (setF q102 2 (f2 (ci 1) (f2 (zat (zac (gv 1) (zac (ci 1) lNil)) [] zbg) (ci 5) modI) addA)) (seqF (setF q102 3 (fC (zac (zcV 1 [2,1] (fRng rng1 (zac (gv 2) lNil)) (ftN 0) (fun _ => Res.ok true) (zat (zac (zat (zac (gv 2) (zac (f2 (ci 2) (gv 0) addA) lNil)) [] zbg) (zac (gv 1) lNil)) [] zcj)) lNil) tupD)) (seqF (setF q102 4 (zat (zac (gv 3) lNil) [] zmM)) (seqF (ifF q102 (fOr (fNot (fTru (zat (zac (gv 4) (zac (gv 2) (zac (gv 2) lNil))) [] zbO))) (zaL (f2 (zat (zac (gv 3) lNil) [] za1) (gv 4) neD))) (seqF (retF q102 (fun _ => Res.ok (D.bl false))) zak) zak) (seqF (zca q102 (fRng rng1 (zac (gv 2) lNil)) (ftN 5) zmL) (seqF (setF q102 6 (f2 (zat (zac (gv 1) (zac (ci 7) lNil)) [] zbg) (gv 2) modI)) (seqF (setF q102 7 (f2 (fSlA (gv 3) (zd5 (gv 6)) (fun _ => Res.ok none)) (fSlA (gv 3) (fun _ => Res.ok none) (zd5 (gv 6))) addE)) (seqF (retF q102 (vAnd (f2 (zat (zac (gv 7) lNil) [] zmM) (f2 (fSlA (gv 4) (zd5 (gv 6)) (fun _ => Res.ok none)) (fSlA (gv 4) (fun _ => Res.ok none) (zd5 (gv 6))) addE) eqD) (f2 (zat (zac (gv 7) lNil) [] za1) (f2 (fSlA (gv 4) (zd5 (gv 6)) (fun _ => Res.ok none)) (fSlA (gv 4) (fun _ => Res.ok none) (zd5 (gv 6))) addE) eqD))) zak))))))))))
noncomputable def zsg : List D→Res D := fun ds => outR false (znZ (zao zkM.length ds))
theorem ztd {P : Program} {w : World} {K : PySem.W.Frag} {mg : Str→Option Value} {base : Heap} (T : Txt K mg) {fa : Addr} {fd : FuncData} (A : Fun K "law" "law" zgG fa fd) (c__law_all : Callee P w K mg base "_law_all" zfb [] 1 false q0 zdY) (c__law_cell : Callee P w K mg base "_law_cell" zex [] 1 false q0 zbg) (c__law_row : Callee P w K mg base "_law_row" ze9 [] 1 false [.sh,.bw] zcj) (c_lot : Callee P w K mg base "lot" zpX [] 8 false [Md.bw] zmM) (c_lot_of_ownings : Callee P w K mg base "lot_of_ownings" zb6 [] 9 false [Md.bw] za1) (c__law_is_table : Callee P w K mg base "_law_is_table" zcv [] 3 false q108 zbO) (c__law_sums_to_one : Callee P w K mg base "_law_sums_to_one" zbK [] 4 false [Md.bw] zax) : FnOk P w K mg base CX0 10 fa fd zsf (spM K false [Md.sh] zsg) := by
  refine zoy (k := 9) (fs := znZ) (m' := q102) A zea rfl fun cdv A outer s H g E hr => ?_
  have hu1 := za2 hr
  have hu64 := hr.units
  exact (zaa (zcq 1 zea.nd (by rfl) (by first | exact Or.inl rfl | exact Or.inr rfl) (zsN (SO.toB (zgA (zaV zas zb4))) (SE.toB (zan (dds := []) c__law_all (hr.mono (by decide)) (m_bw (vb_ 0) (m_bw (SE.toB zas) zaz))))))
      (zaa (s_if (q_gt (SE.toB (zcT (by rfl) T.b_len (zaq (vb_ 0) zaP))) (SE.toB zas)) (zaa (zkg 1 hu1 rfl (by rfl) (by first | exact Or.inl rfl | exact Or.inr (Or.inl rfl) | exact Or.inr (Or.inr rfl)) (SE.toB zas) (zbE hu1 (vb_ 0) (SE.toB zas)))
      zaf)
      zaf)
      (zaa (zbm 2 zea.nd (by rfl) (by first | exact Or.inl rfl | exact Or.inr rfl) (zcY (SE.toB zas) (SE.toB (zfB (SE.toB (zan (dds := []) c__law_cell (hr.mono (by decide)) (m_bw (vb_ 1) (m_bw (SE.toB zas) zaz)))) (SE.toB zas)))))
      (zaa (zbm 3 zea.nd (by rfl) (by first | exact Or.inl rfl | exact Or.inr rfl) (zem (by rfl) T.b_tuple (zaq (SO.toB (zfl (X := (cxOf CX0 P w K mg base zkM "law" (zab zgG) fa cdv A outer s H E).nox) (N' := ["_law_hand","_law_n","_law_cells"]) (nl := 1) (cap := [2,1]) zea.nd rfl (zaS (osc := (zab zgG)) (ON := zkM) rfl rfl (by decide +kernel)) (SIt.toC (zcd (by rfl) T.b_range (zaq (vb_ 2) zaP))) (fun _ _ _ _ _ _ => (zaF 0 (show List.Nodup (["_law_hand","_law_n","_law_cells"] : List Str) by decide +kernel) (by rfl) (by first | exact Or.inl rfl | exact Or.inr rfl))) (zc2 (by decide)) (fun _ _ _ _ _ _ => zeK) (fun _ _ _ _ _ _ => (zan (dds := []) c__law_row (hr.mono (by decide)) (m_sh (zan (dds := []) c__law_cell (hr.mono (by decide)) (m_bw (vb_ 2) (m_bw (SE.toB (zcY (SE.toB zas) (vb_ 0))) zaz))) (m_bw (vb_ 1) zaz)))))) zaP)))
      (zaa (zbm 4 zea.nd (by rfl) (by first | exact Or.inl rfl | exact Or.inr rfl) (zan (dds := []) c_lot (hr.mono (by decide)) (m_bw (vb_ 3) zaz)))
      (zaa (s_if (SW.toQ (q_or (ze0 (zen (SE.toB (zan (dds := []) c__law_is_table (hr.mono (by decide)) (m_bw (vb_ 4) (m_bw (vb_ 2) (m_bw (vb_ 2) zaz))))))) (zhZ (q_ne hu64 (SE.toB (zan (dds := []) c_lot_of_ownings (hr.mono (by decide)) (m_bw (vb_ 3) zaz))) (vb_ 4))))) (zaa (zaO s_bl)
      zaf)
      zaf)
      (zaa (zfC PassesOwn.never rfl (zcd (by rfl) T.b_range (zaq (vb_ 2) zaP)) (zaF 5 zea.nd (by rfl) (by first | exact Or.inl rfl | exact Or.inr rfl)) (zaa (s_if (SW.toQ (q_or (ze0 (zen (SE.toB (zan (dds := []) c__law_sums_to_one (hr.mono (by decide)) (m_bw (SE.toB (zbE hu1 (vb_ 4) (vb_ 5))) zaz))))) (zhZ (ze0 (zen (SE.toB (zan (dds := []) c__law_sums_to_one (hr.mono (by decide)) (m_bw (SO.toB (zfl (X := (cxOf CX0 P w K mg base zkM "law" (zab zgG) fa cdv A outer s H E).nox) (N' := ["_law_shares","_law_k"]) (nl := 1) (cap := [5]) zea.nd rfl (zaS (osc := (zab zgG)) (ON := zkM) rfl rfl (by decide +kernel)) (zcF (vb_ 4)) (fun _ _ _ _ _ _ => (zaF 0 (show List.Nodup (["_law_shares","_law_k"] : List Str) by decide +kernel) (by rfl) (by first | exact Or.inl rfl | exact Or.inr rfl))) (zc2 (by decide)) (fun _ _ _ _ _ _ => zeK) (fun _ _ _ _ _ _ => (zbE hu1 (vb_ 0) (vb_ 1))))) zaz)))))))) (zaa (zaO s_bl)
      zaf)
      zaf)
      zaf))
      (zaa (zbm 6 zea.nd (by rfl) (by first | exact Or.inl rfl | exact Or.inr rfl) (zfB (SE.toB (zan (dds := []) c__law_cell (hr.mono (by decide)) (m_bw (vb_ 1) (m_bw (SE.toB zas) zaz)))) (vb_ 2)))
      (zaa (zbm 7 zea.nd (by rfl) (by first | exact Or.inl rfl | exact Or.inr rfl) (zhM (SE.toB (zkf (vb_ 3) (zdI (vb_ 6)) zfk)) (SE.toB (zkf (vb_ 3) zfk (zdI (vb_ 6))))))
      (zaa (zaO (zk5 (s_eq hu64 (SE.toB (zan (dds := []) c_lot (hr.mono (by decide)) (m_bw (vb_ 7) zaz))) (SE.toB (zhM (SE.toB (zkf (vb_ 4) (zdI (vb_ 6)) zfk)) (SE.toB (zkf (vb_ 4) zfk (zdI (vb_ 6))))))) (zk0 (s_eq hu64 (SE.toB (zan (dds := []) c_lot_of_ownings (hr.mono (by decide)) (m_bw (vb_ 7) zaz))) (SE.toB (zhM (SE.toB (zkf (vb_ 4) (zdI (vb_ 6)) zfk)) (SE.toB (zkf (vb_ 4) zfk (zdI (vb_ 6))))))))))
      zaf))))))))))
end Law
end
section
namespace Law
open PySem L2 DL
noncomputable abbrev nD (k : Nat) : D := .int (k : Int)
noncomputable abbrev LN (l : List Nat) : D := .lst (l.map nD)
noncomputable abbrev TN (l : List Nat) : D := .tup (l.map nD)
noncomputable def oD : Option Nat→D
  | none => .non
  | some k => nD k
noncomputable abbrev WD (rows : List (List Nat)) : D := .tup (rows.map TN)
noncomputable abbrev OD (owns : List (Option Nat)) : D := .tup (owns.map oD)
theorem szOk {ds : List D} (h : ds.length≤1000) : sz ds = some ds := zsr (Nat.le_trans h (by rw [sizeLine_eq]; decide))
@[simp] theorem addA_int (a b : Int) : addA (.int a) (.int b) = some (.int (a + b)) := rfl
theorem zlG {a b : Int} (h : CMul a b) : mulI (.int a) (.int b) = some (.int (a * b)) := by rw [mulI,intsC_int,if_pos h]
theorem zhl {a b : Int} (h : 0 < b) : modI (.int a) (.int b) = some (.int (a % b)) := by rw [modI,intsC_int,if_pos h]
theorem znH {a b : Int} (h : CDiv a b) : zmf (.int a) (.int b) = some (.int (a / b)) := by rw [zmf,intsC_int,if_pos h]
theorem zae {s1 s2 : FS} {r r' : Rho} (h : s1 r = .nx r') : seqF s1 s2 r = s2 r' := by unfold seqF; rw [h]
theorem zaw {s1 s2 : FS} {r : Rho} {d : D} (h : s1 r = .rt d) : seqF s1 s2 r = .rt d := by unfold seqF; rw [h]
theorem zau {m : List Md} {i : Nat} {f : FE} {r : Rho} {d : D} (h : f r = .ok d) : setF m i f r = .nx (r.set i (some d)) := by unfold setF; rw [h]; rfl
theorem zaE {m : List Md} {f : FE} {r : Rho} {d : D} (h : f r = .ok d) : retF m f r = .rt d := by unfold retF; rw [h]; rfl
theorem zkC {m : List Md} {p : FQ} {s1 s2 : FS} {r : Rho} {b : Bool} (h : p r = .ok b) : ifF m p s1 s2 r = if b = true then s1 r else s2 r := by unfold ifF; rw [h]; rfl
theorem if_t {m : List Md} {p : FQ} {s1 s2 : FS} {r : Rho} (h : p r = .ok true) : ifF m p s1 s2 r = s1 r := by rw [zkC h,if_pos rfl]
theorem if_f {m : List Md} {p : FQ} {s1 s2 : FS} {r : Rho} (h : p r = .ok false) : ifF m p s1 s2 r = s2 r := by rw [zkC h,if_neg Bool.false_ne_true]
theorem zrT {p : FQ} {f f' : FE} {r : Rho} (h : p r = .ok true) : fIf p f f' r = f r := by unfold fIf; rw [h]; rfl
theorem zrU {p : FQ} {f f' : FE} {r : Rho} (h : p r = .ok false) : fIf p f f' r = f' r := by unfold fIf; rw [h]; rfl
theorem zgN {fl : Rho→Res (List D)} {r : Rho} {ds : List D} (h : fl r = .ok ds) (hl : ds.length≤1000) : mkT fl r = .ok (.tup ds) := by unfold mkT; rw [h,bind_ok,szOk hl]; rfl
theorem zee {fl : Rho→Res (List D)} {r : Rho} {ds : List D} (h : fl r = .ok ds) (hl : ds.length≤1000) : mkL fl r = .ok (.lst ds) := by unfold mkL; rw [h,bind_ok,szOk hl]; rfl
theorem zgm {ds : List D} {d : D} (h : ds.length≤1000) : appD (.lst ds) [d] = some (.lst (ds++[d])) := by
  show (if ds.length < sizeLine then some (D.lst (ds++[d])) else none) = _
  rw [if_pos (by rw [sizeLine_eq]; omega)]
theorem zaj {fl : Rho→Res (List D)} {dds zs : List D} {F : List D→Res D} {r : Rho} {d : D} (h1 : fl r = .ok zs) (h2 : F (zs++dds) = .ok d) : zat fl dds F r = .ok d := by unfold zat; rw [h1,bind_ok,h2]; rfl
theorem zkE {f : FE} {k : D→Option D} {r : Rho} {a d : D} (h1 : f r = .ok a) (h2 : k a = some d) : f1 f k r = .ok d := by unfold f1; rw [h1,bind_ok,h2]; rfl
theorem zal {f f' : FE} {k : D→D→Option D} {r : Rho} {a b d : D} (h1 : f r = .ok a) (h2 : f' r = .ok b) (h3 : k a b = some d) : f2 f f' k r = .ok d := by unfold f2; rw [h1,bind_ok,h2,bind_ok,h3]; rfl
theorem za9 {fl : Rho→Res (List D)} {k : List D→Option D} {r : Rho} {ds : List D} {d : D} (h1 : fl r = .ok ds) (h2 : k ds = some d) : fC fl k r = .ok d := by unfold fC; rw [h1,bind_ok,h2]; rfl
theorem zad {f : FE} {fl : Rho→Res (List D)} {r : Rho} {d : D} {ds : List D} (h1 : f r = .ok d) (h2 : fl r = .ok ds) : zac f fl r = .ok (d::ds) := by unfold zac; rw [h1,bind_ok,h2]; rfl
theorem zai {r : Rho} : lNil r = .ok [] := rfl
theorem zaG {f : FE} {r : Rho} {b : Bool} (h : f r = .ok (.bl b)) : zaL f r = .ok b := by unfold zaL; rw [h]; rfl
theorem zbl {f : FE} {r : Rho} {d : D} {b : Bool} (h : f r = .ok d) (h2 : truD d = some b) : fTru f r = .ok b := by unfold fTru; rw [h,bind_ok,h2]; rfl
theorem zc0 {p : FQ} {r : Rho} {b : Bool} (h : p r = .ok b) : fNot p r = .ok (! b) := by unfold fNot; rw [h]; rfl
theorem zpV {p q : FQ} {r : Rho} (h : p r = .ok true) : fAnd p q r = q r := by unfold fAnd; rw [h]; rfl
theorem zsa {p q : FQ} {r : Rho} (h : p r = .ok false) : fAnd p q r = .ok false := by unfold fAnd; rw [h]; rfl
theorem or_f {p q : FQ} {r : Rho} (h : p r = .ok false) : fOr p q r = q r := by unfold fOr; rw [h]; rfl
theorem zjh {f f' : FE} {r : Rho} (h : f r = .ok (.bl true)) : vAnd f f' r = f' r := by unfold vAnd; rw [h]; rfl
theorem za0 {m : List Md} {fi : FI} {ft : FT} {b : FS} {r : Rho} {ds : List D} (h : fi r = .ok ds) : zca m fi ft b r = forF ft b ds r := by unfold zca; rw [h]; rfl
theorem zeF {f : FE} {r : Rho} {d : D} {ds : List D} (h : f r = .ok d) (h2 : zbn d = some ds) : fSeq zbn f r = .ok ds := by unfold fSeq; rw [h,bind_ok,h2]; rfl
theorem za3 {ft : FT} {b : FS} {r : Rho} : forF ft b [] r = .nx r := by unfold forF; rfl
theorem zbI {ft : FT} {b : FS} {r r1 r' : Rho} {d : D} {ds : List D} (h1 : ft d r = some r1) (h2 : b r1 = .nx r') : forF ft b (d::ds) r = forF ft b ds r' := by
  conv => lhs; unfold forF
  simp only [h1,h2]
theorem zrQ {ft : FT} {b : FS} {r r1 : Rho} {d v : D} {ds : List D} (h1 : ft d r = some r1) (h2 : b r1 = .rt v) : forF ft b (d::ds) r = .rt v := by
  conv => lhs; unfold forF
  simp only [h1,h2]
theorem ziF {m : List Md} {p : FQ} {b : FS} {n : Nat} {r : Rho} (h : p r = .ok false) : zbo m p b (n + 1) r = .nx r := by unfold zbo; rw [h]; rfl
theorem ziE {m : List Md} {p : FQ} {b : FS} {n : Nat} {r r' : Rho} (h : p r = .ok true) (h2 : b r = .nx r') : zbo m p b (n + 1) r = zbo m p b n r' := by
  conv => lhs; unfold zbo
  rw [h,onE_ok,if_pos rfl,h2]
theorem zfn {T : String} {m : List Md} {i : Nat} {fl : Rho→Res (List D)} {mk : D→List D→Option D} {r : Rho} {d d' : D} {ds : List D} (h1 : r[i]? = some (some d)) (h2 : tyB T d = true) (h3 : fl r = .ok ds) (h4 : mk d ds = some d') : mutF T m i fl mk r = .nx (r.set i (some d')) := by
  unfold mutF; rw [h1]; simp only [h2,if_true,h3,onE_ok,h4]
theorem zgK {m : List Md} {i : Nat} {fk fv : FE} {r : Rho} {d k v d' : D} (h1 : r[i]? = some (some d)) (h2 : fv r = .ok v) (h3 : fk r = .ok k) (h4 : stoD d k v = some d') : DL.putF m i fk fv r = .nx (r.set i (some d')) := by
  unfold DL.putF; rw [h2,onE_ok]; simp only [h1,h3,onE_ok,h4]
theorem zpP {fa fb fc : FE} {k k' : D→D→Option D} {r : Rho} {x y w d : D} (h1 : fa r = .ok x) (h2 : fb r = .ok y) (h3 : k x y = some (.bl true)) (h4 : fc r = .ok w) (h5 : k' y w = some d) : zij fa fb fc k k' r = .ok d := by
  unfold zij; rw [h1,bind_ok,h2,bind_ok,h3,opt_some,bind_ok]
  show (fc r).bind _ = _
  rw [h4,bind_ok,h5]; rfl
theorem zmv {ft : FT} {q : FQ} {fe : FE} {r0 : Rho} : zet ft q fe r0 [] = .ok [] := by unfold zet; rfl
theorem zin {ft : FT} {q : FQ} {fe : FE} {r0 : Rho} {α : Type} (e : α→D) (keep : α→Bool) (g : α→D) : ∀ (l : List α),(∀ a∈l,∃ r1,ft (e a) r0 = some r1∧q r1 = .ok (keep a)∧(keep a = true→fe r1 = .ok (g a)))→zet ft q fe r0 (l.map e) = .ok ((l.filter keep).map g)
  | [],_ => zmv
  | a::l,h => by
    obtain ⟨r1,h1,h2,h3⟩ := h a List.mem_cons_self
    have ih := zin (ft := ft) (q := q) (fe := fe) (r0 := r0) e keep g l fun b hb => h b (List.mem_cons_of_mem _ hb)
    rw [List.map_cons]
    conv => lhs; unfold zet
    rw [h1,opt_some,bind_ok,h2,bind_ok]
    cases k : keep a with
    | true => rw [if_pos rfl,h3 k,bind_ok,ih,bind_ok,List.filter_cons,if_pos k]; rfl
    | false => rw [if_neg Bool.false_ne_true,ih,List.filter_cons,if_neg (by rw [k]; exact Bool.false_ne_true)]
theorem zes {nl : Nat} {cap : List Nat} {fi : FI} {ft : FT} {q : FQ} {fe : FE} {r : Rho} {α : Type} {l : List α} (e : α→D) (keep : α→Bool) (g : α→D) (h1 : fi r = .ok (l.map e)) (hl : l.length≤1000)
    (h : ∀ a∈l,∃ r1,ft (e a) (capR nl cap r) = some r1∧q r1 = .ok (keep a)∧(keep a = true→fe r1 = .ok (g a))) : zcV nl cap fi ft q fe r = .ok (.lst ((l.filter keep).map g)) := by
  unfold zcV
  rw [h1,bind_ok,szOk (by simpa using hl),opt_some,bind_ok,zin e keep g l h,noXL_ok,bind_ok]
theorem zsU (k : Nat) : leI (.int 0) (nD k) = some (.bl true) := by
  show some (D.bl (decide ((0 : Int)≤(k : Int)))) = _
  rw [decide_eq_true (Int.natCast_nonneg k)]
theorem znx (a b : Nat) : ltI (nD a) (nD b) = some (.bl (decide (a < b))) := by
  show some (D.bl (decide ((a : Int) < (b : Int)))) = _
  simp only [Int.ofNat_lt]
theorem zl7 (a b : Nat) : gtI (nD a) (nD b) = some (.bl (decide (b < a))) := by
  show some (D.bl (decide ((b : Int) < (a : Int)))) = _
  simp only [Int.ofNat_lt]
theorem zmi (a b : Nat) : eqD (nD a) (nD b) = some (.bl (decide (a = b))) := by
  unfold eqD
  rw [eqB_int]
  show some (D.bl ((a : Int) == (b : Int))) = _
  have : ((a : Int) == (b : Int)) = decide (a = b) := by rw [Bool.eq_iff_iff,beq_iff_eq,decide_eq_true_iff]; exact Int.ofNat_inj
  rw [this]
theorem znu (a b : Nat) : neD (nD a) (nD b) = some (.bl (! decide (a = b))) := by
  unfold neD
  rw [eqB_int]
  show some (D.bl (!((a : Int) == (b : Int)))) = _
  have : ((a : Int) == (b : Int)) = decide (a = b) := by rw [Bool.eq_iff_iff,beq_iff_eq,decide_eq_true_iff]; exact Int.ofNat_inj
  rw [this]
theorem zaH {B : FS} {n : Nat} {ds : List D} {d : D} (h : B (zao n ds) = .rt d) : outR false (B (zao n ds)) = .ok d := by rw [h]; rfl
noncomputable abbrev kI (k : Nat) : Key := Sum.inl (k : Int)
theorem zov (kvs : List (Nat × D)) (k : Nat) : hasK (kvs.map fun p => (kI p.1,p.2)) (kI k) = decide (k∈kvs.map (·.1)) := by
  unfold hasK
  rw [List.any_map,Bool.eq_iff_iff,List.any_eq_true,decide_eq_true_iff,List.mem_map]
  constructor
  · rintro ⟨p,h1,h2⟩
    refine ⟨p,h1,?_⟩
    simp only [Function.comp_apply,decide_eq_true_eq] at h2
    have : ((p.1 : Nat) : Int) = (k : Int) := Sum.inl.inj h2
    exact Int.ofNat.inj this
  · rintro ⟨p,h1,rfl⟩
    exact ⟨p,h1,by simp⟩
theorem znb (kvs : List (Nat × D)) (k : Nat) (d : D) (h : k∉kvs.map (·.1)) : putD (kvs.map fun p => (kI p.1,p.2)) (kI k) d = (kvs++[(k,d)]).map fun p => (kI p.1,p.2) := by
  unfold putD
  have e : ((kvs.map fun p => (kI p.1,p.2)).any fun kv => decide (kv.1 = kI k)) = decide (k∈kvs.map (·.1)) := zov kvs k
  rw [e,decide_eq_false h,if_neg Bool.false_ne_true,List.map_append]
  rfl
@[simp] theorem e_seq (s1 s2 : FS) (r : Rho) : seqF s1 s2 r = (match s1 r with | .nx r' => s2 r' | o => o) := rfl
@[simp] theorem e_skip (r : Rho) : zak r = .nx r := rfl
@[simp] theorem e_set (m : List Md) (i : Nat) (f : FE) (r : Rho) : setF m i f r = onE m r (f r) fun d => .nx (r.set i (some d)) := rfl
@[simp] theorem e_ret (m : List Md) (f : FE) (r : Rho) : retF m f r = onE m r (f r) fun d => .rt d := rfl
@[simp] theorem e_if (m : List Md) (p : FQ) (s1 s2 : FS) (r : Rho) : ifF m p s1 s2 r = onE m r (p r) fun c => if c = true then s1 r else s2 r := rfl
@[simp] theorem e_getV (r : Rho) (i : Nat) : getV r i = (match r[i]? with | some (some d) => .ok d | _ => .stuck) := rfl
@[simp] theorem e_f1 (f : FE) (k : D→Option D) (r : Rho) : f1 f k r = (f r).bind fun d => opt (k d) := rfl
@[simp] theorem e_f2 (f f' : FE) (k : D→D→Option D) (r : Rho) : f2 f f' k r = (f r).bind fun a => (f' r).bind fun b => opt (k a b) := rfl
@[simp] theorem e_fC (fl : Rho→Res (List D)) (k : List D→Option D) (r : Rho) : fC fl k r = (fl r).bind fun ds => opt (k ds) := rfl
@[simp] theorem e_lN (r : Rho) : lNil r = .ok [] := rfl
@[simp] theorem e_lC (f : FE) (fl : Rho→Res (List D)) (r : Rho) : zac f fl r = (f r).bind fun d => (fl r).bind fun ds => .ok (d::ds) := rfl
@[simp] theorem e_test (f : FE) (r : Rho) : zaL f r = (f r).bind fun d => opt (asB d) := rfl
@[simp] theorem e_tru (f : FE) (r : Rho) : fTru f r = (f r).bind fun d => opt (truD d) := rfl
@[simp] theorem e_not (p : FQ) (r : Rho) : fNot p r = (p r).bind fun c => .ok (! c) := rfl
@[simp] theorem e_and (p q : FQ) (r : Rho) : fAnd p q r = (p r).bind fun c => if c = true then q r else .ok false := rfl
@[simp] theorem e_or (p q : FQ) (r : Rho) : fOr p q r = (p r).bind fun c => if c = true then .ok true else q r := rfl
@[simp] theorem e_vand (f f' : FE) (r : Rho) : vAnd f f' r = (f r).bind fun d => (opt (asB d)).bind fun c => if c = true then f' r else .ok (.bl false) := rfl
@[simp] theorem e_vor (f f' : FE) (r : Rho) : vOr f f' r = (f r).bind fun d => (opt (asB d)).bind fun c => if c = true then .ok (.bl true) else f' r := rfl
@[simp] theorem e_vnot (f : FE) (r : Rho) : vNot f r = (f r).bind fun d => (opt (asB d)).bind fun c => .ok (.bl (! c)) := rfl
@[simp] theorem e_fIf (p : FQ) (f f' : FE) (r : Rho) : fIf p f f' r = (p r).bind fun c => if c = true then f r else f' r := rfl
@[simp] theorem e_call (fl : Rho→Res (List D)) (dds : List D) (F : List D→Res D) (r : Rho) : zat fl dds F r = (fl r).bind fun ds => noX (F (ds++dds)) := rfl
@[simp] theorem e_asB (b : Bool) : asB (.bl b) = some b := rfl
@[simp] theorem e_truB (b : Bool) : truD (.bl b) = some b := rfl
@[simp] theorem e_truL (ds : List D) : truD (.lst ds) = some (! ds.isEmpty) := rfl
@[simp] theorem e_loop (m : List Md) (fi : FI) (ft : FT) (b : FS) (r : Rho) : zca m fi ft b r = onE m r (fi r) fun ds => forF ft b ds r := rfl
@[simp] theorem e_fSeq (k : D→Option (List D)) (f : FE) (r : Rho) : fSeq k f r = (f r).bind fun d => opt (k d) := rfl
@[simp] theorem e_asL (ds : List D) : zbn (.lst ds) = some ds := rfl
@[simp] theorem e_asT (ds : List D) : zbn (.tup ds) = some ds := rfl
@[simp] theorem e_mkT (fl : Rho→Res (List D)) (r : Rho) : mkT fl r = (fl r).bind fun ds => (opt (sz ds)).bind fun ds => .ok (.tup ds) := rfl
@[simp] theorem e_mkL (fl : Rho→Res (List D)) (r : Rho) : mkL fl r = (fl r).bind fun ds => (opt (sz ds)).bind fun ds => .ok (.lst ds) := rfl
@[simp] theorem e_lenL (ds : List D) : lenD [.lst ds] = some (.int ds.length) := rfl
@[simp] theorem e_lenT (ds : List D) : lenD [.tup ds] = some (.int ds.length) := rfl
@[simp] theorem e_lenK (ds : List (Key × D)) : lenD [.dic ds] = some (.int ds.length) := rfl
@[simp] theorem e_tupL (ds : List D) : tupD [.lst ds] = some (.tup ds) := rfl
@[simp] theorem e_listL (ds : List D) : zkv [.lst ds] = some (.lst ds) := rfl
@[simp] theorem e_listT (ds : List D) : zkv [.tup ds] = some (.lst ds) := rfl
@[simp] theorem e_isNN : isD .non .non = some (.bl true) := rfl
@[simp] theorem e_isLN (ds : List D) : isD (.lst ds) .non = some (.bl false) := rfl
@[simp] theorem e_isn1 : isnD .non .non = some (.bl false) := rfl
@[simp] theorem e_isn2 (i : Int) : isnD (.int i) .non = some (.bl true) := rfl
@[simp] theorem e_isn3 (ds : List D) : isnD (.tup ds) .non = some (.bl true) := rfl
@[simp] theorem e_valsD (kvs : List (Key × D)) : zoD (.dic kvs) = some (.lst (kvs.map (·.2))) := rfl
theorem zie {ds : List D} {i : Nat} {d : D} (h : ds[i]? = some d) : ixA (.tup ds) (nD i) = some d := by
  have hl : i < ds.length := (List.getElem?_eq_some_iff.mp h).1
  show atI ds (i : Int) = some d
  unfold atI ixN
  rw [if_pos (Int.natCast_nonneg i),if_pos (by omega)]
  simpa using h
theorem zrE {ds : List D} {i : Nat} {d : D} (h : ds[i]? = some d) : ixA (.lst ds) (nD i) = some d := by
  have hl : i < ds.length := (List.getElem?_eq_some_iff.mp h).1
  show atI ds (i : Int) = some d
  unfold atI ixN
  rw [if_pos (Int.natCast_nonneg i),if_pos (by omega)]
  simpa using h
@[simp] theorem ixA_L0 (d : D) (ds : List D) : ixA (.lst (d::ds)) (.int 0) = some d := zrE (i := 0) rfl
@[simp] theorem ixA_T0 (d : D) (ds : List D) : ixA (.tup (d::ds)) (.int 0) = some d := zie (i := 0) rfl
theorem zpE {kvs : List (Key × D)} {k : Nat} {d : D} (h : getK kvs (kI k) = some d) : ixA (.dic kvs) (nD k) = some d := h
theorem anyE (l : List Nat) (k : Nat) : (l.map nD).any (fun y => eqs y (nD k)) = decide (k∈l) := by
  rw [List.any_map,Bool.eq_iff_iff,List.any_eq_true,decide_eq_true_iff]
  constructor
  · rintro ⟨x,h1,h2⟩
    have : (((x : Nat) : Int) == (k : Int)) = true := h2
    have := Int.ofNat_inj.mp (eq_of_beq this)
    subst this; exact h1
  · intro h
    exact ⟨k,h,by show (((k : Nat) : Int) == (k : Int)) = true; simp⟩
theorem zpK (l : List Nat) : (l.map nD).all zb3 = true := by
  rw [List.all_eq_true]
  intro x hx
  obtain ⟨k,_,rfl⟩ := List.mem_map.mp hx
  rfl
theorem zsY (l : List Nat) (k : Nat) : inD (nD k) (LN l) = some (.bl (decide (k∈l))) := by
  show (if zb3 (nD k) = true∧(l.map nD).all zb3 = true then some ((l.map nD).any fun y => eqs y (nD k)) else none).map D.bl = _
  rw [if_pos ⟨rfl,zpK l⟩,anyE]; rfl
theorem zro (l : List Nat) (k : Nat) : ninD (nD k) (LN l) = some (.bl (! decide (k∈l))) := by
  show (if zb3 (nD k) = true∧(l.map nD).all zb3 = true then some ((l.map nD).any fun y => eqs y (nD k)) else none).map (fun b => D.bl (! b)) = _
  rw [if_pos ⟨rfl,zpK l⟩,anyE]; rfl
end Law
end
section
namespace Law
open PySem L2 DL
theorem zhQ (k : Nat) : zbD [nD k] = .ok (.bl true) := rfl
theorem zhS (k b : Nat) : zc9 [nD k,nD b] = .ok (.bl (decide (k < b))) := by
  refine zaH (B := zdZ) (n := 2) ?_
  unfold zdZ
  refine zaw (zaE ?_)
  rw [zjh (zaj (zad (d := nD k) rfl zai) (zhQ k))]
  exact zpP rfl rfl (zsU k) rfl (znx k b)
end Law
end
section
namespace Law
open PySem L2 DL
theorem zdi {α : Type} (f : α→D) (l : List α) : lenD [.tup (l.map f)] = some (nD l.length) := by
  show some (D.int ((l.map f).length : Int)) = _
  rw [List.length_map]
theorem zcc {α : Type} (f : α→D) (l : List α) : lenD [.lst (l.map f)] = some (nD l.length) := by
  show some (D.int ((l.map f).length : Int)) = _
  rw [List.length_map]
theorem zjN {α : Type} (f : α→Key × D) (l : List α) : lenD [.dic (l.map f)] = some (nD l.length) := by
  show some (D.int ((l.map f).length : Int)) = _
  rw [List.length_map]
theorem zfI (n : Nat) : eqD (nD n) (nD n) = some (.bl true) := by
  have e := zmi n n
  rw [decide_eq_true rfl] at e; exact e
theorem zoa (n : Nat) : rngD 0 n = (List.range n).map nD := by
  unfold rngD
  refine List.map_congr_left fun i _ => ?_
  show D.int (0 + (i : Int)) = D.int (i : Int)
  rw [Int.zero_add]
theorem zny (j : Int) : ziW [.int j] = if -(2 ^ 62)≤j∧j < 2 ^ 62∧j.toNat≤sizeLine then some (.lst (rngD 0 j.toNat)) else none := rfl
theorem ziV {n : Nat} (h : n≤1000) : ziW [nD n] = some (LN (List.range n)) := by
  have hs : (n : Int).toNat≤sizeLine := by rw [Int.toNat_natCast,sizeLine_eq]; omega
  rw [zny,if_pos ⟨by omega,by omega,hs⟩,Int.toNat_natCast,zoa]
theorem zoX (j : Int) : rng1 [.int j] = if -(2 ^ 62)≤j∧j < 2 ^ 62 then some (rngD 0 j.toNat) else none := rfl
theorem zeJ {n : Nat} (h : n≤1000) : rng1 [nD n] = some ((List.range n).map nD) := by
  rw [zoX,if_pos ⟨by omega,by omega⟩,Int.toNat_natCast,zoa]
theorem zdj {fl : Rho→Res (List D)} {k : List D→Option (List D)} {r : Rho} {ds es : List D} (h1 : fl r = .ok ds) (h2 : k ds = some es) : fRng k fl r = .ok es := by unfold fRng; rw [h1,bind_ok,h2]; rfl
theorem zgf {p : Nat→Bool} : ∀ (l : List Nat),l.find? p = (l.filter p).head?
  | [] => rfl
  | a::l => by
    rw [List.find?_cons,List.filter_cons]
    cases h : p a with
    | true => simp
    | false => simpa using zgf l
theorem zs3 (o : Option Nat) (x : Nat) : eqD (oD o) (nD x) = some (.bl (decide (o = some x))) := by
  cases o with
  | none =>
    unfold eqD oD
    rw [eqB_non_int]
    simp
  | some k =>
    show eqD (nD k) (nD x) = _
    rw [zmi]
    simp
noncomputable def own (owns : List (Option Nat)) (h : Nat) : Option Nat := (owns[h]?).join
theorem zq7 {owns : List (Option Nat)} {h : Nat} (hh : h < owns.length) : (owns.map oD)[h]? = some (oD (own owns h)) := by
  rw [List.getElem?_map,List.getElem?_eq_getElem hh]
  unfold own
  rw [List.getElem?_eq_getElem hh]
  rfl
end Law
end
section
namespace Law
open PySem L2 DL
theorem zgI {row : List Nat} {rest : List (List Nat)} : zaD [WD (row::rest)] = .ok (nD row.length) := by
  refine zaH (B := zdu) (n := 1) ?_
  unfold zdu
  exact zaw (zaE (za9 (zad (zal (a := WD (row::rest)) (b := .int 0) rfl rfl (ixA_T0 _ _)) zai) (zdi _ _)))
end Law
end
section
namespace Law
open PySem L2 DL
theorem zjw {row things : List Nat} (h : ∃ x∈row,x∈things) (hl : row.length≤1000) : zbf [TN row,LN things] = .ok (nD (Rg.best row things)) := by
  refine zaH (B := zdy) (n := 2) ?_
  unfold zdy
  have hc : (zcV 1 [1] (fSeq zbn (gv 0)) (ftN 0) (zaL (f2 (gv 0) (gv 1) inD)) (gv 0)) [some (TN row),some (LN things)] = .ok (LN (row.filter fun x => decide (x∈things))) := by
    refine zes nD (fun x => decide (x∈things)) nD (l := row) rfl hl fun a _ => ⟨[some (nD a),some (LN things)],rfl,?_,fun _ => rfl⟩
    exact zaG (zal (a := nD a) (b := LN things) rfl rfl (zsY _ _))
  have hb : ∃ t,(row.filter fun x => decide (x∈things)) = Rg.best row things::t := by
    unfold Rg.best
    rw [zgf]
    cases e : row.filter fun x => decide (x∈things) with
    | nil =>
      obtain ⟨x,h1,h2⟩ := h
      have : x∈row.filter fun x => decide (x∈things) := List.mem_filter.mpr ⟨h1,by simpa using h2⟩
      rw [e] at this; cases this
    | cons a t => exact ⟨t,rfl⟩
  obtain ⟨t,ht⟩ := hb
  rw [ht] at hc
  exact zaw (zaE (zal hc (b := .int 0) rfl (ixA_L0 _ _)))
end Law
end
section
namespace Law
open PySem L2 DL
noncomputable abbrev zgx (pre : List Nat) : D := .dic ((pre.map fun k => (k,D.bl true)).map fun p => (kI p.1,p.2))
theorem zmb (b : Nat) (num : D) : ∀ (suf pre : List Nat) (x y : Option D),(pre++suf).Nodup→(∀ k∈suf,k < b)→(pre++suf).length≤1000 →
    ∃ x' y',forF (ftT (zc3 (ftN 3) (zc3 (ftN 4) zi0))) zcw (enuD pre.length (suf.map nD)) [some num,some (nD b),some (zgx pre),x,y] = .nx [some num,some (nD b),some (zgx (pre++suf)),x',y']
  | [],pre,x,y,_,_,_ => ⟨x,y,by rw [List.append_nil]; exact za3⟩
  | k::suf,pre,x,y,hn,hb,hl => by
    have hk : k∉pre := fun z => (List.nodup_append.mp hn).2.2 k z k List.mem_cons_self rfl
    obtain ⟨x',y',ih⟩ := zmb b num suf (pre++[k]) (some (nD pre.length)) (some (nD k)) (by simpa using hn) (fun j hj => hb j (List.mem_cons_of_mem _ hj)) (by simpa using hl)
    refine ⟨x',y',?_⟩
    rw [show (pre++[k]).length = pre.length + 1 by simp] at ih
    rw [show pre++k::suf = (pre++[k])++suf by simp,← ih]
    show forF _ _ (.tup [.int ((pre.length : Nat) : Int),nD k]::enuD (pre.length + 1) (suf.map nD)) _ = _
    refine zbI (r1 := [some num,some (nD b),some (zgx pre),some (nD pre.length),some (nD k)]) rfl ?_
    have c2 : inD (nD k) (zgx pre) = some (.bl false) := by
      show (some (hasK _ (kI k))).map D.bl = _
      rw [zov,List.map_map]
      have : decide (k∈pre.map ((fun p : Nat × D => p.1) ∘ fun k => (k,D.bl true))) = false := by
        rw [decide_eq_false_iff_not]
        simpa [Function.comp_def] using hk
      rw [this]; rfl
    have c3 : stoD (zgx pre) (nD k) (.bl true) = some (zgx (pre++[k])) := by
      show (if _ then some (D.dic (putD _ (kI k) (.bl true))) else none) = _
      rw [if_pos (by rw [List.length_map,List.length_map,sizeLine_eq]; simp at hl; omega),znb _ _ _ (by rw [List.map_map]; simpa [Function.comp_def] using hk)]
      simp
    have c1 : decide (k < b) = true := decide_eq_true (hb k List.mem_cons_self)
    unfold zcw
    have hif : (fOr (fNot (fTru (zat (zac (gv 4) (zac (gv 1) lNil)) [] zc9))) (zaL (f2 (gv 4) (gv 2) inD))) [some num,some (nD b),some (zgx pre),some (nD pre.length),some (nD k)] = .ok false := by
      have h0 := zhS k b
      rw [c1] at h0
      rw [or_f (zc0 (zbl (b := true) (zaj (zad (d := nD k) rfl (zad (d := nD b) rfl zai)) h0) rfl))]
      exact zaG (zal (a := nD k) (b := zgx pre) rfl rfl c2)
    refine (zae (zkC hif)).trans ?_
    exact zae (zgK (d := zgx pre) (k := nD k) rfl rfl rfl c3)
theorem zf0 {l : List Nat} {b : Nat} (hn : l.Nodup) (hb : ∀ k∈l,k < b) (hl : l.length≤1000) : zcf [LN l,nD b] = .ok (nD l.length) := by
  obtain ⟨x',y',h⟩ := zmb b (LN l) l [] none none hn hb hl
  refine zaH (B := zcg) (n := 5) ?_
  unfold zcg
  refine (zae (r' := [some (LN l),some (nD b),some (zgx []),none,none]) rfl).trans ?_
  refine (zae ((za0 (ds := enuD 0 (l.map nD)) rfl).trans h)).trans ?_
  exact zaw (zaE (za9 (zad (d := LN l) rfl zai) (zcc _ _)))
theorem zki {l : List Nat} {n : Nat} (hn : l.Nodup) (hb : ∀ k∈l,k < n) (h8 : l.length≤1000) : zcN [LN l,nD n] = .ok (.bl true) := by
  refine zaH (B := zcR) (n := 2) ?_
  unfold zcR
  exact zaw (zaE (zal (a := nD l.length) (b := nD l.length) (zaj (zad (d := LN l) rfl (zad (d := nD n) rfl zai)) (zf0 hn hb h8)) (za9 (zad (d := LN l) rfl zai) (zcc _ _)) (zfI _)))
theorem zoV {l : List Nat} {n : Nat} (hn : l.Nodup) (hb : ∀ k∈l,k < n) (hl : l.length = n) (h8 : n≤1000) : zbN [LN l,nD n] = .ok (.bl true) := by
  refine zaH (B := zbP) (n := 2) ?_
  unfold zbP
  subst hl
  refine zaw (zaE ?_)
  rw [zjh (zal (a := nD l.length) (b := nD l.length) (za9 (zad (d := LN l) rfl zai) (zcc _ _)) rfl (zfI _))]
  exact zaj (zad (d := LN l) rfl (zad (d := nD l.length) rfl zai)) (zki hn hb h8)
theorem zgy {rows : List (List Nat)} (h : rows.length≤1000) : zbC [WD rows,.non] = .ok (LN (List.range rows.length)) := by
  refine zaH (B := zck) (n := 2) ?_
  unfold zck
  refine zaw ((zkC (b := true) rfl).trans ?_)
  rw [if_pos rfl]
  exact zaw (zaE (za9 (ds := [nD rows.length]) (zad (za9 (zad (d := WD rows) rfl zai) (zdi _ _)) zai) (ziV h)))
theorem zhP {rows : List (List Nat)} {l : List Nat} (hn : l.Nodup) (hb : ∀ k∈l,k < rows.length) (hl : l.length = rows.length) (h8 : rows.length≤1000) : zbC [WD rows,LN l] = .ok (LN l) := by
  refine zaH (B := zck) (n := 2) ?_
  unfold zck
  refine (zae (r' := [some (WD rows),some (LN l)]) ((zkC (b := false) rfl).trans rfl)).trans ?_
  refine (zae (r' := [some (WD rows),some (LN l)]) ((zkC (b := false) (zc0 (b := true) (zbl (zaj (zad (d := LN l) rfl (zad (za9 (zad (d := WD rows) rfl zai) (zdi _ _)) zai)) (zoV hn hb hl h8)) rfl))).trans rfl)).trans ?_
  exact zaw (zaE (za9 (zad (d := LN l) rfl zai) rfl))
end Law
end
section
namespace Law
open PySem L2 DL
theorem zl5 (owns : List (Option Nat)) (line : List Nat) (x : Nat) : ∀ (l : List Nat) (y : Option D),(∀ h∈l,h < owns.length) →
    (match l.find? (fun h => decide (own owns h = some x)) with
      | some h => forF (ftN 3) zbp (l.map nD) [some (OD owns),some (LN line),some (nD x),y] = .rt (nD h)
      | none => ∃ y',forF (ftN 3) zbp (l.map nD) [some (OD owns),some (LN line),some (nD x),y] = .nx [some (OD owns),some (LN line),some (nD x),y'])
  | [],y,_ => ⟨y,za3⟩
  | h::l,y,hl => by
    have c : (zaL (f2 (f2 (gv 0) (gv 3) ixA) (gv 2) eqD)) [some (OD owns),some (LN line),some (nD x),some (nD h)] = .ok (decide (own owns h = some x)) :=
      zaG (zal (zal (a := OD owns) (b := nD h) rfl rfl (zie (zq7 (hl h List.mem_cons_self)))) (b := nD x) rfl (zs3 _ _))
    rw [List.find?_cons]
    cases e : decide (own owns h = some x) with
    | true =>
      rw [e] at c
      refine zrQ (r1 := [some (OD owns),some (LN line),some (nD x),some (nD h)]) rfl ?_
      exact zaw ((if_t c).trans (zaw (zaE (d := nD h) rfl)))
    | false =>
      rw [e] at c
      have ih := zl5 owns line x l (some (nD h)) fun k hk => hl k (List.mem_cons_of_mem _ hk)
      have st : forF (ftN 3) zbp ((h::l).map nD) [some (OD owns),some (LN line),some (nD x),y] = forF (ftN 3) zbp (l.map nD) [some (OD owns),some (LN line),some (nD x),some (nD h)] :=
        zbI (r1 := [some (OD owns),some (LN line),some (nD x),some (nD h)]) rfl ((zae (if_f c)).trans rfl)
      rw [st]
      exact ih
theorem zk8 {owns : List (Option Nat)} {line : List Nat} {x : Nat} (hl : ∀ h∈line,h < owns.length) : zcM [OD owns,LN line,nD x] = .ok (oD (line.find? fun h => decide (own owns h = some x))) := by
  refine zaH (B := zcO) (n := 4) ?_
  unfold zcO
  have h := zl5 owns line x line none hl
  cases e : line.find? fun h => decide (own owns h = some x) with
  | some k =>
    rw [e] at h
    exact zaw ((za0 (ds := line.map nD) rfl).trans h)
  | none =>
    rw [e] at h
    obtain ⟨y',h⟩ := h
    exact (zae ((za0 (ds := line.map nD) rfl).trans h)).trans (zaw (zaE (d := .non) rfl))
theorem zsW (o : Option Nat) : isD (oD o) .non = some (.bl (decide (o = none))) := by cases o <;> rfl
theorem zkl {owns : List (Option Nat)} {line : List Nat} {x : Nat} (hl : ∀ h∈line,h < owns.length) (hne : line≠[]) : zaT [OD owns,LN line,nD x] = .ok (nD ((line.find? fun h => decide (own owns h = some x)).getD (line.headD 0))) := by
  refine zaH (B := zbj) (n := 4) ?_
  unfold zbj
  refine (zae (zau (zaj (zad (d := OD owns) rfl (zad (d := LN line) rfl (zad (d := nD x) rfl zai))) (zk8 hl)))).trans ?_
  refine zaw (zaE ?_)
  have c := zaG (zal (f := gv 3) (f' := fun _ => Res.ok D.non) (r := [some (OD owns),some (LN line),some (nD x),some (oD (line.find? fun h => decide (own owns h = some x)))]) rfl rfl (zsW (line.find? fun h => decide (own owns h = some x))))
  cases e : line.find? fun h => decide (own owns h = some x) with
  | some k =>
    rw [e,decide_eq_false (by simp)] at c
    exact (zrU c).trans rfl
  | none =>
    rw [e,decide_eq_true rfl] at c
    refine (zrT c).trans ?_
    cases line with
    | nil => exact absurd rfl hne
    | cons a l => exact zal (a := LN (a::l)) (b := .int 0) rfl rfl (ixA_L0 _ _)
end Law
end
section
namespace Law
open PySem L2 DL
noncomputable abbrev KD (kvs : List (Nat × Nat)) : D := .dic (kvs.map fun p => (kI p.1,nD p.2))
noncomputable abbrev FD (l : List Nat) (f : Nat→Nat) : List (Nat × Nat) := l.map fun h => (h,f h)
theorem zlX {a b : Nat} (h : kI a = kI b) : a = b := Int.ofNat_inj.mp (Sum.inl.inj h)
theorem zeN : ∀ {kvs : List (Nat × Nat)} {h : Nat} {f : Nat→Nat},(∀ p∈kvs,p.2 = f p.1)→h∈kvs.map (·.1)→getK (kvs.map fun p => (kI p.1,nD p.2)) (kI h) = some (nD (f h))
  | [],_,_,_,hh => by cases hh
  | p::kvs,h,f,hf,hh => by
    by_cases e : p.1 = h
    · have := hf p List.mem_cons_self
      subst e
      simp [getK,List.find?_cons,this]
    · have hne : ¬ kI p.1 = kI h := fun z => e (zlX z)
      have hh' : h∈kvs.map (·.1) := by
        rcases List.mem_cons.mp hh with z | z
        · exact absurd z.symm e
        · exact z
      have ih := zeN (f := f) (fun q hq => hf q (List.mem_cons_of_mem _ hq)) hh'
      have e1 : getK ((p::kvs).map fun p => (kI p.1,nD p.2)) (kI h) = getK (kvs.map fun p => (kI p.1,nD p.2)) (kI h) := by
        simp only [getK,List.map_cons,List.find?_cons]
        rw [decide_eq_false hne]
      rw [e1]; exact ih
theorem zi4 (l : List Nat) (f : Nat→Nat) : (FD l f).map (·.1) = l := by simp [FD,Function.comp_def]
theorem zih {l : List Nat} {f : Nat→Nat} {h : Nat} (hh : h∈l) : ixA (KD (FD l f)) (nD h) = some (nD (f h)) :=
  zpE (zeN (f := f) (fun p hp => by obtain ⟨x,_,rfl⟩ := List.mem_map.mp hp; rfl) (by rw [zi4]; exact hh))
noncomputable def putN (kvs : List (Nat × Nat)) (k v : Nat) : List (Nat × Nat) := if k∈kvs.map (·.1) then kvs.map fun p => if p.1 = k then (p.1,v) else p else kvs++[(k,v)]
theorem hasN (kvs : List (Nat × Nat)) (k : Nat) : ((kvs.map fun p => (kI p.1,nD p.2)).any fun kv => decide (kv.1 = kI k)) = decide (k∈kvs.map (·.1)) := by
  rw [List.any_map,Bool.eq_iff_iff,List.any_eq_true,decide_eq_true_iff,List.mem_map]
  constructor
  · rintro ⟨p,h1,h2⟩
    simp only [Function.comp_apply,decide_eq_true_eq] at h2
    exact ⟨p,h1,zlX h2⟩
  · rintro ⟨p,h1,rfl⟩
    exact ⟨p,h1,by simp⟩
theorem zoc (kvs : List (Nat × Nat)) (k v : Nat) : putD (kvs.map fun p => (kI p.1,nD p.2)) (kI k) (nD v) = (putN kvs k v).map fun p => (kI p.1,nD p.2) := by
  unfold putD putN
  rw [hasN]
  by_cases h : k∈kvs.map (·.1)
  · rw [decide_eq_true h,if_pos rfl,if_pos h,List.map_map,List.map_map]
    refine List.map_congr_left fun p _ => ?_
    simp only [Function.comp_apply]
    by_cases e : p.1 = k
    · rw [if_pos (by rw [e]),if_pos e]
    · rw [if_neg (fun z => e (zlX z)),if_neg e]
  · rw [decide_eq_false h,if_neg Bool.false_ne_true,if_neg h,List.map_append]
    rfl
theorem zlk (kvs : List (Nat × Nat)) (k v j : Nat) : j∈(putN kvs k v).map (·.1)↔j∈kvs.map (·.1)∨j = k := by
  unfold putN
  by_cases h : k∈kvs.map (·.1)
  · rw [if_pos h,List.map_map]
    have : ((fun p : Nat × Nat => p.1) ∘ fun p => if p.1 = k then (p.1,v) else p) = fun p => p.1 := by
      funext p
      simp only [Function.comp_apply]
      split <;> rfl
    rw [this]
    constructor
    · exact .inl
    · rintro (z | rfl)
      · exact z
      · exact h
  · rw [if_neg h]; simp
theorem zna {kvs : List (Nat × Nat)} {k v : Nat} {f : Nat→Nat} (h : ∀ p∈kvs,p.2 = f p.1) (hv : v = f k) : ∀ p∈putN kvs k v,p.2 = f p.1 := by
  intro p hp
  unfold putN at hp
  split at hp
  · obtain ⟨q,h1,rfl⟩ := List.mem_map.mp hp
    split
    · rename_i e; simp only; rw [e]; exact hv
    · exact h q h1
  · rcases List.mem_append.mp hp with z | z
    · exact h p z
    · rw [List.mem_singleton.mp z]; exact hv
theorem zjn {kvs : List (Nat × Nat)} {k v : Nat} (hl : kvs.length≤1000) : stoD (KD kvs) (nD k) (nD v) = some (KD (putN kvs k v)) := by
  show (if (kvs.map fun p => (kI p.1,nD p.2)).length < sizeLine then some (D.dic (putD _ (kI k) (nD v))) else none) = _
  rw [if_pos (by rw [List.length_map,sizeLine_eq]; omega),zoc]
structure GI (t : Nat→Nat) (kvs : List (Nat × Nat)) (L : List Nat) : Prop where
  nd : (kvs.map (·.1)).Nodup
  val : ∀ p∈kvs,p.2 = t p.1
  key : ∀ h,h∈kvs.map (·.1)↔h∈L
theorem zo3 {kvs : List (Nat × Nat)} {k v : Nat} (h : (kvs.map (·.1)).Nodup) : ((putN kvs k v).map (·.1)).Nodup := by
  unfold putN
  split
  · rw [List.map_map]
    have : ((fun p : Nat × Nat => p.1) ∘ fun p => if p.1 = k then (p.1,v) else p) = fun p => p.1 := by
      funext p
      simp only [Function.comp_apply]
      split <;> rfl
    rw [this]; exact h
  · rename_i hk
    rw [List.map_append]
    refine List.nodup_append.mpr ⟨h,by simp,fun a ha b hb => ?_⟩
    simp at hb
    rintro rfl
    exact hk (hb ▸ ha)
theorem GI.put {t : Nat→Nat} {kvs : List (Nat × Nat)} {L : List Nat} (g : GI t kvs L) (k : Nat) : GI t (putN kvs k (t k)) (L++[k]) :=
  ⟨zo3 g.nd,zna g.val rfl,fun h => by rw [zlk,g.key]; simp⟩
theorem GI.len {t : Nat→Nat} {kvs : List (Nat × Nat)} {L line : List Nat} (g : GI t kvs L) (hs : ∀ h∈L,h∈line) : kvs.length≤line.length := by
  have := Rg.zcb (m := line) g.nd fun h hh => hs h ((g.key h).mp hh)
  simpa using this
theorem GI.congr {t t' : Nat→Nat} {kvs : List (Nat × Nat)} {L : List Nat} (g : GI t kvs L) (h : ∀ x∈L,t' x = t x) : GI t' kvs L :=
  ⟨g.nd,fun p hp => by rw [g.val p hp,h p.1 ((g.key _).mp (List.mem_map.mpr ⟨p,hp,rfl⟩))],g.key⟩
theorem GI.mem {t : Nat→Nat} {kvs : List (Nat × Nat)} {L M : List Nat} (g : GI t kvs L) (h : ∀ x,x∈L↔x∈M) : GI t kvs M := ⟨g.nd,g.val,fun x => (g.key x).trans (h x)⟩
theorem GI.nil (t : Nat→Nat) : GI t [] [] := ⟨by simp,fun _ hp => (nomatch hp),fun h => by simp⟩
theorem zgg {α : Type} (l : List α) : l.filter (fun _ => true) = l := List.filter_eq_self.mpr fun _ _ => rfl
theorem GI.full {t : Nat→Nat} {kvs : List (Nat × Nat)} {L : List Nat} {n : Nat} (g : GI t kvs L) (h : ∀ x,x∈L↔x < n) : kvs.length = n := by
  have h1 := g.len (line := List.range n) fun x hx => List.mem_range.mpr ((h x).mp hx)
  have h2 := Rg.zcb (l := List.range n) (m := kvs.map (·.1)) List.nodup_range fun x hx => (g.key x).mpr ((h x).mpr (List.mem_range.mp hx))
  simp at h1 h2; omega
noncomputable def Wr (rows : List (List Nat)) (h : Nat) : List Nat := (rows[h]?).getD []
theorem zn9 {rows : List (List Nat)} {h : Nat} (hh : h < rows.length) : (rows.map TN)[h]? = some (TN (Wr rows h)) := by
  rw [List.getElem?_map]
  unfold Wr
  rw [List.getElem?_eq_getElem hh]; rfl
theorem zjB {kvs : List (Nat × Nat)} {k v : Nat} (h : k∉kvs.map (·.1)) : putN kvs k v = kvs++[(k,v)] := by
  unfold putN; rw [if_neg h]
end Law
end
section
namespace Law
open PySem L2 DL
theorem zeb {a : Nat→Nat} {kvs : List (Nat × Nat)} {L : List Nat} {n : Nat} (g : GI a kvs L) (h : ∀ x,x∈L↔x < n) (h8 : n≤60) : zbe [KD kvs] = .ok (TN ((List.range n).map a)) := by
  have hl := g.full h
  refine zaH (B := zcQ) (n := 1) ?_
  unfold zcQ
  refine zaw (zaE (za9 (zad (zes (l := List.range n) nD (fun _ => true) (fun h => nD (a h)) (zdj (ds := [nD n]) (zad (za9 (zad (d := KD kvs) rfl zai) (by rw [zjN,hl])) zai) (zeJ (by omega))) (by simp; omega) fun x hx => ⟨[some (nD x),some (KD kvs)],rfl,rfl,fun _ => zal (a := KD kvs) (b := nD x) rfl rfl (zpE (zeN g.val ((g.key x).mpr ((h x).mpr (List.mem_range.mp hx)))))⟩) zai) ?_))
  rw [zgg,e_tupL]
  show some (D.tup _) = some (D.tup _)
  rw [List.map_map]; rfl
end Law
end
section
namespace Law
open PySem L2 DL
noncomputable abbrev zcZ (t : Nat→Nat) (h : Nat) : D := .tup [nD h,nD (t h)]
noncomputable abbrev zdg (t : Nat→Nat) (ring : List Nat) : D := .tup (ring.map (zcZ t))
noncomputable def zey (t : Nat→Nat) : Option (List Nat)→D
  | some ring => zdg t ring
  | none => .non
section
variable {t f : Nat → Nat} {line : List Nat} {first : Nat} (hcl : ∀ h ∈ line, f h ∈ line) (hn : line.length ≤ 60)
include hcl hn
theorem zoZ : ∀ (j : Nat) (ring : List Nat) (hand : Nat),hand∈line→ring.length≤line.length→line.length < j + ring.length →
    ∃ ring' hand',zbo q109 zdl zeU j [some (nD first),some (KD (FD line t)),some (KD (FD line f)),some (.lst (ring.map (zcZ t))),some (nD hand)] = .nx [some (nD first),some (KD (FD line t)),some (KD (FD line f)),some (.lst (ring'.map (zcZ t))),some (nD hand')] ∧
      ∀ k,line.length < k + ring.length→Rg.zhN f line.length first k ring hand = if hand' = first then some ring' else none := by
  intro j
  induction j with
  | zero => intro ring hand _ h1 h2; omega
  | succ j ih =>
    intro ring hand hh h1 h2
    have c1 : (zaL (f2 (gv 4) (gv 0) gtI)) [some (nD first),some (KD (FD line t)),some (KD (FD line f)),some (.lst (ring.map (zcZ t))),some (nD hand)] = .ok (decide (first < hand)) :=
      zaG (zal (a := nD hand) (b := nD first) rfl rfl (zl7 _ _))
    have c2 : (zaL (f2 (fC (zac (gv 3) lNil) lenD) (fC (zac (gv 1) lNil) lenD) ltI)) [some (nD first),some (KD (FD line t)),some (KD (FD line f)),some (.lst (ring.map (zcZ t))),some (nD hand)] = .ok (decide (ring.length < line.length)) := by
      refine zaG (zal (a := nD ring.length) (b := nD line.length) (za9 (zad rfl zai) (zcc _ _)) (za9 (zad (d := KD (FD line t)) rfl zai) ?_) (znx _ _))
      rw [zjN,List.length_map]
    by_cases hc : first < hand∧ring.length < line.length
    · have cq : zdl [some (nD first),some (KD (FD line t)),some (KD (FD line f)),some (.lst (ring.map (zcZ t))),some (nD hand)] = .ok true := by
        rw [decide_eq_true hc.1] at c1
        rw [decide_eq_true hc.2] at c2
        exact (zpV c1).trans c2
      obtain ⟨ring',hand',i1,i2⟩ := ih (ring++[hand]) (f hand) (hcl hand hh) (by simp; omega) (by simp; omega)
      refine ⟨ring',hand',?_,fun k hk => ?_⟩
      · rw [ziE cq (r' := [some (nD first),some (KD (FD line t)),some (KD (FD line f)),some (.lst ((ring++[hand]).map (zcZ t))),some (nD (f hand))]) ?_]
        · exact i1
        · refine (zae (zfn (d := .lst (ring.map (zcZ t))) (ds := [zcZ t hand]) rfl rfl (zad (zgN (zad (d := nD hand) rfl (zad (zal (a := KD (FD line t)) (b := nD hand) rfl rfl (zih hh)) zai)) (by simp)) zai) (zgm (by simp; omega)))).trans ?_
          refine (zae (zau (d := nD (f hand)) (zal (a := KD (FD line f)) (b := nD hand) rfl rfl (zih hh)))).trans ?_
          show Out.nx [_,_,_,some (D.lst (ring.map (zcZ t)++[zcZ t hand])),_] = _
          rw [List.map_append]; rfl
      · cases k with
        | zero => omega
        | succ k =>
          unfold Rg.zhN
          rw [if_pos hc]
          exact i2 k (by simp; omega)
    · refine ⟨ring,hand,ziF ?_,fun k hk => ?_⟩
      · by_cases hc1 : first < hand
        · rw [decide_eq_true hc1] at c1
          rw [decide_eq_false (fun z => hc ⟨hc1,z⟩)] at c2
          exact (zpV c1).trans c2
        · rw [decide_eq_false hc1] at c1
          exact zsa c1
      · cases k with
        | zero => omega
        | succ k =>
          unfold Rg.zhN
          rw [if_neg hc]
theorem zm2 (hf : first∈line) : zdq [nD first,KD (FD line t),KD (FD line f)] = .ok (zey t (Rg.zjy f line.length first)) := by
  refine zaH (B := zdw) (n := 5) ?_
  unfold zdw
  have hpos := List.length_pos_of_mem hf
  obtain ⟨ring',hand',h1,h2⟩ := zoZ (t := t) (first := first) hcl hn 64 [first] (f first) (hcl first hf) (by show 1≤_; omega) (by simp; omega)
  refine (zae (zau (d := .lst ([first].map (zcZ t))) (zee (zad (zgN (zad (d := nD first) rfl (zad (zal (a := KD (FD line t)) (b := nD first) rfl rfl (zih hf)) zai)) (by simp)) zai) (by simp)))).trans ?_
  refine (zae (zau (d := nD (f first)) (zal (a := KD (FD line f)) (b := nD first) rfl rfl (zih hf)))).trans ?_
  refine (zae h1).trans ?_
  have hr : Rg.zjy f line.length first = if hand' = first then some ring' else none := h2 _ (by simp; omega)
  rw [hr]
  have c := zaG (zal (f := gv 4) (f' := gv 0) (r := [some (nD first),some (KD (FD line t)),some (KD (FD line f)),some (.lst (ring'.map (zcZ t))),some (nD hand')]) (a := nD hand') (b := nD first) rfl rfl (zmi hand' first))
  by_cases e : hand' = first
  · rw [decide_eq_true e] at c
    rw [if_pos e]
    exact zaw (zaE ((zrT c).trans (za9 (zad (d := .lst (ring'.map (zcZ t))) rfl zai) rfl)))
  · rw [decide_eq_false e] at c
    rw [if_neg e]
    exact zaw (zaE ((zrU c).trans rfl))
end
end Law
end
section
namespace Law
open PySem L2 DL
structure Snd (rows : List (List Nat)) (owns : List (Option Nat)) (s : Rg.S) : Prop where
  ok : Rg.Ok (Wr rows) (own owns) s
  inr : ∀ h∈s.line,h < rows.length
  ino : ∀ h∈s.line,h < owns.length
  wid : ∀ h∈s.line,(Wr rows h).length≤1000
  nl : s.line.length≤60
  nt : s.things.length≤60
section
variable {rows : List (List Nat)} {owns : List (Option Nat)} {s : Rg.S}
theorem Snd.tg (S : Snd rows owns s) {h : Nat} (hh : h∈s.line) : zbf [TN (Wr rows h),LN s.things] = .ok (nD (Rg.tgt (Wr rows) s h)) :=
  zjw (S.ok.some_thing hh) (S.wid h hh)
theorem Snd.pts (S : Snd rows owns s) {x h : Nat} (hh : h∈s.line) : zaT [OD owns,LN s.line,nD x] = .ok (nD (Rg.pt (own owns) s x)) :=
  zkl S.ino (List.ne_nil_of_mem hh)
noncomputable abbrev tS (rows : List (List Nat)) (s : Rg.S) : Nat→Nat := Rg.tgt (Wr rows) s
noncomputable abbrev fS (rows : List (List Nat)) (owns : List (Option Nat)) (s : Rg.S) : Nat→Nat := Rg.nxt (Wr rows) (own owns) s
theorem zlc (S : Snd rows owns s) : ∀ (suf pre : List Nat) (y : Option D),pre++suf = s.line →
    ∃ y',forF (ftN 6) zcL (suf.map nD) [some (WD rows),some (OD owns),some (LN s.line),some (LN s.things),some (KD (FD pre (tS rows s))),some (KD (FD pre (fS rows owns s))),y,none]
      = .nx [some (WD rows),some (OD owns),some (LN s.line),some (LN s.things),some (KD (FD s.line (tS rows s))),some (KD (FD s.line (fS rows owns s))),y',none]
  | [],pre,y,e => ⟨y,by rw [List.append_nil] at e; rw [e]; exact za3⟩
  | h::suf,pre,y,e => by
    obtain ⟨y',ih⟩ := zlc S suf (pre++[h]) (some (nD h)) (by simpa using e)
    have hh : h∈s.line := by rw [← e]; simp
    have hn := S.ok.nl
    rw [← e] at hn
    have hk : h∉pre := fun z => (List.nodup_append.mp hn).2.2 h z h List.mem_cons_self rfl
    have hpl : pre.length≤1000 := by
      have := S.nl
      rw [← e] at this; simp at this; omega
    refine ⟨y',?_⟩
    rw [← ih]
    refine zbI (r1 := [some (WD rows),some (OD owns),some (LN s.line),some (LN s.things),some (KD (FD pre (tS rows s))),some (KD (FD pre (fS rows owns s))),some (nD h),none]) rfl ?_
    have c1 : stoD (KD (FD pre (tS rows s))) (nD h) (nD (tS rows s h)) = some (KD (FD (pre++[h]) (tS rows s))) := by
      rw [zjn (by simpa using hpl),zjB (by rw [zi4]; exact hk)]
      unfold FD; rw [List.map_append]; rfl
    have c2 : stoD (KD (FD pre (fS rows owns s))) (nD h) (nD (fS rows owns s h)) = some (KD (FD (pre++[h]) (fS rows owns s))) := by
      rw [zjn (by simpa using hpl),zjB (by rw [zi4]; exact hk)]
      unfold FD; rw [List.map_append]; rfl
    refine (zae (zgK (d := KD (FD pre (tS rows s))) (k := nD h) (v := nD (tS rows s h)) rfl (zaj (zad (zal (a := WD rows) (b := nD h) rfl rfl (zie (zn9 (S.inr h hh)))) (zad (d := LN s.things) rfl zai)) (S.tg hh)) rfl c1)).trans ?_
    refine (zae (zgK (d := KD (FD pre (fS rows owns s))) (k := nD h) (v := nD (fS rows owns s h)) rfl (zaj (zad (d := OD owns) rfl (zad (d := LN s.line) rfl (zad (zal (a := KD (FD (pre++[h]) (tS rows s))) (b := nD h) rfl rfl (zih (by simp))) zai))) (S.pts hh)) rfl c2)).trans ?_
    rfl
theorem zi1 {α : Type} (t : Nat→Nat) (f : α→Option (List Nat)) : ∀ (l : List α),(((l.map f).filter Option.isSome).map (zey t)) = (l.filterMap f).map (zdg t)
  | [] => rfl
  | a::l => by
    rw [List.map_cons,List.filter_cons,List.filterMap_cons]
    cases e : f a with
    | none => simpa using zi1 t f l
    | some r => simpa [zey] using zi1 t f l
theorem ziY (t : Nat→Nat) (h : Nat) : zfp (zcZ t h) = some [(h : Int),(t h : Int)] := rfl
theorem zjj (t : Nat→Nat) : ∀ (ring : List Nat),zgv (ring.map (zcZ t)) = some (ring.map fun h : Nat => [(h : Int),(t h : Int)])
  | [] => rfl
  | h::ring => by
    show (zfp (zcZ t h)).bind _ = _
    rw [ziY,zjj t ring]; rfl
theorem zhW (t : Nat→Nat) : ∀ (rs : List (List Nat)),(∀ r∈rs,r≠[])→∃ kss,zfj (rs.map (zdg t)) = some kss
  | [],_ => ⟨[],rfl⟩
  | r::rs,h => by
    obtain ⟨kss,e⟩ := zhW t rs fun x hx => h x (List.mem_cons_of_mem _ hx)
    have hr := h r List.mem_cons_self
    cases r with
    | nil => exact absurd rfl hr
    | cons a r =>
      refine ⟨((a::r).map fun h : Nat => [(h : Int),(t h : Int)])::kss,?_⟩
      show (zgv ((a::r).map (zcZ t))).bind _ = _
      rw [zjj,e]; rfl
theorem zkc (t : Nat→Nat) (rs : List (List Nat)) (h : ∀ r∈rs,r≠[]) (hl : rs.length < 64) : ∃ rs' : List (List Nat),rs'.Perm rs∧zmV [.lst (rs.map (zdg t))] = some (.lst (rs'.map (zdg t))) := by
  obtain ⟨kss,e⟩ := zhW t rs h
  refine ⟨(zgw (rs.map (zdg t)).length fun i j => lexR (kss.getD i []) (kss.getD j [])).map fun i => rs.getD i [],?_,?_⟩
  · have := (zeX (rs.map (zdg t)).length fun i j => lexR (kss.getD i []) (kss.getD j [])).map fun i => rs.getD i []
    refine this.trans ?_
    rw [List.length_map]
    have e2 : (List.range rs.length).map (fun i => rs.getD i []) = rs := by
      refine List.ext_getElem? fun i => ?_
      rw [List.getElem?_map]
      by_cases hi : i < rs.length
      · rw [List.getElem?_range hi]; simp [List.getElem?_eq_getElem hi]
      · rw [List.getElem?_eq_none (by simp; omega),List.getElem?_eq_none (by omega)]; rfl
    rw [e2]
  · show (zfj (rs.map (zdg t))).bind _ = _
    rw [e]
    show (if _ then _ else _) = _
    rw [if_pos (by rw [List.length_map]; exact hl)]
    unfold zhE
    rw [List.map_map]
    congr 2
    refine List.map_congr_left fun i hi => ?_
    have hi := zfV hi
    rw [List.length_map] at hi
    simp [List.getD,List.getElem?_eq_getElem hi]
theorem zle {W : Nat→List Nat} {O : Nat→Option Nat} : ∀ r∈Rg.zf1 W O s,r≠[] := by
  intro r hr
  obtain ⟨x,_,h2⟩ := List.mem_filterMap.mp hr
  exact Rg.zlf h2
theorem znC (t : Nat→Nat) (o : Option (List Nat)) : isnD (zey t o) .non = some (.bl o.isSome) := by cases o <;> rfl
theorem zk6 (S : Snd rows owns s) : ∃ rs : List (List Nat),rs.Perm (Rg.zf1 (Wr rows) (own owns) s)∧zbs [WD rows,OD owns,LN s.line,LN s.things] = .ok (.lst (rs.map (zdg (tS rows s)))) := by
  obtain ⟨y',hloop⟩ := zlc S s.line [] none rfl
  have hcl : ∀ h∈s.line,fS rows owns s h∈s.line := fun h hh => Rg.zlF (List.ne_nil_of_mem hh)
  have hlen : (Rg.zf1 (Wr rows) (own owns) s).length≤s.line.length := List.length_filterMap_le _ _
  obtain ⟨rs',hp,hs⟩ := zkc (tS rows s) (Rg.zf1 (Wr rows) (own owns) s) zle (by have := S.nl; omega)
  refine ⟨rs',hp,zaH (B := zbt) (n := 8) ?_⟩
  unfold zbt
  refine (zae (r' := [some (WD rows),some (OD owns),some (LN s.line),some (LN s.things),some (KD (FD [] (tS rows s))),none,none,none]) rfl).trans ?_
  refine (zae (r' := [some (WD rows),some (OD owns),some (LN s.line),some (LN s.things),some (KD (FD [] (tS rows s))),some (KD (FD [] (fS rows owns s))),none,none]) rfl).trans ?_
  refine (zae ((za0 (ds := s.line.map nD) rfl).trans hloop)).trans ?_
  refine (zae (zau (zes (l := s.line) nD (fun _ => true) (fun h => zey (tS rows s) (Rg.zjy (fS rows owns s) s.line.length h)) rfl (by have := S.nl; omega) fun h hh => ⟨[some (nD h),some (KD (FD s.line (tS rows s))),some (KD (FD s.line (fS rows owns s)))],rfl,rfl,fun _ => zaj (zad (d := nD h) rfl (zad (d := KD (FD s.line (tS rows s))) rfl (zad (d := KD (FD s.line (fS rows owns s))) rfl zai))) (zm2 hcl S.nl hh)⟩))).trans ?_
  rw [zgg]
  refine zaw (zaE (za9 (zad (zes (l := s.line.map (Rg.zjy (fS rows owns s) s.line.length)) (zey (tS rows s)) Option.isSome (zey (tS rows s)) ?_ (by have := S.nl; simp; omega) fun o _ => ⟨[some (zey (tS rows s) o)],rfl,zaG (zal (a := zey (tS rows s) o) (b := .non) rfl rfl (znC _ _)),fun _ => rfl⟩) zai) ?_))
  · rw [List.map_map]; rfl
  · rw [zi1]; exact hs
theorem zrL {t : Nat→Nat} {line : List Nat} (hl : line.length≤60) (rg d : D) : ∀ (ring L : List Nat) (kvs : List (Nat × Nat)) (x y : Option D),GI t kvs L→(∀ h∈L++ring,h∈line) →
    ∃ kvs' x' y',GI t kvs' (L++ring)∧forF (ftT (zc3 (ftN 3) (zc3 (ftN 4) zi0))) zg6 (ring.map (zcZ t)) [some rg,some (KD kvs),some d,x,y] = .nx [some rg,some (KD kvs'),some d,x',y']
  | [],L,kvs,x,y,g,hs => ⟨kvs,x,y,by rw [List.append_nil]; exact g,za3⟩
  | h::ring,L,kvs,x,y,g,hs => by
    obtain ⟨kvs',x',y',g',ih⟩ := zrL hl rg d ring (L++[h]) (putN kvs h (t h)) (some (nD h)) (some (nD (t h))) (g.put h) (by simpa using hs)
    refine ⟨kvs',x',y',by simpa using g',?_⟩
    rw [← ih]
    have hk := g.len (line := line) fun x hx => hs x (List.mem_append_left _ hx)
    exact zbI (r1 := [some rg,some (KD kvs),some d,some (nD h),some (nD (t h))]) rfl (zae (zgK (d := KD kvs) (k := nD h) (v := nD (t h)) rfl rfl rfl (zjn (by omega))))
theorem zow {t : Nat→Nat} {line : List Nat} (hl : line.length≤60) (rg : D) : ∀ (rs : List (List Nat)) (L : List Nat) (kvs : List (Nat × Nat)) (z x y : Option D),GI t kvs L→(∀ h∈L++rs.flatten,h∈line) →
    ∃ kvs' z' x' y',GI t kvs' (L++rs.flatten)∧forF (ftN 2) zg5 (rs.map (zdg t)) [some rg,some (KD kvs),z,x,y] = .nx [some rg,some (KD kvs'),z',x',y']
  | [],L,kvs,z,x,y,g,hs => ⟨kvs,z,x,y,by simpa using g,za3⟩
  | r::rs,L,kvs,z,x,y,g,hs => by
    obtain ⟨kvs1,x1,y1,g1,h1⟩ := zrL hl rg (zdg t r) r L kvs x y g fun h hh => hs h (by
      rw [List.flatten_cons]
      rcases List.mem_append.mp hh with q | q
      · exact List.mem_append_left _ q
      · exact List.mem_append_right _ (List.mem_append_left _ q))
    obtain ⟨kvs',z',x',y',g',ih⟩ := zow hl rg rs (L++r) kvs1 (some (zdg t r)) x1 y1 g1 (by rw [List.append_assoc]; simpa using hs)
    refine ⟨kvs',z',x',y',by rw [List.append_assoc] at g'; simpa using g',?_⟩
    rw [← ih]
    exact zbI (r1 := [some rg,some (KD kvs),some (zdg t r),x,y]) rfl (zae ((za0 (ds := r.map (zcZ t)) rfl).trans h1))
theorem zlb {t : Nat→Nat} {line : List Nat} {rs : List (List Nat)} (hl : line.length≤60) (hs : ∀ h∈rs.flatten,h∈line) : ∃ kvs,GI t kvs rs.flatten∧zds [.lst (rs.map (zdg t))] = .ok (KD kvs) := by
  obtain ⟨kvs',z',x',y',g',h⟩ := zow hl (.lst (rs.map (zdg t))) rs [] [] none none none ⟨by simp,fun _ hp => (nomatch hp),fun h => by simp⟩ (by simpa using hs)
  refine ⟨kvs',by simpa using g',zaH (B := zfL) (n := 5) ?_⟩
  unfold zfL
  refine (zae (r' := [some (.lst (rs.map (zdg t))),some (KD []),none,none,none]) rfl).trans ?_
  refine (zae ((za0 (ds := rs.map (zdg t)) rfl).trans h)).trans ?_
  exact zaw (zaE (d := KD kvs') rfl)
end
end Law
end
section
namespace Law
open PySem L2 DL
section
variable {rows : List (List Nat)} {owns : List (Option Nat)}
inductive Ch (rows : List (List Nat)) (owns : List (Option Nat)) : Rg.S→List (List (List Nat) × Rg.S)→Prop where
  | nil {s : Rg.S} : s.line = []→Ch rows owns s []
  | cons {s : Rg.S} {rs : List (List Nat)} {l : List (List (List Nat) × Rg.S)} : rs.Perm (Rg.zf1 (Wr rows) (own owns) s)→Ch rows owns (Rg.minus (Wr rows) s rs.flatten) l→Ch rows owns s ((rs,s)::l)
noncomputable abbrev zfz (rows : List (List Nat)) (p : List (List Nat) × Rg.S) : D := .lst (p.1.map (zdg (tS rows p.2)))
theorem zjC {s : Rg.S} {rs : List (List Nat)} (hp : rs.Perm (Rg.zf1 (Wr rows) (own owns) s)) : Rg.Cyc (Wr rows) (own owns) s rs.flatten :=
  Rg.zld (fun h hh => by obtain ⟨r,h1,h2⟩ := List.mem_flatten.mp hh; exact ⟨r,hp.mem_iff.mp h1,h2⟩) (fun r hr h hh => List.mem_flatten.mpr ⟨r,hp.mem_iff.mpr hr,hh⟩)
theorem Snd.minus {s : Rg.S} (S : Snd rows owns s) {C : List Nat} (c : Rg.Cyc (Wr rows) (own owns) s C) : Snd rows owns (Rg.minus (Wr rows) s C) where
  ok := Rg.zjI S.ok c
  inr := fun h hh => S.inr h (List.mem_filter.mp hh).1
  ino := fun h hh => S.ino h (List.mem_filter.mp hh).1
  wid := fun h hh => S.wid h (List.mem_filter.mp hh).1
  nl := Nat.le_trans (List.length_filter_le _ _) S.nl
  nt := Nat.le_trans (List.length_filter_le _ _) S.nt
theorem znw {s : Rg.S} {C : List Nat} (c : Rg.Cyc (Wr rows) (own owns) s C) (hne : C≠[]) : (Rg.minus (Wr rows) s C).line.length < s.line.length := by
  obtain ⟨x,hx⟩ := List.exists_mem_of_ne_nil _ hne
  have := Rg.zdL (fun h => decide (h∉C)) s.line
  have h3 : 0 < (s.line.filter fun h => ! decide (h∉C)).length := List.length_pos_of_mem (List.mem_filter.mpr ⟨c.sub x hx,by simpa using hx⟩)
  show (s.line.filter _).length < _
  omega
theorem zh2 {s : Rg.S} {rs : List (List Nat)} (hp : rs.Perm (Rg.zf1 (Wr rows) (own owns) s)) (hne : s.line≠[]) : rs.flatten≠[] := by
  obtain ⟨x,hx⟩ := List.exists_mem_of_ne_nil _ (Rg.zl8 (W := Wr rows) (O := own owns) hne)
  obtain ⟨r,h1,h2⟩ := List.mem_flatten.mp hx
  exact List.ne_nil_of_mem (List.mem_flatten.mpr ⟨r,hp.mem_iff.mpr h1,h2⟩)
theorem zsP {kvs : List (Nat × Nat)} {L : List Nat} {t : Nat→Nat} (g : GI t kvs L) (h : Nat) : ninD (nD h) (KD kvs) = some (.bl (decide (h∉L))) := by
  show (some (hasK _ (kI h))).map (fun b => D.bl (! b)) = _
  have e : hasK (kvs.map fun p => (kI p.1,nD p.2)) (kI h) = decide (h∈kvs.map (·.1)) := hasN kvs h
  rw [e]
  have : decide (h∈kvs.map (·.1)) = decide (h∈L) := by rw [decide_eq_decide]; exact g.key h
  rw [this]
  show some (D.bl (! decide (h∈L))) = _
  rw [decide_not]
theorem GI.vals {kvs : List (Nat × Nat)} {L : List Nat} {t : Nat→Nat} (g : GI t kvs L) (x : Nat) : x∈kvs.map (·.2)↔x∈L.map t := by
  constructor
  · intro hx
    obtain ⟨p,h1,rfl⟩ := List.mem_map.mp hx
    exact List.mem_map.mpr ⟨p.1,(g.key _).mp (List.mem_map.mpr ⟨p,h1,rfl⟩),(g.val p h1).symm⟩
  · intro hx
    obtain ⟨h,h1,rfl⟩ := List.mem_map.mp hx
    obtain ⟨p,h2,rfl⟩ := List.mem_map.mp ((g.key h).mpr h1)
    exact List.mem_map.mpr ⟨p,h2,g.val p h2⟩
theorem zsO {kvs : List (Nat × Nat)} {L : List Nat} {t : Nat→Nat} (g : GI t kvs L) (x : Nat) : ninD (nD x) (LN (kvs.map (·.2))) = some (.bl (decide (x∉L.map t))) := by
  rw [zro,decide_not]
  congr 3
  rw [decide_eq_decide]; exact g.vals x
theorem zo0 (od : D) : ∀ (j : Nat) (s : Rg.S) (told : List D) (x y z : Option D),Snd rows owns s→s.line.length < j→told.length + s.line.length≤60 →
    ∃ (s' : Rg.S) (l : List (List (List Nat) × Rg.S)) (x' y' z' : Option D),Ch rows owns s l∧l.length≤s.line.length ∧
      zbo q110 zgU zg4 j [some (WD rows),some (OD owns),some od,some (LN s.line),some (LN s.things),some (.lst told),x,y,z]
        = .nx [some (WD rows),some (OD owns),some od,some (LN s'.line),some (LN s'.things),some (.lst (told++l.map (zfz rows))),x',y',z'] := by
  intro j
  induction j with
  | zero => intro s told x y z _ h; omega
  | succ j ih =>
    intro s told x y z S hj ht
    by_cases hne : s.line = []
    · refine ⟨s,[],x,y,z,.nil hne,Nat.zero_le _,?_⟩
      rw [List.map_nil,List.append_nil]
      refine ziF (zbl (d := LN s.line) rfl ?_)
      rw [hne]; rfl
    · obtain ⟨rs,hp,hr⟩ := zk6 S
      have c := zjC hp
      obtain ⟨kvs,g,hg⟩ := zlb (t := tS rows s) S.nl c.sub
      have hlt := znw c (zh2 hp hne)
      obtain ⟨s',l,x',y',z',h1,h2,h3⟩ := ih (Rg.minus (Wr rows) s rs.flatten) (told++[zfz rows (rs,s)]) (some (zfz rows (rs,s))) (some (KD kvs)) (some (LN (kvs.map (·.2)))) (S.minus c) (by omega) (by simp; omega)
      refine ⟨s',(rs,s)::l,x',y',z',.cons hp h1,by simp; omega,?_⟩
      rw [List.append_assoc] at h3
      rw [List.map_cons]
      refine Eq.trans (ziE (zbl (b := true) (d := LN s.line) rfl ?_) ?_) h3
      · cases q : s.line with
        | nil => exact absurd q hne
        | cons a t => rfl
      · refine (zae (zau (zaj (zad (d := WD rows) rfl (zad (d := OD owns) rfl (zad (d := LN s.line) rfl (zad (d := LN s.things) rfl zai)))) hr))).trans ?_
        refine (zae (zau (zaj (zad (d := .lst (rs.map (zdg (tS rows s)))) rfl zai) hg))).trans ?_
        refine (zae (zau (d := LN (kvs.map (·.2))) (zkE (a := KD kvs) rfl ?_))).trans ?_
        · rw [e_valsD,List.map_map]; show some (D.lst _) = some (D.lst ((kvs.map (·.2)).map nD)); rw [List.map_map]; rfl
        refine (zae (zau (zes (l := s.line) nD (fun h => decide (h∉rs.flatten)) nD rfl (by have := S.nl; omega) fun h hh => ⟨[some (nD h),some (KD kvs)],rfl,zaG (zal (a := nD h) (b := KD kvs) rfl rfl (zsP g h)),fun _ => rfl⟩))).trans ?_
        refine (zae (zau (zes (l := s.things) nD (fun x => decide (x∉rs.flatten.map (tS rows s))) nD rfl (by have := S.nt; omega) fun h hh => ⟨[some (nD h),some (LN (kvs.map (·.2)))],rfl,zaG (zal (a := nD h) (b := LN (kvs.map (·.2))) rfl rfl (zsO g h)),fun _ => rfl⟩))).trans ?_
        refine (zae (zfn (d := .lst told) (ds := [zfz rows (rs,s)]) rfl rfl (zad (d := zfz rows (rs,s)) rfl zai) (zgm (by omega)))).trans ?_
        rfl
noncomputable def ordD : Option (List Nat)→D
  | none => .non
  | some l => LN l
noncomputable def s0 (rows : List (List Nat)) (o : Option (List Nat)) : Rg.S := ⟨o.getD (List.range rows.length),List.range (rows.headD []).length⟩
theorem zkm {o : Option (List Nat)} (ho : ∀ l,o = some l→l.Nodup∧(∀ k∈l,k < rows.length)∧l.length = rows.length) (h8 : rows.length≤60) : zbC [WD rows,ordD o] = .ok (LN (s0 rows o).line) := by
  cases o with
  | none => exact zgy (by omega)
  | some l =>
    obtain ⟨h1,h2,h3⟩ := ho l rfl
    exact zhP h1 h2 h3 (by omega)
theorem zkk {o : Option (List Nat)} (ho : ∀ l,o = some l→l.Nodup∧(∀ k∈l,k < rows.length)∧l.length = rows.length) (hr : rows≠[]) (h8 : rows.length≤60) (S : Snd rows owns (s0 rows o)) :
    ∃ l,Ch rows owns (s0 rows o) l∧l.length≤60∧zeV [WD rows,OD owns,ordD o] = .ok (.lst (l.map (zfz rows))) := by
  obtain ⟨s',l,x',y',z',h1,h2,h3⟩ := zo0 (rows := rows) (owns := owns) (ordD o) 64 (s0 rows o) [] none none none S (by have := S.nl; omega) (by have := S.nl; simp; omega)
  refine ⟨l,h1,by have := S.nl; omega,zaH (B := zfK) (n := 9) ?_⟩
  unfold zfK
  cases rows with
  | nil => exact absurd rfl hr
  | cons row rest =>
    refine (zae (zau (zaj (zad (d := WD (row::rest)) rfl (zad (d := ordD o) rfl zai)) (zkm ho h8)))).trans ?_
    refine (zae (zau (d := LN (s0 (row::rest) o).things) (za9 (zad (zaj (zad (d := WD (row::rest)) rfl zai) zgI) zai) (ziV (by have := S.nt; unfold s0 at this; simp at this; omega))))).trans ?_
    refine (zae (zau (d := .lst []) (zee zai (by simp)))).trans ?_
    refine (zae h3).trans ?_
    exact zaw (zaE (d := .lst (l.map (zfz (row::rest)))) rfl)
theorem zlM : ∀ (more kvs : List (Nat × Nat)),zh9 (kvs.map fun p => (kI p.1,nD p.2)) (more.map fun p => (kI p.1,nD p.2)) = (more.foldl (fun acc p => putN acc p.1 p.2) kvs).map fun p => (kI p.1,nD p.2)
  | [],kvs => rfl
  | p::more,kvs => by
    have ih := zlM more (putN kvs p.1 p.2)
    rw [List.foldl_cons,← ih,← zoc]; rfl
theorem zjJ {t : Nat→Nat} : ∀ (more kvs : List (Nat × Nat)) (L : List Nat),GI t kvs L→(∀ p∈more,p.2 = t p.1)→GI t (more.foldl (fun acc p => putN acc p.1 p.2) kvs) (L++more.map (·.1))
  | [],kvs,L,g,_ => by simpa using g
  | p::more,kvs,L,g,h => by
    have := zjJ more (putN kvs p.1 p.2) (L++[p.1]) (by rw [h p List.mem_cons_self]; exact g.put p.1) fun q hq => h q (List.mem_cons_of_mem _ hq)
    rw [List.append_assoc] at this
    exact this
theorem zmC {a : Nat→Nat} {line : List Nat} (hl : line.length≤60) (od : D) : ∀ (l : List (List (List Nat) × Rg.S)) (L : List Nat) (kvs : List (Nat × Nat)) (z : Option D),GI a kvs L→(∀ h∈L,h∈line) →
    (∀ p∈l,∀ h∈p.1.flatten,a h = tS rows p.2 h∧h∈line) →
    ∃ kvs' z',GI a kvs' (L++l.flatMap fun p => p.1.flatten)∧forF (ftN 4) zfu (l.map (zfz rows)) [some (WD rows),some (OD owns),some od,some (KD kvs),z] = .nx [some (WD rows),some (OD owns),some od,some (KD kvs'),z']
  | [],L,kvs,z,g,_,_ => ⟨kvs,z,by simpa using g,za3⟩
  | p::l,L,kvs,z,g,hL,hp => by
    have h0 := hp p List.mem_cons_self
    obtain ⟨more,g1,hg⟩ := zlb (t := tS rows p.2) (rs := p.1) hl fun h hh => (h0 h hh).2
    have g2 := g1.congr (t' := a) fun x hx => (h0 x hx).1
    have g3 := (zjJ more kvs L g g2.val).mem (M := L++p.1.flatten) fun x => by rw [List.mem_append,List.mem_append,g2.key]
    obtain ⟨kvs',z',g',ih⟩ := zmC hl od l (L++p.1.flatten) _ (some (zfz rows p)) g3 (fun h hh => by
      rcases List.mem_append.mp hh with q | q
      · exact hL h q
      · exact (h0 h q).2) fun q hq => hp q (List.mem_cons_of_mem _ hq)
    refine ⟨kvs',z',by rw [List.append_assoc] at g'; simpa using g',?_⟩
    rw [← ih]
    refine zbI (r1 := [some (WD rows),some (OD owns),some od,some (KD kvs),some (zfz rows p)]) rfl (zae (zfn (d := KD kvs) (ds := [KD more]) rfl rfl (zad (zaj (zad (d := zfz rows p) rfl zai) hg) zai) ?_))
    have l1 := g.len hL
    have l2 := g1.len (line := line) fun h hh => (h0 h hh).2
    show (if _ then some (D.dic (zh9 _ _)) else none) = _
    rw [if_pos (by rw [List.length_map,List.length_map,sizeLine_eq]; omega),zlM]
theorem zpQ {a : Nat→Nat} {s : Rg.S} {l : List (List (List Nat) × Rg.S)} (c : Ch rows owns s l) : Rg.Ok (Wr rows) (own owns) s→Rg.TTC (Wr rows) (own owns) a s→(∀ p∈l,∀ h∈p.1.flatten,a h = tS rows p.2 h∧h∈s.line)∧∀ h∈s.line,∃ p∈l,h∈p.1.flatten := by
  induction c with
  | nil h0 => exact fun _ _ => ⟨fun _ hp => (nomatch hp),fun h hh => by rw [h0] at hh; cases hh⟩
  | @cons s rs l hp c ih =>
    intro k t
    have cy := zjC hp
    obtain ⟨t1,t2⟩ := Rg.zjk t k cy
    obtain ⟨i1,i2⟩ := ih (Rg.zjI k cy) t1
    refine ⟨fun p hp' h hh => ?_,fun h hh => ?_⟩
    · rcases List.mem_cons.mp hp' with rfl | q
      · exact ⟨t2 h hh,cy.sub h hh⟩
      · exact ⟨(i1 p q h hh).1,(List.mem_filter.mp (i1 p q h hh).2).1⟩
    · by_cases hc : h∈rs.flatten
      · exact ⟨(rs,s),List.mem_cons_self,hc⟩
      · obtain ⟨p,h1,h2⟩ := i2 h (List.mem_filter.mpr ⟨hh,by simpa using hc⟩)
        exact ⟨p,List.mem_cons_of_mem _ h1,h2⟩
theorem zhU {o : Option (List Nat)} {a : Nat→Nat} (ho : ∀ l,o = some l→l.Nodup∧(∀ k∈l,k < rows.length)∧l.length = rows.length) (hr : rows≠[]) (h8 : rows.length≤60) (S : Snd rows owns (s0 rows o))
    (hall : ∀ h,h < rows.length→h∈(s0 rows o).line) (t : Rg.TTC (Wr rows) (own owns) a (s0 rows o)) :
    zci [WD rows,OD owns,ordD o] = .ok (TN ((List.range rows.length).map a)) := by
  obtain ⟨l,hc,hl,hrun⟩ := zkk ho hr h8 S
  obtain ⟨c1,c2⟩ := zpQ hc S.ok t
  obtain ⟨kvs',z',g,hloop⟩ := zmC (rows := rows) (owns := owns) (a := a) S.nl (ordD o) l [] [] none ⟨by simp,fun _ hp => (nomatch hp),fun h => by simp⟩ (fun _ hh => (nomatch hh)) c1
  refine zaH (B := zdb) (n := 5) ?_
  unfold zdb
  refine (zae (r' := [some (WD rows),some (OD owns),some (ordD o),some (KD []),none]) rfl).trans ?_
  refine (zae ((za0 (ds := l.map (zfz rows)) (zeF (zaj (zad (d := WD rows) rfl (zad (d := OD owns) rfl (zad (d := ordD o) rfl zai))) hrun) rfl)).trans hloop)).trans ?_
  refine zaw (zaE (zaj (zad (d := KD kvs') rfl zai) (zeb g (n := rows.length) (fun x => ?_) h8)))
  rw [List.nil_append,List.mem_flatMap]
  constructor
  · rintro ⟨p,h1,h2⟩
    exact S.inr x (c1 p h1 x h2).2
  · intro hx
    obtain ⟨p,h1,h2⟩ := c2 x (hall x hx)
    exact ⟨p,h1,h2⟩
end
end Law
end
section
namespace Law
open PySem L2 DL
theorem zlL {a b : Nat} (h : 0 < b) : modI (nD a) (nD b) = some (nD (a % b)) := by
  rw [zhl (by omega : (0 : Int) < (b : Int))]
  show some (D.int _) = some (D.int _)
  rw [Int.natCast_emod]
theorem zpL {a b : Nat} (h : 0 < b) (h2 : b < 1000) : zmf (nD a) (nD b) = some (nD (a / b)) := by
  rw [znH (⟨by omega,by omega⟩ : CDiv (a : Int) (b : Int))]
  show some (D.int _) = some (D.int _)
  rw [Int.natCast_ediv]
theorem ziA (a b : Nat) : addA (nD a) (nD b) = some (nD (a + b)) := by
  rw [addA_int]
  show some (D.int _) = some (D.int _)
  rw [Int.natCast_add]
section
variable {f f' : FE} {r : Rho}
theorem zkF {b : Int} (h : ∃ i : Int,f r = .ok (.int i)) (h' : f' r = .ok (.int b)) (hb : 0 < b) : ∃ c : Nat,f2 f f' modI r = .ok (nD c) := by
  obtain ⟨i,hi⟩ := h
  refine ⟨(i % b).toNat,zal hi h' ?_⟩
  rw [zhl hb]
  show some (D.int _) = some (D.int _)
  rw [Int.toNat_of_nonneg (Int.emod_nonneg _ (by omega))]
theorem exN (h : ∃ c : Nat,f r = .ok (nD c)) : ∃ i : Int,f r = .ok (.int i) := let ⟨c,e⟩ := h; ⟨c,e⟩
theorem zgh {b : Int} (h : ∃ i : Int,f r = .ok (.int i)) (h' : f' r = .ok (.int b)) (hb : -(2 ^ 64) < b∧b < 2 ^ 64) : ∃ i : Int,f2 f f' mulI r = .ok (.int i) := by
  obtain ⟨i,hi⟩ := h
  exact ⟨i * b,zal hi h' (zlG (.inr hb))⟩
theorem znI (h : ∃ i : Int,f r = .ok (.int i)) (h' : ∃ i : Int,f' r = .ok (.int i)) : ∃ i : Int,f2 f f' addA r = .ok (.int i) := by
  obtain ⟨i,hi⟩ := h
  obtain ⟨j,hj⟩ := h'
  exact ⟨i + j,zal hi hj rfl⟩
end
theorem zrV {m : List Md} {i : Nat} {f : FE} {s2 : FS} {r : Rho} (h : ∃ c : Nat,f r = .ok (nD c)) (k : ∀ c : Nat,∃ d : Nat,s2 (r.set i (some (nD c))) = .rt (nD d)) : ∃ d : Nat,seqF (setF m i f) s2 r = .rt (nD d) := by
  obtain ⟨c,hc⟩ := h
  obtain ⟨d,hd⟩ := k c
  exact ⟨d,(zae (zau hc)).trans hd⟩
noncomputable abbrev IN (ns : List Int) : D := .lst (ns.map .int)
theorem zhh (ns : List Int) (k : Nat) (hk : k≤1000) : ∃ c : Nat,zbg [IN ns,nD k] = .ok (nD c) := by
  suffices h : ∃ c : Nat,zcx (zao 4 [IN ns,nD k]) = .rt (nD c) by
    obtain ⟨c,hc⟩ := h
    exact ⟨c,zaH (B := zcx) (n := 4) hc⟩
  unfold zcx
  have st : seqF (setF q106 2 (ci 0)) = seqF (setF q106 2 (fun _ => Res.ok (nD 0))) := rfl
  rw [st]
  refine zrV ⟨0,rfl⟩ fun c1 => ?_
  show ∃ d : Nat,seqF _ _ [some (IN ns),some (nD k),some (nD c1),none] = _
  have key : ∃ c2 : Nat,(ifF q106 (zaL (f2 (gv 1) (fC (zac (gv 0) lNil) lenD) ltI)) (seqF (setF q106 2 (f2 (f2 (gv 0) (gv 1) ixA) (f2 (ci 10) (ci 60) powI) modI)) zak) zak) [some (IN ns),some (nD k),some (nD c1),none] = .nx [some (IN ns),some (nD k),some (nD c2),none] := by
    have t := zaG (zal (f := gv 1) (r := [some (IN ns),some (nD k),some (nD c1),none]) (a := nD k) rfl (za9 (zad (f := gv 0) (d := IN ns) rfl zai) (zcc _ _)) (znx k ns.length))
    by_cases hlt : k < ns.length
    · rw [decide_eq_true hlt] at t
      have hx : (ns.map D.int)[k]? = some (.int ns[k]) := by rw [List.getElem?_map,List.getElem?_eq_getElem hlt]; rfl
      have hp : powI (.int 10) (.int 60) = some (.int (10 ^ 60)) := by
        show zge CPow _ _ _ = _
        rw [intsC_int,if_pos (by unfold CPow; decide)]
        rfl
      obtain ⟨c2,h2⟩ := zkF (f := f2 (gv 0) (gv 1) ixA) (f' := f2 (ci 10) (ci 60) powI) (r := [some (IN ns),some (nD k),some (nD c1),none]) ⟨ns[k],zal (a := IN ns) (b := nD k) rfl rfl (zrE hx)⟩ (zal rfl rfl hp) (by decide)
      exact ⟨c2,(if_t t).trans ((zae (zau h2)).trans rfl)⟩
    · rw [decide_eq_false hlt] at t
      exact ⟨c1,(if_f t).trans rfl⟩
  obtain ⟨c2,h2⟩ := key
  rw [zae h2]
  have kq : ∃ b,(fAnd (zaL (f2 (fC (zac (gv 0) lNil) lenD) (ci 0) gtI)) (zaL (f2 (f2 (f2 (gv 0) (ci 0) ixA) (ci 2) modI) (ci 0) eqD))) [some (IN ns),some (nD k),some (nD c2),none] = .ok b := by
    have t := zaG (zal (f := fC (zac (gv 0) lNil) lenD) (f' := fun _ => Res.ok (D.int 0)) (r := [some (IN ns),some (nD k),some (nD c2),none]) (b := nD 0) (za9 (zad (d := IN ns) rfl zai) (zcc _ _)) rfl (zl7 ns.length 0))
    cases ns with
    | nil => exact ⟨false,zsa t⟩
    | cons a ns =>
      rw [decide_eq_true (by simp)] at t
      obtain ⟨c3,h3⟩ := zkF (f := f2 (gv 0) (ci 0) ixA) (f' := fun _ => Res.ok (D.int 2)) (r := [some (IN (a::ns)),some (nD k),some (nD c2),none]) ⟨a,zal (a := IN (a::ns)) (b := .int 0) rfl rfl (ixA_L0 _ _)⟩ rfl (by decide)
      exact ⟨_,(zpV t).trans (zaG (zal h3 (b := nD 0) rfl (zmi c3 0)))⟩
  obtain ⟨b,hb⟩ := kq
  cases b with
  | true => exact ⟨c2,zaw ((if_t hb).trans (zaw (zaE (d := nD c2) rfl)))⟩
  | false =>
    rw [zae ((if_f (s2 := zak) hb).trans (e_skip _))]
    refine zrV (zkF (zgh (exN (zkF (zgh (znI (znI (znI ⟨(c2 : Int),rfl⟩ (zgh (b := (k : Int)) (zgh (b := (k : Int)) ⟨7,rfl⟩ rfl (by omega)) rfl (by omega))) (zgh (b := (k : Int)) ⟨13,rfl⟩ rfl (by omega))) ⟨5,rfl⟩) rfl (by decide)) rfl (by decide))) rfl (by decide)) rfl (by decide)) fun c3 => ?_
    obtain ⟨c4,h4⟩ := zkF (f := (f2 (f2 (f2 (f2 (gv 3) (ci 1) addA) (ci 40692) mulI) (ci 2147483629) modI) (ci 39373) mulI)) (f' := fun _ => Res.ok (D.int 999999937)) (r := [some (IN ns),some (nD k),some (nD c2),some (nD c3)]) (zgh (exN (zkF (zgh (znI ⟨(c3 : Int),rfl⟩ ⟨1,rfl⟩) rfl (by decide)) rfl (by decide))) rfl (by decide)) rfl (by decide)
    exact ⟨c4,zaw (zaE h4)⟩
theorem znD {row : List Nat} {i : Int} {x : Nat} : insL (row.map nD) i (nD x) = (insL row i x).map nD := by
  unfold insL
  rw [List.length_map,List.map_append,List.map_cons,List.map_take,List.map_drop]
theorem zl2 {row : List Nat} {i : Int} {x : Nat} : (insL row i x).Perm (x::row) := by
  unfold insL
  refine List.perm_middle.trans ?_
  rw [List.take_append_drop]
theorem zjx (m : Nat) : ∀ (j i c : Nat) (row : List Nat) (x : Option D),row.Perm (List.range i)→i + j≤60 →
    ∃ (c' : Nat) (row' : List Nat) (x' : Option D),row'.Perm (List.range (i + j))∧forF (ftN 3) zfw ((List.range' i j).map nD) [some (nD c),some (nD m),some (LN row),x] = .nx [some (nD c'),some (nD m),some (LN row'),x']
  | 0,i,c,row,x,hp,_ => ⟨c,row,x,hp,za3⟩
  | j + 1,i,c,row,x,hp,hl => by
    have hlen : row.length = i := by rw [hp.length_eq]; simp
    obtain ⟨c',row',x',h1,h2⟩ := zjx m j (i + 1) (c / (i + 1)) (insL row ((c % (i + 1) : Nat) : Int) i) (some (nD i)) (by
      refine zl2.trans ?_
      rw [List.range_succ]
      exact (List.Perm.cons i hp).trans (List.perm_append_singleton i _).symm) (by omega)
    refine ⟨c',row',x',by rw [show i + (j + 1) = i + 1 + j by omega]; exact h1,?_⟩
    rw [← h2]
    have hmod : c % (i + 1) < i + 1 := Nat.mod_lt _ (by omega)
    refine zbI (r1 := [some (nD c),some (nD m),some (LN row),some (nD i)]) rfl ?_
    refine (zae (zfn (d := LN row) (ds := [nD (c % (i + 1)),nD i]) (d' := LN (insL row ((c % (i + 1) : Nat) : Int) i)) rfl rfl (zad (zal (a := nD c) (b := nD (i + 1)) rfl (zal (a := nD i) (b := nD 1) rfl rfl (ziA i 1)) (zlL (by omega))) (zad (d := nD i) rfl zai)) ?_)).trans ?_
    · show (if _ then some (D.lst (insL _ _ _)) else none) = _
      rw [if_pos ⟨by rw [List.length_map,sizeLine_eq]; omega,by omega,by omega⟩,znD]
    · exact zae (zau (d := nD (c / (i + 1))) (zal (a := nD c) (b := nD (i + 1)) rfl (zal (a := nD i) (b := nD 1) rfl rfl (ziA i 1)) (zpL (by omega) (by omega))))
theorem zoT (c m : Nat) (hm : m≤60) : ∃ row : List Nat,row.Perm (List.range m)∧zcj [nD c,nD m] = .ok (TN row) := by
  obtain ⟨c',row',x',h1,h2⟩ := zjx m m 0 c [] none (by simp) (by omega)
  rw [Nat.zero_add] at h1
  rw [← List.range_eq_range'] at h2
  refine ⟨row',h1,zaH (B := zd2) (n := 4) ?_⟩
  unfold zd2
  refine (zae (zau (d := LN []) (zee zai (by simp)))).trans ?_
  refine (zae ((za0 (ds := (List.range m).map nD) (zdj (zad (d := nD m) rfl zai) (zeJ (by omega)))).trans h2)).trans ?_
  exact zaw (zaE (za9 (zad (d := LN row') rfl zai) rfl))
end Law
end
section
namespace Law
open PySem PyProof.Rows L2 DL
theorem zrX (a b : Nat) : eqs (nD a) (nD b) = decide (a = b) := by
  show (((a : Nat) : Int) == (b : Int)) = _
  rw [Bool.eq_iff_iff,beq_iff_eq,decide_eq_true_iff]; exact Int.ofNat_inj
theorem zmd (k : Nat) : ∀ l : List Nat,k∈l→zig (nD k) (l.map nD) = some (l.idxOf k)
  | [],h => by cases h
  | a::l,h => by
    show (if eqs (nD a) (nD k) = true then some 0 else (zig (nD k) (l.map nD)).map (· + 1)) = _
    rw [zrX]
    by_cases e : a = k
    · rw [if_pos (by simpa using e)]; subst e; simp
    · rw [if_neg (by simpa using e),zmd k l ((List.mem_cons.mp h).resolve_left fun z => e z.symm)]
      have hf : (a == k) = false := by simpa using e
      rw [List.idxOf_cons,hf]; rfl
theorem zmh (k : Nat) : ∀ l : List Nat,(l.map nD).eraseIdx (l.idxOf k) = (l.erase k).map nD
  | [] => rfl
  | a::l => by
    by_cases e : a = k
    · subst e; simp
    · rw [List.idxOf_cons,List.erase_cons_tail (by simpa using e)]
      have : (a == k) = false := by simpa using e
      rw [this]
      show nD a::(l.map nD).eraseIdx (l.idxOf k) = _
      rw [zmh k l]; rfl
theorem zqG {k : Nat} {l : List Nat} (h : k∈l) : remD (LN l) [nD k] = some (LN (l.erase k)) := by
  show (if (l.map nD).all isInt = true then (zig (nD k) (l.map nD)).map fun j => D.lst ((l.map nD).eraseIdx j) else none) = _
  rw [if_pos (by rw [List.all_eq_true]; intro x hx; obtain ⟨y,_,rfl⟩ := List.mem_map.mp hx; rfl),zmd k l h]
  show some (D.lst _) = some (D.lst _)
  rw [zmh]
theorem zs2 {T : String} {fo : FE} {fl : Rho→Res (List D)} {k : D→List D→Option D} {r : Rho} {d d' : D} {ds : List D} (h1 : fo r = .ok d) (ht : tyM T d = true) (h2 : fl r = .ok ds) (h3 : k d ds = some d') : fM T fo fl k r = .ok d' := by
  unfold fM; rw [h1,bind_ok,if_pos ht,h2,bind_ok,h3]; rfl
section
variable {a : Nat → Nat} {n : Nat}
end
end Law
end
section
namespace Law
open PySem PyProof.Rows L2 DL
theorem zoO {l : List Nat} {i : Nat} (h : i≤l.length) : slD (LN l) (some (i : Int)) none = some (LN (l.drop i)) := by
  show some (D.lst (cutL (l.map nD) (some (i : Int)) none)) = _
  unfold cutL
  rw [HT.sIx_nat,HT.sIx_none,List.length_map,Nat.min_eq_left h]
  rw [List.take_of_length_le (by simp)]
  show some (D.lst _) = some (D.lst ((l.drop i).map nD))
  rw [List.map_drop]
theorem zeo {f : FE} {r : Rho} {i : Int} (h : f r = .ok (.int i)) : zd5 f r = .ok (some i) := by unfold zd5; rw [h]; rfl
theorem zqj {fa : FE} {fl fh : FP} {r : Rho} {d d' : D} {lo hi : Option Int} (h1 : fa r = .ok d) (h2 : fl r = .ok lo) (h3 : fh r = .ok hi) (h4 : slD d lo hi = some d') : fSl fa fl fh r = .ok d' := by
  unfold fSl; rw [h1,bind_ok,h2,bind_ok,h3,bind_ok,h4]; rfl
theorem zqn {ds : List D} {i : Nat} {v : D} (h : i < ds.length) : stoD (.lst ds) (nD i) v = some (.lst (ds.set i v)) := by
  show (ixN ds.length (i : Int)).map _ = _
  unfold ixN
  rw [if_pos (Int.natCast_nonneg i),if_pos (by omega)]
  simp
theorem zdk {nl : Nat} {cap : List Nat} {fi : FI} {ft : FT} {fe : FE} {r : Rho} {α : Type} {l : List α} (e : α→D) (g : α→D) (h1 : fi r = .ok (l.map e)) (hl : l.length≤1000)
    (h : ∀ a∈l,∃ r1,ft (e a) (capR nl cap r) = some r1∧fe r1 = .ok (g a)) : zcV nl cap fi ft (fun _ => Res.ok true) fe r = .ok (.lst (l.map g)) := by
  have := zes (q := fun _ => Res.ok true) e (fun _ => true) g h1 hl fun a ha => by
    obtain ⟨r1,q1,q2⟩ := h a ha
    exact ⟨r1,q1,rfl,fun _ => q2⟩
  rw [this,zgg]
end Law
end
section
set_option exponentiation.threshold 3000
namespace Law
open PySem PyProof.Rows L2 DL Fq
noncomputable abbrev FR (x : Int × Nat) : D := .tup [.int x.1,nD x.2]
noncomputable abbrev LF (l : List (Int × Nat)) : D := .lst (l.map FR)
noncomputable abbrev TF (l : List (Int × Nat)) : D := .tup (l.map FR)
theorem zpT : BIG = 2 ^ 2000 := rfl
theorem zlN {a k : Nat} (h : a < 2 ^ k) (hk : k≤2000) : a < BIG := by
  rw [zpT]; exact Nat.lt_of_lt_of_le h (Nat.pow_le_pow_right (by omega) hk)
theorem ziS {a b : Int} {k l : Nat} (h1 : a.natAbs < 2 ^ k) (h2 : b.natAbs < 2 ^ l) (hk : k≤2000) (hl : l≤2000) : mulW (.int a) (.int b) = some (.int (a * b)) := by
  rw [mulW,intsC_int,if_pos ⟨zlN h1 hk,zlN h2 hl⟩]
theorem zfH {a : Int} {b k : Nat} (h0 : 0 < b) (h1 : b < 2 ^ k) (hk : k≤2000) : zi3 (.int a) (nD b) = some (.int (a / (b : Int))) := by
  rw [zi3,intsC_int,if_pos ⟨by omega,by rw [Int.natAbs_natCast]; exact zlN h1 hk⟩]
theorem zrp (b : Nat) : neD (nD b) (.int 0) = some (.bl (! decide (b = 0))) := znu b 0
theorem znF {m : List Md} : ∀ (k n : Nat) (a : Int) (b : Nat) (x : Option D),b < 2 ^ k→2 * k + 1≤n →
    ∃ (a' : Int) (y : Option D),zbo m zbc zbd n [some (.int a),some (nD b),x] = .nx [some (.int a'),some (nD 0),y]∧a'.natAbs = Int.gcd a b := by
  have z0 : ∀ (n : Nat) (a : Int) (x : Option D),1≤n→∃ (a' : Int) (y : Option D),zbo m zbc zbd n [some (.int a),some (nD 0),x] = .nx [some (.int a'),some (nD 0),y]∧a'.natAbs = Int.gcd a 0 := by
    intro n a x hn
    obtain ⟨n,rfl⟩ : ∃ k,n = k + 1 := ⟨n - 1,by omega⟩
    exact ⟨a,x,ziF (zaG (zal (a := nD 0) (b := .int 0) rfl rfl (zrp 0))),by simp⟩
  have st : ∀ (n : Nat) (a : Int) (b : Nat) (x : Option D),0 < b→zbo m zbc zbd (n + 1) [some (.int a),some (nD b),x] = zbo m zbc zbd n [some (nD b),some (nD (a % (b : Int)).toNat),some (nD (a % (b : Int)).toNat)] := by
    intro n a b x hb
    have hne := zrp b
    rw [decide_eq_false (by omega)] at hne
    refine ziE (zaG (zal (a := nD b) (b := .int 0) rfl rfl hne)) ?_
    refine (zae (zau (d := nD (a % (b : Int)).toNat) (zal (a := .int a) (b := nD b) rfl rfl ?_))).trans ?_
    · rw [zhl (by omega)]
      show some (D.int _) = some (D.int _)
      rw [Int.toNat_of_nonneg (Int.emod_nonneg _ (by omega))]
    refine (zae (zau (d := nD b) rfl)).trans ?_
    exact zae (zau (d := nD (a % (b : Int)).toNat) rfl)
  have hr : ∀ (a : Int) (b : Nat),0 < b→(((a % (b : Int)).toNat : Nat) : Int) = a % (b : Int)∧(a % (b : Int)).toNat < b := by
    intro a b hb
    have h1 := Int.emod_nonneg a (show (b : Int)≠0 by omega)
    have h2 := Int.emod_lt_of_pos a (show (0 : Int) < b by omega)
    exact ⟨Int.toNat_of_nonneg h1,by omega⟩
  intro k
  induction k with
  | zero =>
    intro n a b x hb hn
    have : b = 0 := by
      have : (2 : Nat) ^ 0 = 1 := rfl
      omega
    subst this
    exact z0 n a x (by omega)
  | succ k ih =>
    intro n a b x hb hn
    by_cases h0 : b = 0
    · subst h0; exact z0 n a x (by omega)
    · have hbp : 0 < b := by omega
      obtain ⟨n,rfl⟩ : ∃ j,n = j + 2 := ⟨n - 2,by omega⟩
      obtain ⟨r1,r2⟩ := hr a b hbp
      have e1 := st (n + 1) a b x hbp
      generalize (a % (b : Int)).toNat = r at r1 r2 e1
      rw [e1,zjU a b,← r1]
      by_cases hz : r = 0
      · subst hz
        exact z0 (n + 1) b _ (by omega)
      · obtain ⟨s1,s2⟩ := hr (b : Int) r (by omega)
        have e2 := st n (b : Int) r (some (nD r)) (by omega)
        have hs : ((b : Int) % (r : Int)).toNat = b % r := by omega
        rw [hs] at s1 s2 e2
        rw [e2,zjU (b : Int) r,← s1]
        refine ih n (r : Int) (b % r) _ ?_ (by omega)
        have h3 : b % r < r := Nat.mod_lt _ (by omega)
        have h4 : b % r≤b - r := by
          have := Nat.mod_eq_sub_mod (show r≤b by omega)
          rw [this]; exact Nat.mod_le _ _
        rw [Nat.pow_succ] at hb
        omega
theorem zeZ {a : Int} {b k : Nat} (hb : b < 2 ^ k) (hk : k≤499) : zbi [.int a,nD b] = .ok (nD (Int.gcd a b)) := by
  obtain ⟨a',y,h1,h2⟩ := znF (m := q101) k 1000 a b none hb (by omega)
  refine zaH (B := zch) (n := 3) ?_
  unfold zch
  refine (zae h1).trans (zaw (zaE (za9 (zad (d := .int a') rfl zai) ?_)))
  show some (D.int (if a' < 0 then -a' else a')) = some (D.int _)
  rw [← h2]
  split <;> congr 2 <;> omega
theorem zoU {t : Int} {b k : Nat} (h0 : 0 < b) (hb : b < 2 ^ k) (hk : k≤499) : zdX [.int t,nD b] = .ok (FR (low t b)) := by
  refine zaH (B := zd3) (n := 3) ?_
  unfold zd3
  have hg := zhp t h0
  have hgb : Int.gcd t b < 2 ^ k := by
    have h1 : Int.gcd t b ∣ b := Int.natCast_dvd_natCast.mp (Int.gcd_dvd_right t b)
    have := Nat.le_of_dvd h0 h1
    omega
  refine (zae (zau (zaj (zad (d := .int t) rfl (zad (d := nD b) rfl zai)) (zeZ hb hk)))).trans ?_
  refine zaw (zaE (zgN (zad (zal (a := .int t) (b := nD (Int.gcd t b)) rfl rfl (zfH hg hgb (by omega))) (zad (zal (a := nD b) (b := nD (Int.gcd t b)) rfl rfl (zfH hg hgb (by omega))) zai)) (by simp)))
theorem zjR (x : Int × Nat) : ixA (FR x) (.int 0) = some (.int x.1) := rfl
theorem zjQ (x : Int × Nat) : ixA (FR x) (.int 1) = some (nD x.2) := zie (i := 1) rfl
section
variable {k l : Nat} {a b : Int × Nat}
theorem zk9 (ha : Bd k a) (hb : Bd l b) (hl : k + l≤498) : zdt [FR a,FR b] = .ok (FR (zlo a b)) := by
  refine zaH (B := zdz) (n := 2) ?_
  unfold zdz
  have i0 := zjR a
  have i1 := zjQ a
  have j0 := zjR b
  have j1 := zjQ b
  refine zaw (zaE (zaj (zad (zal (zal (zal (a := FR a) rfl rfl i0) (zal (a := FR b) rfl rfl j1) (ziS ha.top (by rw [Int.natAbs_natCast]; exact hb.bot) (by omega) (by omega))) (zal (zal (a := FR b) rfl rfl j0) (zal (a := FR a) rfl rfl i1) (ziS hb.top (by rw [Int.natAbs_natCast]; exact ha.bot) (by omega) (by omega))) rfl)
    (zad (d := nD (a.2 * b.2)) (zal (zal (a := FR a) rfl rfl i1) (zal (a := FR b) rfl rfl j1) ?_) zai)) ?_))
  · rw [ziS (k := k) (l := l) (by rw [Int.natAbs_natCast]; exact ha.bot) (by rw [Int.natAbs_natCast]; exact hb.bot) (by omega) (by omega)]
    show some (D.int _) = some (D.int _)
    rw [Int.natCast_mul]
  · exact zoU (zhj ha hb).1 (zhj ha hb).2 (by omega)
theorem zm3 (ha : Bd k a) (hc : Int.gcd a.1 (a.2 : Nat) = 1) (hk : k≤499) : za6 [FR a] = .ok (.bl true) := by
  refine zaH (B := za8) (n := 2) ?_
  unfold za8
  refine (zae ((if_f ?_).trans (e_skip _))).trans ?_
  · rw [or_f (zc0 (b := true) (zbl (zkE (a := FR a) (d := .bl true) rfl rfl) rfl))]
    exact zaG (zal (a := nD 2) (b := nD 2) (za9 (zad (d := FR a) rfl zai) rfl) rfl (znu 2 2))
  have stp : ∀ (i : Int),zb8 [some (FR a),some (.int i)] = .nx [some (FR a),some (.int i)] := by
    intro i
    refine zae ((if_f ?_).trans (e_skip _))
    rw [or_f (zc0 (b := true) (zbl (zkE (a := .int i) (d := .bl true) rfl rfl) rfl))]
    exact zbl (zkE (a := .int i) (d := .bl false) rfl rfl) rfl
  refine (zae ((za0 (zeF (d := FR a) rfl rfl)).trans ((zbI (r1 := [some (FR a),some (.int a.1)]) rfl (stp a.1)).trans ((zbI (r1 := [some (FR a),some (nD a.2)]) rfl (stp a.2)).trans za3)))).trans ?_
  have hp := ha.pos
  have hg := zl7 a.2 0
  rw [decide_eq_true hp] at hg
  refine zaw (zaE ?_)
  rw [zjh (zal (zal (a := FR a) rfl rfl (zjQ a)) (b := nD 0) rfl hg)]
  refine zal (a := nD 1) (b := nD 1) (zaj (zad (zal (a := FR a) rfl rfl (zjR a)) (zad (zal (a := FR a) rfl rfl (zjQ a)) zai)) ?_) rfl (zfI 1)
  have := zeZ (a := a.1) ha.bot hk
  rw [hc] at this
  exact this
end
theorem zjW : ∀ l : List (Int × Nat),PyData.eqvAll (zdD (l.map FR)) (zdD (l.map FR)) = true
  | [] => by simp [zdD,PyData.eqvAll]
  | x::l => by
    have ih := zjW l
    simp only [List.map_cons,zdD,toPy,PyData.eqvAll,PyData.eqv,ih]
    simp
theorem zss {l : List (Int × Nat)} {k : Nat} : ∀ d∈l.map FR,Shp (k + 1) d := by
  intro d hd
  obtain ⟨x,_,rfl⟩ := List.mem_map.mp hd
  refine zeY.mpr ?_
  intro e he
  simp at he
  rcases he with rfl | rfl <;> (cases k <;> trivial)
noncomputable def shOf (l : List (Int × Nat)) (x : Nat) : Int × Nat := (l[x]?).getD (0,1)
theorem zst {l : List (Int × Nat)} {x : Nat} (h : x < l.length) : ixA (TF l) (nD x) = some (FR (shOf l x)) := by
  refine zie ?_
  rw [List.getElem?_map,List.getElem?_eq_getElem h]
  unfold shOf
  rw [List.getElem?_eq_getElem h]; rfl
theorem bd01 : Bd 1 ((0 : Int),1) := ⟨by decide,by decide,by decide⟩
theorem zr6 {α : Type} (p : α→Bool) : ∀ l : List α,zhw (l.map fun x => D.bl (p x)) = some (l.map p)
  | [] => rfl
  | x::l => by
    show (zhw (l.map fun x => D.bl (p x))).map _ = _
    rw [zr6 p l]; rfl
theorem ztb {α : Type} (p : α→Bool) (l : List α) : allD [.lst (l.map fun x => D.bl (p x))] = some (.bl (l.all p)) := by
  show (zhw (l.map fun x => D.bl (p x))).map _ = _
  rw [zr6]
  show some (D.bl ((l.map p).all id)) = _
  rw [List.all_map]; rfl
theorem zhO (i : Int) : zbD [.int i] = .ok (.bl true) := rfl
theorem zqB {a : Int} {b k : Nat} (hb : b < 2 ^ k) (hk : k≤499) : za5 [.int a,nD b] = .ok (nD (Int.gcd a b)) := zeZ hb hk
theorem zhT {t : Int} {b k : Nat} (h0 : 0 < b) (hb : b < 2 ^ k) (hk : k≤499) : zdW [.int t,nD b] = .ok (FR (low t b)) := by
  refine zaH (B := zd0) (n := 3) ?_
  unfold zd0
  have hg := zhp t h0
  have hgb : Int.gcd t b < 2 ^ k := by
    have h1 : Int.gcd t b ∣ b := Int.natCast_dvd_natCast.mp (Int.gcd_dvd_right t b)
    have := Nat.le_of_dvd h0 h1
    omega
  refine (zae ((if_f ?_).trans (e_skip _))).trans ?_
  · rw [or_f (zc0 (b := true) (zbl (zaj (zad (d := .int t) rfl zai) (zhO t)) rfl)),or_f (zc0 (b := true) (zbl (zaj (zad (d := nD b) rfl zai) (zhO b)) rfl))]
    have := zmi b 0
    rw [decide_eq_false (by omega)] at this
    exact zaG (zal (a := nD b) (b := nD 0) rfl rfl this)
  refine (zae (zau (zaj (zad (d := .int t) rfl (zad (d := nD b) rfl zai)) (zqB hb hk)))).trans ?_
  refine (zae ((if_f ?_).trans (e_skip _))).trans ?_
  · have := znx b 0
    rw [decide_eq_false (by omega)] at this
    exact zaG (zal (a := nD b) (b := nD 0) rfl rfl this)
  refine zaw (zaE (zgN (zad (zal (a := .int t) (b := nD (Int.gcd t b)) rfl rfl (zfH hg hgb (by omega))) (zad (zal (a := nD b) (b := nD (Int.gcd t b)) rfl rfl (zfH hg hgb (by omega))) zai)) (by simp)))
end Law
end
section
namespace Law
open PySem PyProof.Rows L2 DL
structure Rws (rows : List (List Nat)) (n m : Nat) : Prop where
  n1 : 1≤n
  n7 : n≤7
  nm : n≤m
  m8 : m≤8
  rl : rows.length = n
  rp : ∀ row∈rows,row.Perm (List.range m)
section
variable {rows : List (List Nat)} {n m : Nat}
theorem Rws.row (R : Rws rows n m) {h : Nat} (hh : h < n) : (Wr rows h).Perm (List.range m) := by
  unfold Wr
  rw [List.getElem?_eq_getElem (by rw [R.rl]; exact hh)]
  exact R.rp _ (List.getElem_mem _)
theorem Rws.has (R : Rws rows n m) {h x : Nat} (hh : h < n) (hx : x < m) : x∈Wr rows h := (R.row hh).mem_iff.mpr (List.mem_range.mpr hx)
theorem Rws.one (R : Rws rows n m) {h : Nat} {T : List Nat} (hh : h < n) (hT : 0 < T.length) (hm : ∀ x∈T,x < m) : ∃ x∈Wr rows h,x∈T :=
  ⟨T[0],R.has hh (hm _ (List.getElem_mem _)),List.getElem_mem _⟩
theorem Rws.best (R : Rws rows n m) {h : Nat} {T : List Nat} (hh : h < n) (hT : 0 < T.length) (hm : ∀ x∈T,x < m) : zbf [TN (Wr rows h),LN T] = .ok (nD (Rg.best (Wr rows h) T)) :=
  zjw (R.one hh hT hm) (by rw [(R.row hh).length_eq]; have := R.m8; simp; omega)
theorem Rws.inT (R : Rws rows n m) {h : Nat} {T : List Nat} (hh : h < n) (hT : 0 < T.length) (hm : ∀ x∈T,x < m) : Rg.best (Wr rows h) T∈T := Rg.zj3 (R.one hh hT hm)
theorem Rws.at0 (R : Rws rows n m) : ∃ r rest,rows = r::rest∧r.length = m := by
  cases e : rows with
  | nil => have := R.rl; have := R.n1; rw [e] at *; simp at *; omega
  | cons r rest => exact ⟨r,rest,rfl,by rw [(R.rp r (by rw [e]; exact List.mem_cons_self)).length_eq]; simp⟩
theorem Rws.things (R : Rws rows n m) : zaD [WD rows] = .ok (nD m) := by
  obtain ⟨r,rest,e,hl⟩ := R.at0
  rw [e,zgI,hl]
theorem Rws.len (R : Rws rows n m) : lenD [WD rows] = some (nD n) := by rw [zdi,R.rl]
theorem zmD (R : Rws rows n m) (d : Nat→Nat) (od : Option D) : ∀ (o L T : List Nat) (kvs : List (Nat × Nat)) (y : Option D),Rg.Ser (Wr rows) d o T→GI d kvs L→(∀ h∈L++o,h < n)→o.length≤T.length→(∀ x∈T,x < m) →
    ∃ kvs' T' y',GI d kvs' (L++o)∧forF (ftN 4) zfv (o.map nD) [some (WD rows),od,some (LN T),some (KD kvs),y] = .nx [some (WD rows),od,some (LN T'),some (KD kvs'),y']
  | [],L,T,kvs,y,_,g,_,_,_ => ⟨kvs,T,y,by rw [List.append_nil]; exact g,za3⟩
  | h::o,L,T,kvs,y,s,g,hL,hl,hT => by
    have hh : h < n := hL h (by simp)
    have hp : 0 < T.length := by simp at hl; omega
    have hb := R.best hh hp hT
    have hin := R.inT hh hp hT
    rw [s.1] at hb hin
    obtain ⟨kvs',T',y',g',ih⟩ := zmD R d od o (L++[h]) (T.erase (d h)) (putN kvs h (d h)) (some (nD h)) s.2 (g.put h) (by simpa using hL) (by rw [List.length_erase_of_mem hin]; simp at hl; omega) (fun x hx => hT x (List.mem_of_mem_erase hx))
    refine ⟨kvs',T',y',by simpa using g',?_⟩
    rw [← ih]
    have hk := g.len (line := List.range n) fun x hx => List.mem_range.mpr (hL x (List.mem_append_left _ hx))
    have hn7 := R.n7
    refine zbI (r1 := [some (WD rows),od,some (LN T),some (KD kvs),some (nD h)]) rfl ?_
    refine (zae (zgK (d := KD kvs) (k := nD h) (v := nD (d h)) rfl (zaj (zad (zal (a := WD rows) (b := nD h) rfl rfl (zie (zn9 (by rw [R.rl]; exact hh)))) (zad (d := LN T) rfl zai)) hb) rfl (zjn (by simp at hk; omega)))).trans ?_
    exact zae (zfn (d := LN T) (ds := [nD (d h)]) rfl rfl (zad (zal (a := KD (putN kvs h (d h))) (b := nD h) rfl rfl (zpE (zeN (g.put h).val (((g.put h).key h).mpr (by simp))))) zai) (zqG hin))
theorem zhV (R : Rws rows n m) {d : Nat→Nat} {o : List Nat} (hp : o.Perm (List.range n)) (s : Rg.Ser (Wr rows) d o (List.range m)) : zda [WD rows,LN o] = .ok (TN ((List.range n).map d)) := by
  have hn7 := R.n7
  have hm8 := R.m8
  have hnm := R.nm
  have hlt : ∀ h∈o,h < n := fun h hh => List.mem_range.mp (hp.mem_iff.mp hh)
  have hlen : o.length = n := by rw [hp.length_eq]; simp
  obtain ⟨kvs',T',y',g,hl⟩ := zmD R d (some (LN o)) o [] (List.range m) [] none s (GI.nil d) (by simpa using hlt) (by simp; omega) (fun x hx => List.mem_range.mp hx)
  refine zaH (B := zd1) (n := 5) ?_
  unfold zd1
  refine (zae (zau (d := LN (List.range m)) (za9 (zad (zaj (zad (d := WD rows) rfl zai) R.things) zai) (ziV (by omega))))).trans ?_
  refine (zae (r' := [some (WD rows),some (LN o),some (LN (List.range m)),some (KD []),none]) rfl).trans ?_
  refine (zae ((za0 (ds := o.map nD) (zeF (zaj (zad (d := WD rows) rfl (zad (d := LN o) rfl zai)) (zhP (hp.nodup_iff.mpr List.nodup_range) (by rw [R.rl]; exact hlt) (by rw [R.rl]; exact hlen) (by rw [R.rl]; omega))) rfl)).trans hl)).trans ?_
  exact zaw (zaE (zaj (zad (d := KD kvs') rfl zai) (zeb g (fun x => by rw [List.nil_append,hp.mem_iff]; exact List.mem_range) (by omega))))
end
end Law
end
section
namespace Law
open PySem PyProof.Rows L2 DL
theorem zqh {l : List Nat} {i : Nat} (h : i≤l.length) : slD (LN l) none (some (i : Int)) = some (LN (l.take i)) := by
  show some (D.lst (cutL (l.map nD) none (some (i : Int)))) = _
  unfold cutL
  rw [HT.sIx_nat,HT.sIx_none,List.length_map,Nat.min_eq_left h,List.drop_zero,Nat.sub_zero]
  show some (D.lst _) = some (D.lst ((l.take i).map nD))
  rw [List.map_take]
theorem zoC {a b : List Nat} (h : a.length + b.length≤2000) : addE (LN a) (LN b) = some (LN (a++b)) := by
  show (if (a.map nD).length + (b.map nD).length≤sizeLine then some (D.lst (a.map nD++b.map nD)) else none) = some (D.lst ((a++b).map nD))
  rw [if_pos (by rw [List.length_map,List.length_map,sizeLine_eq]; omega),List.map_append]
noncomputable def fc : Nat→Nat
  | 0 => 1
  | i + 1 => fc i * (i + 1)
theorem zkD {i : Nat} (h : i≤5) : fc i≤120 := by
  match i,h with
  | 0,_ => decide
  | 1,_ => decide
  | 2,_ => decide
  | 3,_ => decide
  | 4,_ => decide
  | 5,_ => decide
theorem zgS : ∀ i,0 < fc i
  | 0 => by decide
  | i + 1 => Nat.mul_pos (zgS i) (by omega)
theorem zko {i : Nat} {row : List Nat} (hp : row.Perm (List.range i)) (at' : Nat) : (row.take at'++[i]++row.drop at').Perm (List.range (i + 1)) := by
  have h1 : (row.take at'++[i]++row.drop at').Perm (i::row) := by
    rw [List.append_assoc,List.singleton_append]
    refine List.perm_middle.trans ?_
    rw [List.take_append_drop]
  refine h1.trans ?_
  rw [List.range_succ]
  exact (List.Perm.cons i hp).trans (List.perm_append_singleton i _).symm
theorem zmW {i : Nat} {r : List Nat} (h : r.Perm (List.range (i + 1))) : ∃ (row : List Nat) (a : Nat),row.Perm (List.range i)∧a≤i∧r = row.take a++[i]++row.drop a := by
  have hi : i∈r := h.mem_iff.mpr (List.mem_range.mpr (by omega))
  obtain ⟨A,B,rfl⟩ := List.append_of_mem hi
  refine ⟨A++B,A.length,?_,?_,?_⟩
  · have h1 : (i::(A++B)).Perm (i::List.range i) := by
      refine List.perm_middle.symm.trans (h.trans ?_)
      rw [List.range_succ]
      exact List.perm_append_singleton i _
    exact h1.cons_inv
  · have := h.length_eq
    simp at this; omega
  · rw [List.take_left,List.drop_left]; simp
noncomputable abbrev LL (l : List (List Nat)) : D := .lst (l.map LN)
theorem ao_0 (kd fnd : Option D) {i : Nat} {row : List Nat} (hp : row.Perm (List.range i)) (hi : i≤10) : ∀ (l : List Nat) (lg : List (List Nat)) (y : Option D),(∀ a∈l,a≤i)→lg.length + l.length≤200 →
    ∃ (lg' : List (List Nat)) (y' : Option D),lg'.length = lg.length + l.length∧(∀ r∈lg',r∈lg∨r.Perm (List.range (i + 1)))∧(∀ r∈lg,r∈lg')∧(∀ a∈l,row.take a++[i]++row.drop a∈lg') ∧
      forF (ftN 5) zej (l.map nD) [kd,fnd,some (nD i),some (LL lg),some (LN row),y] = .nx [kd,fnd,some (nD i),some (LL lg'),some (LN row),y']
  | [],lg,y,_,_ => ⟨lg,y,rfl,fun r hr => .inl hr,fun r hr => hr,fun _ h => (nomatch h),za3⟩
  | a::l,lg,y,ha,hl => by
    have hlen : row.length = i := by rw [hp.length_eq]; simp
    obtain ⟨lg',y',h1,h2,h4,h5,h3⟩ := ao_0 kd fnd hp hi l (lg++[row.take a++[i]++row.drop a]) (some (nD a)) (fun x hx => ha x (List.mem_cons_of_mem _ hx)) (by simp at hl ⊢; omega)
    refine ⟨lg',y',by rw [h1]; simp; omega,fun r hr => ?_,fun r hr => h4 r (List.mem_append_left _ hr),fun b hb => (List.mem_cons.mp hb).elim (fun e => by subst e; exact h4 _ (List.mem_append_right _ (List.mem_singleton.mpr rfl))) (h5 b),Eq.trans ?_ h3⟩
    · rcases h2 r hr with z | z
      · rcases List.mem_append.mp z with z | z
        · exact .inl z
        · rw [List.mem_singleton.mp z]; exact .inr (zko hp a)
      · exact .inr z
    · have ha' := ha a List.mem_cons_self
      refine zbI (r1 := [kd,fnd,some (nD i),some (LL lg),some (LN row),some (nD a)]) rfl ?_
      refine (zae (zfn (d := LL lg) (ds := [LN (row.take a++[i]++row.drop a)]) (d' := LL (lg++[row.take a++[i]++row.drop a])) rfl rfl (zad (zal (a := LN (row.take a++[i])) (b := LN (row.drop a)) (zal (a := LN (row.take a)) (b := LN [i]) (zqj (d := LN row) rfl rfl (zeo (i := (a : Int)) rfl) (zqh (by omega))) (zee (zad (d := nD i) rfl zai) (by simp)) (zoC (by simp; omega))) (zqj (d := LN row) rfl (zeo (i := (a : Int)) rfl) rfl (zoO (by omega))) (zoC (by simp; omega))) zai) ?_)).trans rfl
      rw [zgm (by simp at hl ⊢; omega)]
      show some (D.lst _) = some (D.lst _)
      rw [List.map_append]; rfl
theorem ao_1 (kd fnd : Option D) {i : Nat} (hi : i≤10) : ∀ (l : List (List Nat)) (lg : List (List Nat)) (x y : Option D),(∀ r∈l,r.Perm (List.range i))→(∀ r∈lg,r.Perm (List.range (i + 1)))→lg.length + l.length * (i + 1)≤200 →
    ∃ (lg' : List (List Nat)) (x' y' : Option D),lg'.length = lg.length + l.length * (i + 1)∧(∀ r∈lg',r.Perm (List.range (i + 1)))∧(∀ r∈lg,r∈lg')∧(∀ row∈l,∀ a,a≤i→row.take a++[i]++row.drop a∈lg') ∧
      forF (ftN 4) zei (l.map LN) [kd,fnd,some (nD i),some (LL lg),x,y] = .nx [kd,fnd,some (nD i),some (LL lg'),x',y']
  | [],lg,x,y,_,hg,_ => ⟨lg,x,y,by simp,hg,fun _ h => h,fun _ h => (nomatch h),za3⟩
  | row::l,lg,x,y,hp,hg,hl => by
    have hr := hp row List.mem_cons_self
    have hlen : row.length = i := by rw [hr.length_eq]; simp
    have hm : (row::l).length * (i + 1) = l.length * (i + 1) + (i + 1) := by rw [List.length_cons,Nat.succ_mul]
    obtain ⟨lg1,y1,h1,h2,h4,h5,h3⟩ := ao_0 kd fnd hr hi (List.range (i + 1)) lg y (fun a ha => by have := List.mem_range.mp ha; omega) (by simp; omega)
    rw [List.length_range] at h1
    obtain ⟨lg',x',y',i1,i2,i4,i5,i3⟩ := ao_1 kd fnd hi l lg1 (some (LN row)) y1 (fun r hr => hp r (List.mem_cons_of_mem _ hr)) (fun r hr => (h2 r hr).elim (hg r) id) (by omega)
    refine ⟨lg',x',y',by omega,i2,fun r hr => i4 r (h4 r hr),fun r hr b hb => (List.mem_cons.mp hr).elim (fun e => by subst e; exact i4 _ (h5 b (List.mem_range.mpr (by omega)))) fun h => i5 r h b hb,Eq.trans ?_ i3⟩
    refine zbI (r1 := [kd,fnd,some (nD i),some (LL lg),some (LN row),y]) rfl (zae ((za0 (ds := (List.range (i + 1)).map nD) (zdj (zad (zal (a := nD i) (b := nD 1) rfl rfl (ziA i 1)) zai) (zeJ (by omega)))).trans h3))
theorem ao_2 (kd : Option D) : ∀ (j i : Nat) (fnd : List (List Nat)) (x2 x3 x4 x5 : Option D),i + j≤5→fnd.length = fc i→(∀ r∈fnd,r.Perm (List.range i))→(∀ r : List Nat,r.Perm (List.range i)→r∈fnd) →
    ∃ (fnd' : List (List Nat)) (y2 y3 y4 y5 : Option D),fnd'.length = fc (i + j)∧(∀ r∈fnd',r.Perm (List.range (i + j)))∧(∀ r : List Nat,r.Perm (List.range (i + j))→r∈fnd') ∧
      forF (ftN 2) zeh ((List.range' i j).map nD) [kd,some (LL fnd),x2,x3,x4,x5] = .nx [kd,some (LL fnd'),y2,y3,y4,y5]
  | 0,i,fnd,x2,x3,x4,x5,_,hl,hp,hc => ⟨fnd,x2,x3,x4,x5,hl,hp,hc,za3⟩
  | j + 1,i,fnd,x2,x3,x4,x5,hj,hl,hp,hc => by
    have hb : fc (i + 1)≤120 := zkD (by omega)
    have hfc : fc (i + 1) = fc i * (i + 1) := rfl
    obtain ⟨lg,z4,z5,h1,h2,_,h5,h3⟩ := ao_1 kd (some (LL fnd)) (i := i) (by omega) fnd [] x4 x5 hp (fun r hr => (nomatch hr)) (by rw [hl,← hfc]; simp; omega)
    obtain ⟨fnd',y2,y3,y4,y5,i1,i2,i4,i3⟩ := ao_2 kd j (i + 1) lg (some (nD i)) (some (LL lg)) z4 z5 (by omega) (by rw [h1,hl,hfc]; simp) h2 (fun r hr => by
      obtain ⟨row,b,p1,p2,p3⟩ := zmW hr
      rw [p3]; exact h5 row (hc row p1) b p2)
    refine ⟨fnd',y2,y3,y4,y5,by rw [show i + (j + 1) = i + 1 + j by omega]; exact i1,by rw [show i + (j + 1) = i + 1 + j by omega]; exact i2,by rw [show i + (j + 1) = i + 1 + j by omega]; exact i4,Eq.trans ?_ i3⟩
    refine zbI (r1 := [kd,some (LL fnd),some (nD i),x3,x4,x5]) rfl ?_
    refine (zae (zau (d := LL []) (zee zai (by simp)))).trans ?_
    refine (zae ((za0 (ds := fnd.map LN) rfl).trans h3)).trans ?_
    exact zae (zau (d := LL lg) rfl)
theorem zoW {k : Nat} (hk : k≤5) : ∃ rs : List (List Nat),(∀ r : List Nat,r∈rs↔r.Perm (List.range k))∧rs.length = fc k∧zaW [nD k] = .ok (LL rs) := by
  obtain ⟨fnd,y2,y3,y4,y5,h1,h2,h4,h3⟩ := ao_2 (some (nD k)) k 0 [[]] none none none none (by omega) rfl (fun r hr => by rw [List.mem_singleton.mp hr]; simp) (fun r hr => by rw [List.perm_nil.mp (show r.Perm [] from hr)]; exact List.mem_singleton.mpr rfl)
  rw [Nat.zero_add] at h1 h2 h4
  rw [← List.range_eq_range'] at h3
  refine ⟨fnd,fun r => ⟨h2 r,h4 r⟩,h1,zaH (B := zcS) (n := 6) ?_⟩
  unfold zcS
  refine (zae (zau (d := LL [[]]) (zee (zad (zee zai (by simp)) zai) (by simp)))).trans ?_
  refine (zae ((za0 (ds := (List.range k).map nD) (zdj (zad (d := nD k) rfl zai) (zeJ (by omega)))).trans h3)).trans ?_
  exact zaw (zaE (d := LL fnd) rfl)
end Law
end
section
set_option exponentiation.threshold 3000
namespace Law
open PySem PyProof.Rows L2 DL Fq
theorem zpN (l : List Nat) (t : Nat) : zjZ (LN l) [nD t] = some (nD (l.count t)) := by
  show (if zb3 (nD t) = true∧(l.map nD).all zb3 = true then some (D.int (((l.map nD).countP fun z => eqs z (nD t) : Nat) : Int)) else none) = _
  rw [if_pos ⟨rfl,zpK l⟩,List.countP_map]
  show some (D.int ((l.countP ((fun z => eqs z (nD t)) ∘ nD) : Nat) : Int)) = some (D.int ((l.count t : Nat) : Int))
  have : (fun z => eqs z (nD t)) ∘ nD = fun z => z == t := by
    funext z
    show eqs (nD z) (nD t) = _
    rw [zrX]
    by_cases h : z = t <;> simp [h]
  rw [this]; rfl
noncomputable abbrev TTF (l : List (List (Int × Nat))) : D := .tup (l.map TF)
noncomputable abbrev LTF (l : List (List (Int × Nat))) : D := .lst (l.map TF)
noncomputable def col (dls : List (List Nat)) (i : Nat) : List Nat := dls.map fun dl => dl.getD i 0
noncomputable def shr (dls : List (List Nat)) (m h : Nat) : List (Int × Nat) := (List.range m).map fun t => low (((col dls h).count t : Nat) : Int) dls.length
theorem zkY {dls : List (List Nat)} {n m : Nat} (hN : 0 < dls.length) (hN2 : dls.length≤120) (hd : ∀ dl∈dls,dl.length = n) (hm : m≤60) : ∀ (j i : Nat) (tb : List (List (Int × Nat))) (x y : Option D),i + j≤n→n≤60→tb.length = i →
    ∃ x' y',forF (ftN 3) zeT ((List.range' i j).map nD) [some (.lst (dls.map TN)),some (nD m),some (LTF tb),x,y] = .nx [some (.lst (dls.map TN)),some (nD m),some (LTF (tb++(List.range' i j).map (shr dls m))),x',y']
  | 0,i,tb,x,y,_,_,_ => ⟨x,y,by rw [show (List.range' i 0).map (shr dls m) = [] from rfl,List.append_nil]; exact za3⟩
  | j + 1,i,tb,x,y,hij,hn,hl => by
    obtain ⟨x',y',ih⟩ := zkY hN hN2 hd hm j (i + 1) (tb++[shr dls m i]) (some (nD i)) (some (LN (col dls i))) (by omega) hn (by simp [hl])
    refine ⟨x',y',?_⟩
    rw [List.append_assoc,List.singleton_append] at ih
    rw [List.range'_succ,List.map_cons,List.map_cons,← ih]
    refine zbI (r1 := [some (.lst (dls.map TN)),some (nD m),some (LTF tb),some (nD i),y]) rfl ?_
    refine (zae (zau (d := LN (col dls i)) ?_)).trans ?_
    · have := zdk (nl := 1) (cap := [3]) (fi := fSeq zbn (gv 0)) (ft := ftN 0) (fe := f2 (gv 0) (gv 1) ixA) (r := [some (.lst (dls.map TN)),some (nD m),some (LTF tb),some (nD i),y]) (l := dls) TN (fun dl => nD (dl.getD i 0)) rfl (by omega) fun dl hdl => ⟨[some (TN dl),some (nD i)],rfl,zal (a := TN dl) (b := nD i) rfl rfl (zie ?_)⟩
      · rw [this]
        show Res.ok (D.lst _) = Res.ok (D.lst _)
        unfold col; rw [List.map_map]; rfl
      · have hi : i < dl.length := by rw [hd dl hdl]; omega
        rw [List.getElem?_map,List.getElem?_eq_getElem hi,List.getD_eq_getElem?_getD,List.getElem?_eq_getElem hi]; rfl
    have ef : LTF (tb++[shr dls m i]) = D.lst (tb.map TF++[TF (shr dls m i)]) := by
      show D.lst ((tb++[shr dls m i]).map TF) = _
      rw [List.map_append]; rfl
    rw [ef]
    refine zae (zfn (d := LTF tb) (ds := [TF (shr dls m i)]) rfl rfl (zad (za9 (zad (zdk (l := List.range m) nD (fun t => FR (low (((col dls i).count t : Nat) : Int) dls.length)) (zdj (zad (d := nD m) rfl zai) (zeJ (by omega))) (by simp; omega) fun t ht => ⟨[some (nD t),some (.lst (dls.map TN)),some (LN (col dls i))],rfl,?_⟩) zai) ?_) zai) (zgm (by rw [List.length_map]; omega)))
    · exact zaj (zad (zs2 (d := LN (col dls i)) rfl rfl (zad (d := nD t) rfl zai) (zpN (col dls i) t)) (zad (za9 (zad (d := .lst (dls.map TN)) rfl zai) (zcc _ _)) zai)) (zhT (t := (((col dls i).count t : Nat) : Int)) (k := 7) hN (by omega) (by omega))
    · rw [e_tupL]
      show some (D.tup _) = some (D.tup ((shr dls m i).map FR))
      unfold shr
      rw [List.map_map]; rfl
theorem zeI {dls : List (List Nat)} {n m : Nat} (hN : 0 < dls.length) (hN2 : dls.length≤120) (hd : ∀ dl∈dls,dl.length = n) (hm : m≤60) (hn : n≤60) : zbX [.lst (dls.map TN),nD m] = .ok (TTF ((List.range n).map (shr dls m))) := by
  obtain ⟨x',y',h⟩ := zkY hN hN2 hd hm n 0 [] none none (by omega) hn rfl
  rw [← List.range_eq_range',List.nil_append] at h
  refine zaH (B := zdv) (n := 5) ?_
  unfold zdv
  refine (zae (zau (d := LTF []) (zee zai (by simp)))).trans ?_
  cases hx : dls with
  | nil => rw [hx] at hN; simp at hN
  | cons d0 rest =>
    have h0 : d0.length = n := hd d0 (by rw [hx]; exact List.mem_cons_self)
    rw [← hx]
    refine (zae ((za0 (ds := (List.range n).map nD) (zdj (zad (za9 (zad (zal (a := .lst (dls.map TN)) (b := .int 0) (d := TN d0) rfl rfl (by rw [hx]; exact ixA_L0 _ _)) zai) (by rw [zdi,h0])) zai) (zeJ (by omega)))).trans h)).trans ?_
    exact zaw (zaE (za9 (zad (d := LTF ((List.range n).map (shr dls m))) rfl zai) rfl))
theorem zi5 {m : List Md} {f : FE} {r : Rho} {d : D} (h : f r = .ok d) : zkG m f r = .nx r := by unfold zkG; rw [h]; rfl
section
variable {rows : List (List Nat)} {n m : Nat}
noncomputable def zc6 (rows : List (List Nat)) (n m : Nat) (o : List Nat) : List Nat := (List.range n).map (Rg.serD (Wr rows) o (List.range m))
theorem zqD (R : Rws rows n m) {o : List Nat} (hp : o.Perm (List.range n)) : zda [WD rows,LN o] = .ok (TN (zc6 rows n m o)) :=
  zhV R hp (Rg.zhG o (List.range m) (hp.nodup_iff.mpr List.nodup_range))
theorem zgJ (R : Rws rows n m) (h5 : n≤5) : zap [WD rows] = .ok .non := by
  show outR false (zar (zao 1 [WD rows])) = _
  have : zar (zao 1 [WD rows]) = .nx [some (WD rows)] := by
    unfold zar
    have hg := zl7 n 5
    rw [decide_eq_false (by omega)] at hg
    exact zae ((if_f (zaG (zal (b := nD 5) (za9 (zad (d := WD rows) rfl zai) R.len) rfl hg))).trans (e_skip _))
  rw [this]; rfl
noncomputable def lotT (rs : List (List Nat)) (rows : List (List Nat)) (n m : Nat) : List (List (Int × Nat)) := (List.range n).map (shr (rs.map (zc6 rows n m)) m)
theorem zla (R : Rws rows n m) (h5 : n≤5) {rs : List (List Nat)} (h1 : ∀ r∈rs,r.Perm (List.range n)) (h2 : rs.length = fc n) (h3 : zaW [nD n] = .ok (LL rs)) : zmM [WD rows] = .ok (TTF (lotT rs rows n m)) := by
  have hfc := zkD h5
  have hfp := zgS n
  have hm8 := R.m8
  refine zaH (B := znY) (n := 2) ?_
  unfold znY
  refine (zae (zi5 (zaj (zad (d := WD rows) rfl zai) (zgJ R h5)))).trans ?_
  refine (zae (zau (zdk (l := rs) LN (fun o => TN (zc6 rows n m o)) (zeF (zaj (zad (za9 (zad (d := WD rows) rfl zai) R.len) zai) h3) rfl) (by omega) fun o ho => ⟨[some (LN o),some (WD rows)],rfl,zaj (zad (d := WD rows) rfl (zad (d := LN o) rfl zai)) (zqD R (h1 o ho))⟩))).trans ?_
  have e : rs.map (fun o => TN (zc6 rows n m o)) = (rs.map (zc6 rows n m)).map TN := by rw [List.map_map]; rfl
  rw [e]
  refine zaw (zaE (zaj (zad (d := .lst ((rs.map (zc6 rows n m)).map TN)) rfl (zad (zaj (zad (d := WD rows) rfl zai) R.things) zai)) (zeI (by rw [List.length_map]; omega) (by rw [List.length_map]; omega) (fun dl hdl => ?_) (by omega) (by omega))))
  obtain ⟨o,_,rfl⟩ := List.mem_map.mp hdl
  unfold zc6; simp
end
end Law
end
section
set_option exponentiation.threshold 3000
namespace Law
open PySem PyProof.Rows L2 DL Fq
theorem znN {α : Type} {l : List α} {i : Nat} (h : i≤l.length) : cutL l (some (i : Int)) none = l.drop i := by
  unfold cutL
  rw [HT.sIx_nat,HT.sIx_none,Nat.min_eq_left h]
  rw [List.take_of_length_le (by simp)]
theorem zr4 {α : Type} {l : List α} {i : Nat} (h : i≤l.length) : cutL l none (some (i : Int)) = l.take i := by
  unfold cutL
  rw [HT.sIx_nat,HT.sIx_none,Nat.min_eq_left h,List.drop_zero,Nat.sub_zero]
theorem zsd {a b : List D} (h : a.length + b.length≤1000) : addE (.tup a) (.tup b) = some (.tup (a++b)) := by
  cases a with
  | nil => rfl
  | cons x a =>
    show (if (x::a).length + b.length≤sizeLine then some (D.tup (x::a++b)) else none) = _
    rw [if_pos (by rw [sizeLine_eq]; omega)]
structure Tb (n m : Nat) (tb : List (List (Int × Nat))) : Prop where
  len : tb.length = n
  row : ∀ r∈tb,r.length = m∧∀ q∈r,Bd 7 q∧Int.gcd q.1 (q.2 : Nat) = 1
theorem zhR {n m : Nat} {tb : List (List (Int × Nat))} (T : Tb n m tb) (hm : m≤60) : zbO [TTF tb,nD n,nD m] = .ok (.bl true) := by
  refine zaH (B := zbQ) (n := 4) ?_
  unfold zbQ
  refine (zae ((if_f ?_).trans (e_skip _))).trans ?_
  · rw [or_f (zc0 (b := true) (zbl (zkE (a := TTF tb) (d := .bl true) rfl rfl) rfl))]
    have := znu n n
    rw [decide_eq_true rfl] at this
    exact zaG (zal (a := nD n) (b := nD n) (za9 (zad (d := TTF tb) rfl zai) (by rw [zdi,T.len])) rfl this)
  have lp : ∀ (l : List (List (Int × Nat))) (x : Option D),(∀ r∈l,r∈tb)→∃ y,forF (ftN 3) zc8 (l.map TF) [some (TTF tb),some (nD n),some (nD m),x] = .nx [some (TTF tb),some (nD n),some (nD m),y] := by
    intro l
    induction l with
    | nil => exact fun x _ => ⟨x,za3⟩
    | cons r l ih =>
      intro x hr
      obtain ⟨y,hy⟩ := ih (some (TF r)) fun z hz => hr z (List.mem_cons_of_mem _ hz)
      refine ⟨y,?_⟩
      obtain ⟨h1,h2⟩ := T.row r (hr r List.mem_cons_self)
      rw [List.map_cons,← hy]
      refine zbI (r1 := [some (TTF tb),some (nD n),some (nD m),some (TF r)]) rfl ?_
      refine zae ((if_f ?_).trans (e_skip _))
      rw [or_f (zc0 (b := true) (zbl (zkE (a := TF r) (d := .bl true) rfl rfl) rfl))]
      have hne := znu m m
      rw [decide_eq_true rfl] at hne
      rw [or_f (zaG (zal (a := nD m) (b := nD m) (za9 (zad (d := TF r) rfl zai) (by rw [zdi,h1])) rfl hne))]
      refine zc0 (b := true) (zbl (d := .bl true) (za9 (zad (zdk (l := r) FR (fun _ => .bl true) (zeF (d := TF r) rfl rfl) (by omega) fun q hq => ⟨[some (FR q)],rfl,?_⟩) zai) ?_) rfl)
      · exact zaj (zad (d := FR q) rfl zai) (zm3 (h2 q hq).1 (h2 q hq).2 (by omega))
      · have := ztb (fun _ : Int × Nat => true) r
        rw [List.all_eq_true.mpr (fun _ _ => rfl)] at this
        exact this
  obtain ⟨y,hy⟩ := lp tb none fun r hr => hr
  refine (zae ((za0 (zeF (d := TTF tb) rfl rfl)).trans hy)).trans ?_
  exact zaw (zaE (d := .bl true) rfl)
section
variable {rows : List (List Nat)} {n m : Nat} {rs : List (List Nat)}
theorem zmw (l : List Nat) (t : Nat) : l.count t≤l.length := List.count_le_length
theorem zi9 (dls : List (List Nat)) (h : Nat) : (col dls h).length = dls.length := by unfold col; simp
theorem zos (h5 : n≤5) (h2 : rs.length = fc n) : Tb n m (lotT rs rows n m) := by
  have hfc := zkD h5
  have hfp := zgS n
  refine ⟨by unfold lotT; simp,fun r hr => ?_⟩
  unfold lotT at hr
  obtain ⟨h,_,rfl⟩ := List.mem_map.mp hr
  refine ⟨by unfold shr; simp,fun q hq => ?_⟩
  unfold shr at hq
  obtain ⟨t,_,rfl⟩ := List.mem_map.mp hq
  have hN : 0 < (rs.map (zc6 rows n m)).length := by rw [List.length_map]; omega
  refine ⟨Bd.low hN (by rw [List.length_map]; omega) ?_,zlO _ hN⟩
  have := zmw (col (rs.map (zc6 rows n m)) h) t
  rw [zi9,List.length_map] at this
  rw [Int.natAbs_natCast]; omega
theorem zrs {h : Nat} (hh : h < n) : ixA (TTF (lotT rs rows n m)) (nD h) = some (TF (shr (rs.map (zc6 rows n m)) m h)) := by
  refine zie ?_
  unfold lotT
  rw [List.getElem?_map,List.getElem?_map,List.getElem?_range hh]; rfl
theorem zql {dls : List (List Nat)} {h t : Nat} (ht : t < m) : shOf (shr dls m h) t = low (((col dls h).count t : Nat) : Int) dls.length := by
  unfold shOf shr
  rw [List.getElem?_map,List.getElem?_range ht]; rfl
theorem znL {o : List Nat} {h : Nat} (hh : h < n) : (zc6 rows n m o).getD h 0 = Rg.serD (Wr rows) o (List.range m) h := by
  unfold zc6
  rw [List.getD_eq_getElem?_getD,List.getElem?_map,List.getElem?_range hh]; rfl
theorem zgj {h : Nat} (hh : h < n) (t : Nat) : (col (rs.map (zc6 rows n m)) h).count t = rs.countP fun o => decide (Rg.serD (Wr rows) o (List.range m) h = t) := by
  unfold col
  rw [List.map_map,List.count_eq_countP,List.countP_map]
  refine List.countP_congr fun o _ => ?_
  simp only [Function.comp_apply,znL hh]
  simp
end
end Law
end
section
set_option exponentiation.threshold 3000
namespace Law
open PySem PyProof.Rows L2 DL Fq
theorem zjE (w : List Nat) : own (w.map some) = fun k => w[k]? := by
  funext k
  unfold own
  rw [List.getElem?_map]
  cases w[k]? <;> rfl
theorem zpY (w : List Nat) : OD (w.map some) = TN w := by
  show D.tup _ = D.tup _
  rw [List.map_map]; rfl
section
variable {rows : List (List Nat)} {n : Nat}
theorem Rws.hW (R : Rws rows n n) : ∀ h,h < n→∀ x,x < n→x∈Wr rows h := fun h hh x hx => R.has hh hx
theorem Rws.s0 (R : Rws rows n n) : Law.s0 rows none = ⟨List.range n,List.range n⟩ := by
  obtain ⟨r,rest,e,hl⟩ := R.at0
  unfold Law.s0
  rw [R.rl,e]
  show Rg.S.mk (List.range n) (List.range r.length) = _
  rw [hl]
noncomputable def rw' (rows : List (List Nat)) (n : Nat) (w : List Nat) : Nat→Nat := Rg.deal (Wr rows) (fun k => w[k]?) (n + 1) ⟨List.range n,List.range n⟩
noncomputable def zed (rows : List (List Nat)) (n : Nat) (w : List Nat) : List Nat := (List.range n).map (rw' rows n w)
theorem zn8 (rows : List (List Nat)) (n : Nat) (w : List Nat) : Rg.TTC (Wr rows) (fun k => w[k]?) (rw' rows n w) ⟨List.range n,List.range n⟩ := Rg.zsi (n + 1) _ (by simp)
theorem zk7 (R : Rws rows n n) {w : List Nat} (hw : w.Perm (List.range n)) : zci [WD rows,TN w,.non] = .ok (TN (zed rows n w)) := by
  have hn7 := R.n7
  have hn1 := R.n1
  have hs := R.s0
  have ok := Rg.zoh (W := Wr rows) R.hW hw
  have lw : w.length = n := by rw [hw.length_eq]; simp
  have S : Snd rows (w.map some) (Law.s0 rows none) := by
    rw [hs]
    refine ⟨by rw [zjE]; exact ok,fun h hh => by rw [R.rl]; exact List.mem_range.mp hh,fun h hh => by rw [List.length_map,lw]; exact List.mem_range.mp hh,fun h hh => ?_,by simp; omega,by simp; omega⟩
    rw [(R.row (List.mem_range.mp hh)).length_eq]; simp; omega
  have := zhU (rows := rows) (owns := w.map some) (o := none) (a := rw' rows n w) (fun l e => (nomatch e)) (by
    intro e
    have := R.rl
    rw [e] at this; simp at this; omega) (by rw [R.rl]; omega) S (fun h hh => by rw [hs]; exact List.mem_range.mpr (by rw [← R.rl]; exact hh)) (by rw [hs,zjE]; exact zn8 rows n w)
  rw [zpY,R.rl] at this
  exact this
theorem zkj (R : Rws rows n n) : zaN [WD rows] = .ok .non := by
  have hq : zdr [WD rows] = .ok (.bl true) := by
    refine zaH (B := zdx) (n := 1) ?_
    unfold zdx
    exact zaw (zaE (zal (zaj (zad (d := WD rows) rfl zai) R.things) (za9 (zad (d := WD rows) rfl zai) R.len) (zfI n)))
  show outR false (zaC (zao 1 [WD rows])) = _
  have : zaC (zao 1 [WD rows]) = .nx [some (WD rows)] := by
    unfold zaC
    exact zae ((if_f (zc0 (b := true) (zbl (zaj (zad (d := WD rows) rfl zai) hq) rfl))).trans (e_skip _))
  rw [this]; rfl
noncomputable def ownT (rs : List (List Nat)) (rows : List (List Nat)) (n : Nat) : List (List (Int × Nat)) := (List.range n).map (shr (rs.map (zed rows n)) n)
theorem zfZ (R : Rws rows n n) (h5 : n≤5) {rs : List (List Nat)} (h1 : ∀ r∈rs,r.Perm (List.range n)) (h2 : rs.length = fc n) (h3 : zaW [nD n] = .ok (LL rs)) : za1 [WD rows] = .ok (TTF (ownT rs rows n)) := by
  have hfc := zkD h5
  have hfp := zgS n
  refine zaH (B := zbu) (n := 2) ?_
  unfold zbu
  refine (zae (zi5 (zaj (zad (d := WD rows) rfl zai) (zkj R)))).trans ?_
  refine (zae (zi5 (zaj (zad (d := WD rows) rfl zai) (zgJ R h5)))).trans ?_
  refine (zae (zau (zdk (l := rs) LN (fun w => TN (zed rows n w)) (zeF (zaj (zad (za9 (zad (d := WD rows) rfl zai) R.len) zai) h3) rfl) (by omega) fun w hw => ⟨[some (LN w),some (WD rows)],rfl,zaj (zad (d := WD rows) rfl (zad (za9 (zad (d := LN w) rfl zai) (e_tupL _)) zai)) (zk7 R (h1 w hw))⟩))).trans ?_
  have e : rs.map (fun w => TN (zed rows n w)) = (rs.map (zed rows n)).map TN := by rw [List.map_map]; rfl
  rw [e]
  refine zaw (zaE (zaj (zad (d := .lst ((rs.map (zed rows n)).map TN)) rfl (zad (zaj (zad (d := WD rows) rfl zai) R.things) zai)) (zeI (by rw [List.length_map]; omega) (by rw [List.length_map]; omega) (fun dl hdl => ?_) (by omega) (by omega))))
  obtain ⟨o,_,rfl⟩ := List.mem_map.mp hdl
  unfold zed; simp
theorem zmg : ∀ i,fc i = Rg.fcl i
  | 0 => rfl
  | i + 1 => by show fc i * (i + 1) = Rg.fcl i * (i + 1); rw [zmg i]
theorem zly (R : Rws rows n n) (h5 : n≤5) {rs : List (List Nat)} (h1 : ∀ r : List Nat,r∈rs↔r.Perm (List.range n)) (h2 : rs.length = fc n) : ownT rs rows n = lotT rs rows n n := by
  have hn := Rg.zsc h5 h1 (by rw [h2,zmg])
  unfold ownT lotT
  refine List.map_congr_left fun h hh => ?_
  unfold shr
  refine List.map_congr_left fun t _ => ?_
  have hh := List.mem_range.mp hh
  rw [List.length_map,List.length_map,zgj hh,← Rg.zp0 R.hW hn h1 (rw' rows n) (fun w _ => zn8 rows n w) hh t]
  congr 2
  unfold col
  rw [List.map_map,List.count_eq_countP,List.countP_map]
  refine List.countP_congr fun o _ => ?_
  have e : ((fun dl : List Nat => dl.getD h 0) ∘ zed rows n) o = rw' rows n o h := by
    show (zed rows n o).getD h 0 = _
    unfold zed
    rw [List.getD_eq_getElem?_getD,List.getElem?_map,List.getElem?_range hh]; rfl
  simp only [Function.comp_apply] at e ⊢
  rw [e]; simp
theorem rotG {α : Type} {A : List α} {i j : Nat} (hi : i≤A.length) (hj : j < A.length) : (A.drop i++A.take i)[j]? = A[(j + i) % A.length]? := by
  by_cases h : j < A.length - i
  · rw [List.getElem?_append_left (by simpa using h),List.getElem?_drop,Nat.mod_eq_of_lt (by omega),Nat.add_comm]
  · rw [List.getElem?_append_right (by simp; omega),List.length_drop,List.getElem?_take_of_lt (by omega)]
    rw [Nat.mod_eq_sub_mod (by omega),Nat.mod_eq_of_lt (by omega)]
    congr 1; omega
theorem zmQ (R : Rws rows n n) (k : Nat) : Rws (rows.drop k++rows.take k) n n := by
  refine ⟨R.n1,R.n7,R.nm,R.m8,?_,fun row hr => R.rp row ?_⟩
  · rw [List.length_append,List.length_drop,List.length_take]
    have := R.rl; omega
  · rcases List.mem_append.mp hr with z | z
    · exact List.mem_of_mem_drop z
    · exact List.mem_of_mem_take z
theorem zoE (R : Rws rows n n) {k : Nat} (hk : k < n) {h : Nat} (hh : h < n) : Wr (rows.drop k++rows.take k) h = Wr rows ((h + k) % n) := by
  unfold Wr
  have hl := R.rl
  rw [rotG (by omega) (by omega),R.rl]
theorem zmR (R : Rws rows n n) (h5 : n≤5) {rs : List (List Nat)} (h1 : ∀ r : List Nat,r∈rs↔r.Perm (List.range n)) (h2 : rs.length = fc n) {k : Nat} (hk : k < n) : lotT rs (rows.drop k++rows.take k) n n = (lotT rs rows n n).drop k++(lotT rs rows n n).take k := by
  have hn := Rg.zsc h5 h1 (by rw [h2,zmg])
  have len : (lotT rs rows n n).length = n := by unfold lotT; simp
  have hfi : ∀ h,h < n→∀ l,l < n→(h + k) % n = (l + k) % n→h = l := fun h hh l hl e => by
    have e1 : (h + k) % n = if h + k < n then h + k else h + k - n := by
      by_cases z : h + k < n
      · rw [if_pos z,Nat.mod_eq_of_lt z]
      · rw [if_neg z,Nat.mod_eq_sub_mod (by omega),Nat.mod_eq_of_lt (by omega)]
    have e2 : (l + k) % n = if l + k < n then l + k else l + k - n := by
      by_cases z : l + k < n
      · rw [if_pos z,Nat.mod_eq_of_lt z]
      · rw [if_neg z,Nat.mod_eq_sub_mod (by omega),Nat.mod_eq_of_lt (by omega)]
    rw [e1,e2] at e
    split at e <;> split at e <;> omega
  refine List.ext_getElem? fun j => ?_
  by_cases hj : j < n
  · rw [rotG (by omega) (by omega),len]
    have hm : (j + k) % n < n := Nat.mod_lt _ (by omega)
    unfold lotT
    rw [List.getElem?_map,List.getElem?_map,List.getElem?_range hj,List.getElem?_range hm]
    show some _ = some _
    congr 1
    unfold shr
    refine List.map_congr_left fun t _ => ?_
    rw [List.length_map,List.length_map,zgj hj,zgj hm,Rg.zpZ (W := Wr rows) (f := fun h => (h + k) % n) (fun h _ => Nat.mod_lt _ (by omega)) hfi (fun h hh => zoE R hk hh) hn h1 hj t]
  · rw [List.getElem?_eq_none (by unfold lotT; simp; omega),List.getElem?_eq_none (by rw [List.length_append,List.length_drop,List.length_take]; omega)]
theorem zrh {N : Nat} (hN : 0 < N) {a : Int × Nat} (w : W N a N) (hc : Int.gcd a.1 (a.2 : Nat) = 1) : a = (1,1) := by
  have h1 : a.1 = (a.2 : Int) := by
    have := w.2
    rw [Int.mul_comm] at this
    exact Int.eq_of_mul_eq_mul_left (show (N : Int)≠0 by omega) this
  have h2 : a.2 = 1 := by
    rw [h1] at hc
    have : Int.gcd (a.2 : Int) (a.2 : Int) = a.2 := by simp [Int.gcd]
    omega
  refine Prod.ext ?_ h2
  rw [h1,h2]; rfl
theorem zrq (c N : Nat) : 0≤(low (c : Int) N).1 := Int.ediv_nonneg (by omega) (by omega)
theorem zjl {d0 : D} {N : Nat} (hN : 0 < N) (hN2 : N≤120) : ∀ (cs : List Nat) (k S : Nat) (acc : Int × Nat) (x : Option D),(∀ c∈cs,c≤N)→Bd k acc→W N acc S→Int.gcd acc.1 (acc.2 : Nat) = 1→k + 8 * cs.length≤498 →
    ∃ (a : Int × Nat) (y : Option D),W N a (S + cs.sum)∧Int.gcd a.1 (a.2 : Nat) = 1∧forF (ftN 2) zb7 ((cs.map fun c : Nat => low (c : Int) N).map FR) [some d0,some (FR acc),x] = .nx [some d0,some (FR a),y]
  | [],k,S,acc,x,_,_,hw,hc,_ => ⟨acc,x,by simpa using hw,hc,za3⟩
  | c::cs,k,S,acc,x,hcs,hb,hw,hc,hl => by
    rw [List.length_cons] at hl
    have hcN := hcs c List.mem_cons_self
    have bc : Bd 7 (low (c : Int) N) := Bd.low hN (by show N < 128; omega) (by rw [Int.natAbs_natCast]; show c < 128; omega)
    obtain ⟨a,y,h1,h2,h3⟩ := zjl (d0 := d0) hN hN2 cs (k + 8) (S + c) (zlo acc (low (c : Int) N)) (some (FR (low (c : Int) N))) (fun z hz => hcs z (List.mem_cons_of_mem _ hz)) ((hb.plus bc).mono (by omega)) (hw.plus (W.low hN)) (zlO _ (Nat.mul_pos hb.pos bc.pos)) (by omega)
    refine ⟨a,y,by rw [List.sum_cons,← Nat.add_assoc]; exact h1,h2,?_⟩
    rw [List.map_cons,List.map_cons,← h3]
    refine zbI (r1 := [some d0,some (FR acc),some (FR (low (c : Int) N))]) rfl ?_
    have hlt : ltI (.int (low (c : Int) N).1) (.int 0) = some (.bl false) := by
      show some (D.bl (decide ((low (c : Int) N).1 < 0))) = _
      rw [decide_eq_false (by have := zrq c N; omega)]
    refine (zae ((if_f (zaG (zal (b := .int 0) (zal (a := FR (low (c : Int) N)) rfl rfl (zjR _)) rfl hlt))).trans (e_skip _))).trans ?_
    exact zae (zau (zaj (zad (d := FR acc) rfl (zad (d := FR (low (c : Int) N)) rfl zai)) (zk9 hb bc (by omega))))
theorem zjv {d0 : D} {N : Nat} (hN : 0 < N) (hN2 : N≤120) {cs : List Nat} (hs : zbn d0 = some ((cs.map fun c : Nat => low (c : Int) N).map FR)) (hc : ∀ c∈cs,c≤N) (hl : cs.length≤60) (hsum : cs.sum = N) : zax [d0] = .ok (.bl true) := by
  obtain ⟨a,y,h1,h2,h3⟩ := zjl (d0 := d0) hN hN2 cs 1 0 (0,1) none hc bd01 ⟨by decide,by simp⟩ (by decide) (by omega)
  rw [Nat.zero_add,hsum] at h1
  have ea := zrh hN h1 h2
  rw [ea] at h3
  refine zaH (B := za7) (n := 3) ?_
  unfold za7
  refine (zae (zau (d := FR (0,1)) (zgN (zad (d := .int 0) rfl (zad (d := .int 1) rfl zai)) (by simp)))).trans ?_
  refine (zae ((za0 (zeF (d := d0) rfl hs)).trans h3)).trans ?_
  refine zaw (zaE (zal (a := FR (1,1)) (b := FR (1,1)) rfl (zgN (zad (d := .int 1) rfl (zad (d := .int 1) rfl zai)) (by simp)) ?_))
  unfold eqD
  have sh : Shp 60 (FR (1,1)) := zeY.mpr fun e he => by
    simp at he
    rcases he with rfl | rfl <;> trivial
  rw [zjY rfl sh sh]
  unfold eqb
  simp [toPy,zdD,PyData.eqv,PyData.eqvAll]
theorem zpz {rs : List (List Nat)} (R : Rws rows n n) (h5 : n≤5) (h1 : ∀ r∈rs,r.Perm (List.range n)) (h2 : rs.length = fc n) {h : Nat} (hh : h < n) : zax [TF (shr (rs.map (zc6 rows n n)) n h)] = .ok (.bl true) := by
  have hfc := zkD h5
  have hfp := zgS n
  refine zjv (N := rs.length) (cs := (List.range n).map fun t => (col (rs.map (zc6 rows n n)) h).count t) (by omega) (by omega) ?_ (fun c hc => ?_) (by simp; omega) ?_
  · show some (List.map FR (shr (rs.map (zc6 rows n n)) n h)) = _
    unfold shr
    rw [List.map_map,List.length_map,List.map_map,List.map_map]; rfl
  · obtain ⟨t,_,rfl⟩ := List.mem_map.mp hc
    have := zmw (col (rs.map (zc6 rows n n)) h) t
    rwa [zi9,List.length_map] at this
  · rw [← Rg.zsz (W := Wr rows) R.hW h1 hh]
    congr 1
    exact List.map_congr_left fun t _ => zgj hh t
theorem zpA {rs : List (List Nat)} (R : Rws rows n n) (h5 : n≤5) (h1 : ∀ r∈rs,r.Perm (List.range n)) (h2 : rs.length = fc n) {x : Nat} (hx : x < n) : zax [LF ((lotT rs rows n n).map fun r => shOf r x)] = .ok (.bl true) := by
  have hfc := zkD h5
  have hfp := zgS n
  refine zjv (N := rs.length) (cs := (List.range n).map fun h => (col (rs.map (zc6 rows n n)) h).count x) (by omega) (by omega) ?_ (fun c hc => ?_) (by simp; omega) ?_
  · show some (List.map FR ((lotT rs rows n n).map fun r => shOf r x)) = _
    unfold lotT
    rw [List.map_map,List.map_map,List.map_map,List.map_map]
    congr 1
    refine List.map_congr_left fun h _ => ?_
    show FR (shOf (shr (rs.map (zc6 rows n n)) n h) x) = FR (low _ _)
    rw [zql hx,List.length_map]
  · obtain ⟨t,_,rfl⟩ := List.mem_map.mp hc
    have := zmw (col (rs.map (zc6 rows n n)) t) x
    rwa [zi9,List.length_map] at this
  · rw [← Rg.zs8 (W := Wr rows) R.hW h1 hx]
    congr 1
    exact List.map_congr_left fun h hh => zgj (List.mem_range.mp hh) x
end
end Law
end
section
set_option exponentiation.threshold 3000
namespace Law
open PySem PyProof.Rows L2 DL Fq
theorem znh {α β : Type} (f : α→β) (l : List α) (lo hi st : Option Int) : zdB (l.map f) lo hi st = (zdB l lo hi st).map f := by
  unfold zdB
  rw [List.length_map,List.map_filterMap]
  congr 1
  funext i
  rw [List.getElem?_map]
theorem zsE (ns : List Int) {a : Int} (ha : 0≤a) : (zdB ns (some a) (some 64) (some 7)).length≤100 := by
  unfold zdB
  refine Nat.le_trans (List.length_filterMap_le _ _) ?_
  have h1 : 0≤(sliceBounds (some a) (some 64) (some 7) ns.length).1 := by
    simp only [sliceBounds,Option.getD_some]
    split <;> omega
  have h2 : (sliceBounds (some a) (some 64) (some 7) ns.length).2.1≤64 := by
    simp only [sliceBounds,Option.getD_some]
    split <;> omega
  have h3 : (sliceBounds (some a) (some 64) (some 7) ns.length).2.2 = 7 := rfl
  generalize sliceBounds (some a) (some 64) (some 7) ns.length = p at h1 h2 h3
  obtain ⟨p1,p2,p3⟩ := p
  simp only at h1 h2 h3
  subst h3
  unfold sliceRange
  simp only [List.length_map,List.length_range]
  split <;> split <;> omega
theorem zr0 {f : FE} {r : Rho} {d : D} {ds : List D} (h : f r = .ok d) (h2 : zbn d = some ds) : fEnu f r = .ok (enuD 0 ds) := by unfold fEnu; rw [h,bind_ok,h2]; rfl
theorem zqk {fa : FE} {fl fh fs : FP} {r : Rho} {d d' : D} {lo hi st : Option Int} (h1 : fa r = .ok d) (h2 : fl r = .ok lo) (h3 : fh r = .ok hi) (h4 : fs r = .ok st) (h5 : slS d lo hi st = some d') : fSlS fa fl fh fs r = .ok d' := by
  unfold fSlS; rw [h1,bind_ok,h2,bind_ok,h3,bind_ok,h4,bind_ok,h5]; rfl
theorem zn5 {fa : FE} {fl fh : FP} {r : Rho} {d d' : D} {lo hi : Option Int} (h1 : fa r = .ok d) (h2 : fl r = .ok lo) (h3 : fh r = .ok hi) (h4 : slA d lo hi = some d') : fSlA fa fl fh r = .ok d' := by
  unfold fSlA; rw [h1,bind_ok,h2,bind_ok,h3,bind_ok,h4]; rfl
theorem catP {a b : List D} (h : a.length + b.length≤1000) : catL (.lst a) (.lst b) = some (.lst (a++b)) := by
  show (if a.length + b.length≤sizeLine then some (D.lst (a++b)) else none) = _
  rw [if_pos (by rw [sizeLine_eq]; omega)]
theorem ziz {d0 d1 d2 d3 : D} : ∀ (ps : List Int) (i : Nat) (t : Int) (x5 x6 : Option D),i + ps.length≤1000 →
    ∃ (t' : Int) (y5 y6 : Option D),forF (ftT (zc3 (ftN 5) (zc3 (ftN 6) zi0))) zfy (enuD i (ps.map D.int)) [some d0,some d1,some d2,some d3,some (.int t),x5,x6] = .nx [some d0,some d1,some d2,some d3,some (.int t'),y5,y6]
  | [],i,t,x5,x6,_ => ⟨t,x5,x6,za3⟩
  | p::ps,i,t,x5,x6,h => by
    rw [List.length_cons] at h
    have hp : powI (.int 10) (.int 30) = some (.int (10 ^ 30)) := by
      show zge CPow _ _ _ = _
      rw [intsC_int,if_pos (by unfold CPow; decide)]
      rfl
    obtain ⟨t',y5,y6,ih⟩ := ziz (d0 := d0) (d1 := d1) (d2 := d2) (d3 := d3) ps (i + 1) (t + ((i : Int) + 1) * (p % (10 ^ 30))) (some (.int i)) (some (.int p)) (by omega)
    refine ⟨t',y5,y6,?_⟩
    rw [List.map_cons,show enuD i (D.int p::ps.map D.int) = D.tup [.int i,.int p]::enuD (i + 1) (ps.map D.int) from rfl,← ih]
    refine zbI (r1 := [some d0,some d1,some d2,some d3,some (.int t),some (.int i),some (.int p)]) rfl ?_
    exact zae (zau (d := .int (t + ((i : Int) + 1) * (p % (10 ^ 30)))) (zal (a := .int t) rfl (zal (zal (a := .int i) (b := .int 1) rfl rfl rfl) (zal (a := .int p) rfl (zal (a := .int 10) (b := .int 30) rfl rfl hp) (zhl (by decide))) (zlG (.inl ⟨by omega,by omega⟩))) rfl))
theorem ziy (ns : List Int) : ∀ (j i : Nat) (found : List Int) (x3 x4 x5 x6 : Option D),found.length + j≤100→i + j≤100 →
    ∃ (found' : List Int) (y3 y4 y5 y6 : Option D),found'.length = found.length + j∧forF (ftN 3) zfx ((List.range' i j).map nD) [some (IN ns),some (nD 7),some (IN found),x3,x4,x5,x6] = .nx [some (IN ns),some (nD 7),some (IN found'),y3,y4,y5,y6]
  | 0,i,found,x3,x4,x5,x6,_,_ => ⟨found,x3,x4,x5,x6,rfl,za3⟩
  | j + 1,i,found,x3,x4,x5,x6,hf,hi => by
    have hl := zsE ns (a := 1 + (i : Int)) (by omega)
    obtain ⟨t,y5,y6,e1⟩ := ziz (d0 := IN ns) (d1 := nD 7) (d2 := IN found) (d3 := nD i) (zdB ns (some (1 + (i : Int))) (some 64) (some 7)) 0 0 x5 x6 (by omega)
    obtain ⟨found',z3,z4,z5,z6,l,e2⟩ := ziy ns j (i + 1) (found++[t]) (some (nD i)) (some (.int t)) y5 y6 (by simp; omega) (by omega)
    refine ⟨found',z3,z4,z5,z6,by rw [l]; simp; omega,?_⟩
    rw [List.range'_succ,List.map_cons,← e2]
    refine zbI (r1 := [some (IN ns),some (nD 7),some (IN found),some (nD i),x4,x5,x6]) rfl ?_
    refine (zae (zau (d := .int 0) rfl)).trans ?_
    have es : slS (IN ns) (some (1 + (i : Int))) (some 64) (some 7) = some (IN (zdB ns (some (1 + (i : Int))) (some 64) (some 7))) := by
      show (if (some 7 : Option Int) = some 0 then none else some (D.lst (zdB (ns.map D.int) (some (1 + (i : Int))) (some 64) (some 7)))) = _
      rw [if_neg (by decide),znh]
    refine (zae ((za0 (zr0 (zqk (d := IN ns) rfl (zeo (i := 1 + (i : Int)) rfl) (zeo (i := 64) rfl) (zeo (i := 7) rfl) es) rfl)).trans e1)).trans ?_
    have ef : IN (found++[t]) = D.lst (found.map D.int++[D.int t]) := by
      show D.lst ((found++[t]).map D.int) = _
      rw [List.map_append]; rfl
    rw [ef]
    exact zae (zfn (d := IN found) (ds := [.int t]) rfl rfl (zad (d := .int t) rfl zai) (zgm (by simp; omega)))
theorem zm4 (ns : List Int) : ∃ cs : List Int,cs.length = 7∧zdY [IN ns,nD 7] = .ok (IN cs) := by
  obtain ⟨cs,y3,y4,y5,y6,l,e⟩ := ziy ns 7 0 [] none none none none (by simp) (by omega)
  rw [← List.range_eq_range'] at e
  refine ⟨cs,by simpa using l,zaH (B := zd4) (n := 7) ?_⟩
  unfold zd4
  refine (zae (zau (d := IN []) (zee zai (by simp)))).trans ?_
  refine (zae ((za0 (zdj (zad (d := nD 7) rfl zai) (zeJ (by omega)))).trans e)).trans ?_
  exact zaw (zaE (d := IN cs) rfl)
theorem zrW (l : List (Int × Nat)) : PyData.eqv (toPy (TF l)) (toPy (TF l)) = true := by
  simp only [toPy,PyData.eqv]; exact zjW l
theorem zik : ∀ t : List (List (Int × Nat)),PyData.eqvAll (zdD (t.map TF)) (zdD (t.map TF)) = true
  | [] => by simp [zdD,PyData.eqvAll]
  | l::t => by
    have h1 := zrW l
    have h2 := zik t
    simp only [List.map_cons,zdD,PyData.eqvAll,h1,h2,Bool.and_self]
theorem zmk (t : List (List (Int × Nat))) : eqB (TTF t) (TTF t) = some true := by
  have sh : Shp 60 (TTF t) := zeY.mpr fun d hd => by
    obtain ⟨l,_,rfl⟩ := List.mem_map.mp hd
    exact zeY.mpr zss
  rw [zjY rfl sh sh]
  unfold eqb
  simp only [toPy,PyData.eqv,zik]
theorem zmj (t : List (List (Int × Nat))) : eqD (TTF t) (TTF t) = some (.bl true) := by unfold eqD; rw [zmk]; rfl
theorem zpw (t : List (List (Int × Nat))) : neD (TTF t) (TTF t) = some (.bl false) := by unfold neD; rw [zmk]; rfl
theorem ziM {α : Type} (f : α→D) {l : List α} {k : Nat} {fa : FE} {fk : FE} {r : Rho} (h1 : fa r = .ok (.tup (l.map f))) (h2 : fk r = .ok (nD k)) (hk : k≤l.length) (hl : l.length≤500) : f2 (fSlA fa (zd5 fk) (fun _ => Res.ok none)) (fSlA fa (fun _ => Res.ok none) (zd5 fk)) addE r = .ok (.tup ((l.drop k++l.take k).map f)) := by
  refine zal (a := .tup ((l.drop k).map f)) (b := .tup ((l.take k).map f)) (zn5 h1 (zeo (i := (k : Int)) h2) rfl ?_) (zn5 h1 rfl (zeo (i := (k : Int)) h2) ?_) ?_
  · show some (D.tup (cutL (l.map f) (some (k : Int)) none)) = _
    rw [znN (by simpa using hk),List.map_drop]
  · show some (D.tup (cutL (l.map f) none (some (k : Int)))) = _
    rw [zr4 (by simpa using hk),List.map_take]
  · rw [zsd (by simp; omega),List.map_append]
theorem main (ns : List Int) (_ : ns.length≤63) : zsg [.lst (ns.map .int)] = .ok (.bl true) := by
  obtain ⟨cs,cl,ca⟩ := zm4 ns
  refine zaH (B := znZ) (n := 8) ?_
  unfold znZ
  refine (zae (zau (d := IN (0::cs)) (zal (a := .lst [.int 0]) (zee (zad (d := .int 0) rfl zai) (by simp)) (zaj (zad (d := IN ns) rfl (zad (d := nD 7) rfl zai)) ca) (catP (by simp [cl]))))).trans ?_
  have hcells : ∃ cells : List Int,(ifF q102 (zaL (f2 (fC (zac (gv 0) lNil) lenD) (ci 0) gtI)) (seqF (putF q102 1 (ci 0) (f2 (gv 0) (ci 0) ixA)) zak) zak) [some (IN ns),some (IN (0::cs)),none,none,none,none,none,none] = .nx [some (IN ns),some (IN cells),none,none,none,none,none,none] := by
    have hg := zl7 ns.length 0
    cases ns with
    | nil =>
      rw [decide_eq_false (by simp)] at hg
      exact ⟨0::cs,(if_f (zaG (zal (b := nD 0) (za9 (zad (d := IN []) rfl zai) (zcc _ _)) rfl hg))).trans rfl⟩
    | cons a ns =>
      rw [decide_eq_true (by simp)] at hg
      refine ⟨a::cs,(if_t (zaG (zal (b := nD 0) (za9 (zad (d := IN (a::ns)) rfl zai) (zcc _ _)) rfl hg))).trans ?_⟩
      exact zae (zgK (d := IN (0::cs)) (k := nD 0) (v := .int a) rfl (zal (a := IN (a::ns)) (b := .int 0) rfl rfl (ixA_L0 _ _)) rfl (zqn (by simp)))
  obtain ⟨cells,hcells⟩ := hcells
  refine (zae hcells).trans ?_
  clear hcells ca cl cs
  obtain ⟨c1,hc1⟩ := zhh cells 1 (by omega)
  obtain ⟨c7,hc7⟩ := zhh cells 7 (by omega)
  have hm5 : c1 % 5 < 5 := Nat.mod_lt _ (by omega)
  generalize hn : 1 + c1 % 5 = n
  have hn1 : 1≤n := by omega
  have hn5 : n≤5 := by omega
  refine (zae (zau (d := nD n) (zal (a := nD 1) rfl (zal (b := nD 5) (zaj (zad (d := IN cells) rfl (zad (d := nD 1) rfl zai)) hc1) rfl (zlL (by omega))) (by rw [ziA,hn])))).trans ?_
  have hrow : ∀ h : Nat,∃ row : List Nat,h≤60→row.Perm (List.range n)∧∃ c : Nat,zbg [IN cells,nD (2 + h)] = .ok (nD c)∧zcj [nD c,nD n] = .ok (TN row) := by
    intro h
    by_cases hh : h≤60
    · obtain ⟨c,hc⟩ := zhh cells (2 + h) (by omega)
      obtain ⟨row,h1,h2⟩ := zoT c n (by omega)
      exact ⟨row,fun _ => ⟨h1,c,hc,h2⟩⟩
    · exact ⟨[],fun z => absurd z hh⟩
  obtain ⟨g,hg⟩ := Classical.axiomOfChoice hrow
  have R : Rws ((List.range n).map g) n n := ⟨hn1,by omega,Nat.le_refl _,by omega,by simp,fun row hr => by
    obtain ⟨i,hi,rfl⟩ := List.mem_map.mp hr
    exact (hg i (by have := List.mem_range.mp hi; omega)).1⟩
  have hcomp := zdk (nl := 1) (cap := [2,1]) (fi := fRng rng1 (zac (gv 2) lNil)) (ft := ftN 0) (fe := zat (zac (zat (zac (gv 2) (zac (f2 (ci 2) (gv 0) addA) lNil)) [] zbg) (zac (gv 1) lNil)) [] zcj) (r := [some (IN ns),some (IN cells),some (nD n),none,none,none,none,none]) (l := List.range n) nD (fun h => TN (g h)) (zdj (zad (d := nD n) rfl zai) (zeJ (by omega))) (by simp; omega) fun h hh => ⟨[some (nD h),some (nD n),some (IN cells)],rfl,by
    obtain ⟨_,c,h1,h2⟩ := hg h (by have := List.mem_range.mp hh; omega)
    exact zaj (zad (zaj (zad (d := IN cells) rfl (zad (zal (a := nD 2) (b := nD h) rfl rfl (ziA 2 h)) zai)) h1) (zad (d := nD n) rfl zai)) h2⟩
  have hwd : tupD [.lst ((List.range n).map fun h => TN (g h))] = some (WD ((List.range n).map g)) := by
    rw [e_tupL]
    show some (D.tup _) = some (D.tup (List.map TN _))
    rw [List.map_map]; rfl
  refine (zae (zau (d := WD ((List.range n).map g)) (za9 (zad hcomp zai) hwd))).trans ?_
  generalize (List.range n).map g = rows at R
  clear hwd hcomp hg g hrow
  obtain ⟨rs,h1,h2,h3⟩ := zoW (k := n) hn5
  have h1' : ∀ r∈rs,r.Perm (List.range n) := fun r hr => (h1 r).mp hr
  refine (zae (zau (d := TTF (lotT rs rows n n)) (zaj (zad (d := WD rows) rfl zai) (zla R hn5 h1' h2 h3)))).trans ?_
  have hown := zfZ R hn5 h1' h2 h3
  rw [zly R hn5 h1 h2] at hown
  refine (zae ((if_f ?_).trans (e_skip _))).trans ?_
  · rw [or_f (zc0 (b := true) (zbl (zaj (zad (d := TTF (lotT rs rows n n)) rfl (zad (d := nD n) rfl (zad (d := nD n) rfl zai))) (zhR (zos hn5 h2) (by omega))) rfl))]
    exact zaG (zal (b := TTF (lotT rs rows n n)) (zaj (zad (d := WD rows) rfl zai) hown) rfl (zpw _))
  have lp : ∀ (l : List Nat) (x : Option D),(∀ k∈l,k < n)→∃ y,forF (ftN 5) zmL (l.map nD) [some (IN ns),some (IN cells),some (nD n),some (WD rows),some (TTF (lotT rs rows n n)),x,none,none] = .nx [some (IN ns),some (IN cells),some (nD n),some (WD rows),some (TTF (lotT rs rows n n)),y,none,none] := by
    intro l
    induction l with
    | nil => exact fun x _ => ⟨x,za3⟩
    | cons k l ih =>
      intro x hl
      have hk := hl k List.mem_cons_self
      obtain ⟨y,e⟩ := ih (some (nD k)) fun z hz => hl z (List.mem_cons_of_mem _ hz)
      refine ⟨y,?_⟩
      rw [List.map_cons,← e]
      refine zbI (r1 := [some (IN ns),some (IN cells),some (nD n),some (WD rows),some (TTF (lotT rs rows n n)),some (nD k),none,none]) rfl ?_
      refine zae ((if_f ?_).trans (e_skip _))
      rw [or_f (zc0 (b := true) (zbl (zaj (zad (zal (a := TTF (lotT rs rows n n)) (b := nD k) rfl rfl (zrs hk)) zai) (zpz R hn5 h1' h2 hk)) rfl))]
      refine zc0 (b := true) (zbl (zaj (zad (d := LF ((lotT rs rows n n).map fun r => shOf r k)) ?_ zai) (zpA R hn5 h1' h2 hk)) rfl)
      have T := zos (rows := rows) (m := n) hn5 h2
      have hc := zdk (nl := 1) (cap := [5]) (fi := fSeq zbn (gv 4)) (ft := ftN 0) (fe := f2 (gv 0) (gv 1) ixA) (r := [some (IN ns),some (IN cells),some (nD n),some (WD rows),some (TTF (lotT rs rows n n)),some (nD k),none,none]) (l := lotT rs rows n n) TF (fun r => FR (shOf r k)) (zeF (d := TTF (lotT rs rows n n)) rfl rfl) (by rw [T.len]; omega) fun r hr => ⟨[some (TF r),some (nD k)],rfl,zal (a := TF r) (b := nD k) rfl rfl (zst (by rw [(T.row r hr).1]; exact hk))⟩
      refine hc.trans ?_
      show Res.ok (D.lst _) = Res.ok (D.lst (List.map FR _))
      rw [List.map_map]; rfl
  obtain ⟨y,e⟩ := lp (List.range n) none fun k hk => List.mem_range.mp hk
  refine (zae ((za0 (zdj (zad (d := nD n) rfl zai) (zeJ (by omega)))).trans e)).trans ?_
  have hk : c7 % n < n := Nat.mod_lt _ (by omega)
  refine (zae (zau (d := nD (c7 % n)) (zal (b := nD n) (zaj (zad (d := IN cells) rfl (zad (d := nD 7) rfl zai)) hc7) rfl (zlL (by omega))))).trans ?_
  generalize c7 % n = k at hk
  have len : (lotT rs rows n n).length = n := by unfold lotT; simp
  refine (zae (zau (d := WD (rows.drop k++rows.take k)) (ziM TN rfl rfl (by rw [R.rl]; omega) (by rw [R.rl]; omega)))).trans ?_
  have R' := zmQ R k
  have t1 := zla R' hn5 h1' h2 h3
  have t2 := zfZ R' hn5 h1' h2 h3
  rw [zly R' hn5 h1 h2] at t2
  rw [zmR R hn5 h1 h2 hk] at t1 t2
  refine zaw (zaE ?_)
  rw [zjh (zal (zaj (zad (d := WD (rows.drop k++rows.take k)) rfl zai) t1) (ziM TF rfl rfl (by rw [len]; omega) (by rw [len]; omega)) (zmj _))]
  exact zal (zaj (zad (d := WD (rows.drop k++rows.take k)) rfl zai) t2) (ziM TF rfl rfl (by rw [len]; omega) (by rw [len]; omega)) (zmj _)
end Law
end
open PySem PySem.W PyProof.Rows
set_option maxRecDepth 100000 in
set_option maxHeartbeats 0 in
theorem PySem.Challenge.cw_ringtrade_k25_whole_both_lots_alike_holds : PySem.Challenge.rw_ringtrade_k25_whole_both_lots_alike.Holds := by
  w_on; o_law; k_head; (case hw => w_witness2)
  k_fill
  refine DL.zth (l := PySem.Challenge.rw_ringtrade_k25_whole_both_lots_alike) (k := 10) (x := "_law_script") (F := Law.zsg) rfl rfl ⟨rfl,by decide,by decide⟩ (fun w h Y => PySem.W.kIn_of Y) Law.main ?C
  intro w mg fa h KX G hmg
  have T : Law.Txt (L2.KOf KX) mg := by
    dsimp only [L2.KOf]
    refine ⟨?b_len,?b_abs,?b_isinstance,?b_bool,?b_int,?b_range,?b_tuple,?b_enumerate,?b_list,?b_all,?b_sorted,?k_MOST_HANDS_IN_LOTS⟩
    case b_len => (refine' PySem.W.mg_none_of KX G ?z_b_len; k_is)
    case b_abs => (refine' PySem.W.mg_none_of KX G ?z_b_abs; k_is)
    case b_isinstance => (refine' PySem.W.mg_none_of KX G ?z_b_isinstance; k_is)
    case b_bool => (refine' PySem.W.mg_none_of KX G ?z_b_bool; k_is)
    case b_int => (refine' PySem.W.mg_none_of KX G ?z_b_int; k_is)
    case b_range => (refine' PySem.W.mg_none_of KX G ?z_b_range; k_is)
    case b_tuple => (refine' PySem.W.mg_none_of KX G ?z_b_tuple; k_is)
    case b_enumerate => (refine' PySem.W.mg_none_of KX G ?z_b_enumerate; k_is)
    case b_list => (refine' PySem.W.mg_none_of KX G ?z_b_list; k_is)
    case b_all => (refine' PySem.W.mg_none_of KX G ?z_b_all; k_is)
    case b_sorted => (refine' PySem.W.mg_none_of KX G ?z_b_sorted; k_is)
    case k_MOST_HANDS_IN_LOTS => (refine' DL.ztf KX G ?z_k_MOST_HANDS_IN_LOTS; (case z_k_MOST_HANDS_IN_LOTS => k_is))
  have A_refuse_too_many_for_lots : DL.DefAt (L2.KOf KX) mg "refuse_too_many_for_lots" Law.zba := by
    dsimp only [L2.KOf]
    refine' DL.ztg KX G ?a ?l ?c ?k
    (case a => k_is)
    (case l => k_is)
    (case c => k_is)
    (case k => k_is)
  have A_greatest_divisor : DL.DefAt (L2.KOf KX) mg "greatest_divisor" Law.zcl := by
    dsimp only [L2.KOf]
    refine' DL.ztg KX G ?a ?l ?c ?k
    (case a => k_is)
    (case l => k_is)
    (case c => k_is)
    (case k => k_is)
  have A_is_whole : DL.DefAt (L2.KOf KX) mg "is_whole" Law.zfO := by
    dsimp only [L2.KOf]
    refine' DL.ztg KX G ?a ?l ?c ?k
    (case a => k_is)
    (case l => k_is)
    (case c => k_is)
    (case k => k_is)
  have A_fraction : DL.DefAt (L2.KOf KX) mg "fraction" Law.zfQ := by
    dsimp only [L2.KOf]
    refine' DL.ztg KX G ?a ?l ?c ?k
    (case a => k_is)
    (case l => k_is)
    (case c => k_is)
    (case k => k_is)
  have A_shares_in : DL.DefAt (L2.KOf KX) mg "shares_in" Law.zby := by
    dsimp only [L2.KOf]
    refine' DL.ztg KX G ?a ?l ?c ?k
    (case a => k_is)
    (case l => k_is)
    (case c => k_is)
    (case k => k_is)
  have A_is_below : DL.DefAt (L2.KOf KX) mg "is_below" Law.zfP := by
    dsimp only [L2.KOf]
    refine' DL.ztg KX G ?a ?l ?c ?k
    (case a => k_is)
    (case l => k_is)
    (case c => k_is)
    (case k => k_is)
  have A_first_wrong : DL.DefAt (L2.KOf KX) mg "first_wrong" Law.zd8 := by
    dsimp only [L2.KOf]
    refine' DL.ztg KX G ?a ?l ?c ?k
    (case a => k_is)
    (case l => k_is)
    (case c => k_is)
    (case k => k_is)
  have A_are_unlike : DL.DefAt (L2.KOf KX) mg "are_unlike" Law.zeC := by
    dsimp only [L2.KOf]
    refine' DL.ztg KX G ?a ?l ?c ?k
    (case a => k_is)
    (case l => k_is)
    (case c => k_is)
    (case k => k_is)
  have A_has_each_once : DL.DefAt (L2.KOf KX) mg "has_each_once" Law.zdA := by
    dsimp only [L2.KOf]
    refine' DL.ztg KX G ?a ?l ?c ?k
    (case a => k_is)
    (case l => k_is)
    (case c => k_is)
    (case k => k_is)
  have A_order_of : DL.DefAtD (L2.KOf KX) mg "order_of" Law.zfN [Value.none] := by
    dsimp only [L2.KOf]
    refine' DL.zs6 KX G ?a ?l ?t ?c ?k
    (case a => k_is)
    (case l => k_is)
    (case t => k_is)
    (case c => k_is)
    (case k => k_is)
  have A_dealing_of : DL.DefAt (L2.KOf KX) mg "dealing_of" Law.zb9 := by
    dsimp only [L2.KOf]
    refine' DL.ztg KX G ?a ?l ?c ?k
    (case a => k_is)
    (case l => k_is)
    (case c => k_is)
    (case k => k_is)
  have A_best_left : DL.DefAt (L2.KOf KX) mg "best_left" Law.zcA := by
    dsimp only [L2.KOf]
    refine' DL.ztg KX G ?a ?l ?c ?k
    (case a => k_is)
    (case l => k_is)
    (case c => k_is)
    (case k => k_is)
  have A_things_in : DL.DefAt (L2.KOf KX) mg "things_in" Law.zfd := by
    dsimp only [L2.KOf]
    refine' DL.ztg KX G ?a ?l ?c ?k
    (case a => k_is)
    (case l => k_is)
    (case c => k_is)
    (case k => k_is)
  have A_by_order : DL.DefAtD (L2.KOf KX) mg "by_order" Law.zfR [Value.none] := by
    dsimp only [L2.KOf]
    refine' DL.zs6 KX G ?a ?l ?t ?c ?k
    (case a => k_is)
    (case l => k_is)
    (case t => k_is)
    (case c => k_is)
    (case k => k_is)
  have A_all_orders : DL.DefAt (L2.KOf KX) mg "all_orders" Law.zeD := by
    dsimp only [L2.KOf]
    refine' DL.ztg KX G ?a ?l ?c ?k
    (case a => k_is)
    (case l => k_is)
    (case c => k_is)
    (case k => k_is)
  have A_lot : DL.DefAt (L2.KOf KX) mg "lot" Law.zjq := by
    dsimp only [L2.KOf]
    refine' DL.ztg KX G ?a ?l ?c ?k
    (case a => k_is)
    (case l => k_is)
    (case c => k_is)
    (case k => k_is)
  have A__law_all : DL.DefAt (L2.KOf KX) mg "_law_all" Law.zfU := by
    dsimp only [L2.KOf]
    refine' DL.ztg KX G ?a ?l ?c ?k
    (case a => k_is)
    (case l => k_is)
    (case c => k_is)
    (case k => k_is)
  have A__law_cell : DL.DefAt (L2.KOf KX) mg "_law_cell" Law.zfh := by
    dsimp only [L2.KOf]
    refine' DL.ztg KX G ?a ?l ?c ?k
    (case a => k_is)
    (case l => k_is)
    (case c => k_is)
    (case k => k_is)
  have A__law_row : DL.DefAt (L2.KOf KX) mg "_law_row" Law.zfS := by
    dsimp only [L2.KOf]
    refine' DL.ztg KX G ?a ?l ?c ?k
    (case a => k_is)
    (case l => k_is)
    (case c => k_is)
    (case k => k_is)
  have A__law_common : DL.DefAt (L2.KOf KX) mg "_law_common" Law.zd9 := by
    dsimp only [L2.KOf]
    refine' DL.ztg KX G ?a ?l ?c ?k
    (case a => k_is)
    (case l => k_is)
    (case c => k_is)
    (case k => k_is)
  have A__law_is_fraction : DL.DefAt (L2.KOf KX) mg "_law_is_fraction" Law.zcn := by
    dsimp only [L2.KOf]
    refine' DL.ztg KX G ?a ?l ?c ?k
    (case a => k_is)
    (case l => k_is)
    (case c => k_is)
    (case k => k_is)
  have A__law_is_table : DL.DefAt (L2.KOf KX) mg "_law_is_table" Law.zbq := by
    dsimp only [L2.KOf]
    refine' DL.ztg KX G ?a ?l ?c ?k
    (case a => k_is)
    (case l => k_is)
    (case c => k_is)
    (case k => k_is)
  have A_is_square : DL.DefAt (L2.KOf KX) mg "is_square" Law.zff := by
    dsimp only [L2.KOf]
    refine' DL.ztg KX G ?a ?l ?c ?k
    (case a => k_is)
    (case l => k_is)
    (case c => k_is)
    (case k => k_is)
  have A_refuse_unless_square : DL.DefAt (L2.KOf KX) mg "refuse_unless_square" Law.zbF := by
    dsimp only [L2.KOf]
    refine' DL.ztg KX G ?a ?l ?c ?k
    (case a => k_is)
    (case l => k_is)
    (case c => k_is)
    (case k => k_is)
  have A_owner_left : DL.DefAt (L2.KOf KX) mg "owner_left" Law.zeB := by
    dsimp only [L2.KOf]
    refine' DL.ztg KX G ?a ?l ?c ?k
    (case a => k_is)
    (case l => k_is)
    (case c => k_is)
    (case k => k_is)
  have A_hand_pointed_at : DL.DefAt (L2.KOf KX) mg "hand_pointed_at" Law.zcz := by
    dsimp only [L2.KOf]
    refine' DL.ztg KX G ?a ?l ?c ?k
    (case a => k_is)
    (case l => k_is)
    (case c => k_is)
    (case k => k_is)
  have A_ring_from : DL.DefAt (L2.KOf KX) mg "ring_from" Law.zfe := by
    dsimp only [L2.KOf]
    refine' DL.ztg KX G ?a ?l ?c ?k
    (case a => k_is)
    (case l => k_is)
    (case c => k_is)
    (case k => k_is)
  have A_rings_of_round : DL.DefAt (L2.KOf KX) mg "rings_of_round" Law.zaJ := by
    dsimp only [L2.KOf]
    refine' DL.ztg KX G ?a ?l ?c ?k
    (case a => k_is)
    (case l => k_is)
    (case c => k_is)
    (case k => k_is)
  have A_got_in : DL.DefAt (L2.KOf KX) mg "got_in" Law.zhB := by
    dsimp only [L2.KOf]
    refine' DL.ztg KX G ?a ?l ?c ?k
    (case a => k_is)
    (case l => k_is)
    (case c => k_is)
    (case k => k_is)
  have A_rounds : DL.DefAtD (L2.KOf KX) mg "rounds" Law.zcW [Value.none] := by
    dsimp only [L2.KOf]
    refine' DL.zs6 KX G ?a ?l ?t ?c ?k
    (case a => k_is)
    (case l => k_is)
    (case t => k_is)
    (case c => k_is)
    (case k => k_is)
  have A_by_rings : DL.DefAtD (L2.KOf KX) mg "by_rings" Law.zek [Value.none] := by
    dsimp only [L2.KOf]
    refine' DL.zs6 KX G ?a ?l ?t ?c ?k
    (case a => k_is)
    (case l => k_is)
    (case t => k_is)
    (case c => k_is)
    (case k => k_is)
  have A_lot_of_ownings : DL.DefAt (L2.KOf KX) mg "lot_of_ownings" Law.zbh := by
    dsimp only [L2.KOf]
    refine' DL.ztg KX G ?a ?l ?c ?k
    (case a => k_is)
    (case l => k_is)
    (case c => k_is)
    (case k => k_is)
  have A__law_low : DL.DefAt (L2.KOf KX) mg "_law_low" Law.zfT := by
    dsimp only [L2.KOf]
    refine' DL.ztg KX G ?a ?l ?c ?k
    (case a => k_is)
    (case l => k_is)
    (case c => k_is)
    (case k => k_is)
  have A__law_plus : DL.DefAt (L2.KOf KX) mg "_law_plus" Law.zfg := by
    dsimp only [L2.KOf]
    refine' DL.ztg KX G ?a ?l ?c ?k
    (case a => k_is)
    (case l => k_is)
    (case c => k_is)
    (case k => k_is)
  have A__law_sums_to_one : DL.DefAt (L2.KOf KX) mg "_law_sums_to_one" Law.zcm := by
    dsimp only [L2.KOf]
    refine' DL.ztg KX G ?a ?l ?c ?k
    (case a => k_is)
    (case l => k_is)
    (case c => k_is)
    (case k => k_is)
  have A_law : DL.DefAt (L2.KOf KX) mg "law" Law.zgG := by
    dsimp only [L2.KOf]
    refine' DL.ztg KX G ?a ?l ?c ?k
    (case a => k_is)
    (case l => k_is)
    (case c => k_is)
    (case k => k_is)
  refine DL.zte hmg A_law (fun _ _ _ _ _ _ us hl => match us,hl with | [_],_ => rfl) fun f fd Fn base => ?_
  have C_refuse_too_many_for_lots := Law.zf5 (P := PySem.Challenge.rw_ringtrade_k25_whole_both_lots_alike.prog) (w := w) (base := base) T A_refuse_too_many_for_lots
  have C_greatest_divisor := Law.ziO (P := PySem.Challenge.rw_ringtrade_k25_whole_both_lots_alike.prog) (w := w) (base := base) T A_greatest_divisor
  have C_is_whole := Law.zpm (P := PySem.Challenge.rw_ringtrade_k25_whole_both_lots_alike.prog) (w := w) (base := base) T A_is_whole
  have C_fraction := Law.zpo (P := PySem.Challenge.rw_ringtrade_k25_whole_both_lots_alike.prog) (w := w) (base := base) T A_fraction C_is_whole C_greatest_divisor
  have C_shares_in := Law.zok (P := PySem.Challenge.rw_ringtrade_k25_whole_both_lots_alike.prog) (w := w) (base := base) T A_shares_in C_fraction
  have C_is_below := Law.zpn (P := PySem.Challenge.rw_ringtrade_k25_whole_both_lots_alike.prog) (w := w) (base := base) T A_is_below C_is_whole
  have C_first_wrong := Law.zmO (P := PySem.Challenge.rw_ringtrade_k25_whole_both_lots_alike.prog) (w := w) (base := base) T A_first_wrong C_is_below
  have C_are_unlike := Law.znq (P := PySem.Challenge.rw_ringtrade_k25_whole_both_lots_alike.prog) (w := w) (base := base) T A_are_unlike C_first_wrong
  have C_has_each_once := Law.zkO (P := PySem.Challenge.rw_ringtrade_k25_whole_both_lots_alike.prog) (w := w) (base := base) T A_has_each_once C_are_unlike
  have C_order_of := Law.zpl (P := PySem.Challenge.rw_ringtrade_k25_whole_both_lots_alike.prog) (w := w) (base := base) T A_order_of C_has_each_once
  have C_dealing_of := Law.znp (P := PySem.Challenge.rw_ringtrade_k25_whole_both_lots_alike.prog) (w := w) (base := base) T A_dealing_of
  have C_best_left := Law.zoo (P := PySem.Challenge.rw_ringtrade_k25_whole_both_lots_alike.prog) (w := w) (base := base) T A_best_left
  have C_things_in := Law.zoj (P := PySem.Challenge.rw_ringtrade_k25_whole_both_lots_alike.prog) (w := w) (base := base) T A_things_in
  have C_by_order := Law.zpq (P := PySem.Challenge.rw_ringtrade_k25_whole_both_lots_alike.prog) (w := w) (base := base) T A_by_order C_things_in C_order_of C_best_left C_dealing_of
  have C_all_orders := Law.znr (P := PySem.Challenge.rw_ringtrade_k25_whole_both_lots_alike.prog) (w := w) (base := base) T A_all_orders
  have C_lot := Law.ztc (P := PySem.Challenge.rw_ringtrade_k25_whole_both_lots_alike.prog) (w := w) (base := base) T A_lot C_refuse_too_many_for_lots C_all_orders C_by_order C_things_in C_shares_in
  have C__law_all := Law.zpt (P := PySem.Challenge.rw_ringtrade_k25_whole_both_lots_alike.prog) (w := w) (base := base) T A__law_all
  have C__law_cell := Law.zoq (P := PySem.Challenge.rw_ringtrade_k25_whole_both_lots_alike.prog) (w := w) (base := base) T A__law_cell
  have C__law_row := Law.zpr (P := PySem.Challenge.rw_ringtrade_k25_whole_both_lots_alike.prog) (w := w) (base := base) T A__law_row
  have C__law_common := Law.zmP (P := PySem.Challenge.rw_ringtrade_k25_whole_both_lots_alike.prog) (w := w) (base := base) T A__law_common
  have C__law_is_fraction := Law.ziQ (P := PySem.Challenge.rw_ringtrade_k25_whole_both_lots_alike.prog) (w := w) (base := base) T A__law_is_fraction C__law_common
  have C__law_is_table := Law.zkP (P := PySem.Challenge.rw_ringtrade_k25_whole_both_lots_alike.prog) (w := w) (base := base) T A__law_is_table C__law_is_fraction
  have C_is_square := Law.zom (P := PySem.Challenge.rw_ringtrade_k25_whole_both_lots_alike.prog) (w := w) (base := base) T A_is_square C_things_in
  have C_refuse_unless_square := Law.zhk (P := PySem.Challenge.rw_ringtrade_k25_whole_both_lots_alike.prog) (w := w) (base := base) T A_refuse_unless_square C_is_square
  have C_owner_left := Law.zno (P := PySem.Challenge.rw_ringtrade_k25_whole_both_lots_alike.prog) (w := w) (base := base) T A_owner_left
  have C_hand_pointed_at := Law.zjG (P := PySem.Challenge.rw_ringtrade_k25_whole_both_lots_alike.prog) (w := w) (base := base) T A_hand_pointed_at C_owner_left
  have C_ring_from := Law.zol (P := PySem.Challenge.rw_ringtrade_k25_whole_both_lots_alike.prog) (w := w) (base := base) T A_ring_from
  have C_rings_of_round := Law.zkq (P := PySem.Challenge.rw_ringtrade_k25_whole_both_lots_alike.prog) (w := w) (base := base) T A_rings_of_round C_best_left C_hand_pointed_at C_ring_from
  have C_got_in := Law.zrj (P := PySem.Challenge.rw_ringtrade_k25_whole_both_lots_alike.prog) (w := w) (base := base) T A_got_in
  have C_rounds := Law.zri (P := PySem.Challenge.rw_ringtrade_k25_whole_both_lots_alike.prog) (w := w) (base := base) T A_rounds C_order_of C_things_in C_rings_of_round C_got_in
  have C_by_rings := Law.zpp (P := PySem.Challenge.rw_ringtrade_k25_whole_both_lots_alike.prog) (w := w) (base := base) T A_by_rings C_rounds C_got_in C_dealing_of
  have C_by_rings' := Law.zon (P := PySem.Challenge.rw_ringtrade_k25_whole_both_lots_alike.prog) (w := w) (base := base) T A_by_rings C_rounds C_got_in C_dealing_of
  have C_lot_of_ownings := Law.zkr (P := PySem.Challenge.rw_ringtrade_k25_whole_both_lots_alike.prog) (w := w) (base := base) T A_lot_of_ownings C_refuse_unless_square C_refuse_too_many_for_lots C_all_orders C_by_rings' C_things_in C_shares_in
  have C__law_low := Law.zps (P := PySem.Challenge.rw_ringtrade_k25_whole_both_lots_alike.prog) (w := w) (base := base) T A__law_low C__law_common
  have C__law_plus := Law.zop (P := PySem.Challenge.rw_ringtrade_k25_whole_both_lots_alike.prog) (w := w) (base := base) T A__law_plus C__law_low
  have C__law_sums_to_one := Law.ziP (P := PySem.Challenge.rw_ringtrade_k25_whole_both_lots_alike.prog) (w := w) (base := base) T A__law_sums_to_one C__law_plus
  exact Law.ztd T Fn C__law_all C__law_cell C__law_row C_lot C_lot_of_ownings C__law_is_table C__law_sums_to_one
